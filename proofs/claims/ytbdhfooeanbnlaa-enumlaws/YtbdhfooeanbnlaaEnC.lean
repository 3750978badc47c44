/- Walks of the calls of enum. -/
import Derived.Test.YtbdhfooeanbnlaaEnB
namespace Go.Proofs.Ytbdhfooeanbnlaa
open Go.RowKit Go.Lib Go.Sort
set_option linter.unusedVariables false
set_option linter.unusedSimpArgs false
set_option maxRecDepth 100000
theorem EnC_is1_22 : Is1 Try.prog 22 := ⟨⟨_, Try.underlying22, rfl⟩, by kernel_rfl⟩
theorem EnC_is1_55 : Is1 Try.prog 55 := ⟨⟨_, Try.underlying55, rfl⟩, by kernel_rfl⟩
theorem EnC_is1_61 : Is1 Try.prog 61 := ⟨⟨_, Try.underlying61, rfl⟩, by kernel_rfl⟩
theorem EnC_fld_25_0 : FieldAt Try.prog 25 0 0 := ⟨_, _, Try.underlying25, rfl, rfl, by kernel_rfl⟩
theorem EnC_isS_25 : IsS Try.prog 25 2 := ⟨⟨_, Try.underlying25⟩, by kernel_rfl⟩
structure Ask2 (P : Program) (f : FuncId) (w0 : World) (r : Bool → Bool → Bool) : Prop where
  inv : ∀ (us : Array Value) (w : World), (callFunc f us).run P w = .ok (.enter f us) w
  run : ∀ (a b : Bool) (w : World), Calls P f ([Value.bool a, .bool b] ++ ([] : List Value)).toArray w fun e w' => e = .returned (.bool (r a b)) ∧ Below w.heap.size w w'
theorem memS_len (l : List ByteArray) (bs : List Bool) : (memS l bs).length ≤ l.length := by
  unfold memS
  rw [List.length_map]
  refine Nat.le_trans (List.length_filter_le _ _) ?_
  rw [List.length_zip]
  omega
theorem new1_any {w : World} {s : ByteArray} : Calls Try.prog 29 #[.string s] w fun e w' => e = .returned (.bool true) ∧ Below w.heap.size w w' := by
 have hM : Mg w w ([]) := Mg.start w
 refine walk_of (l := [(0, .string s)]) Try.func29 rfl Try.ntmps29 rfl rfl ?_
 intro Q hret hnorm hP a hA
 refine wp_seq_k (fun K1 hK1 => ?_)
 refine wp_region_lit ?_
 refine seq_do hA rfl rfl rfl (does_assign rfl) ?_
 intro a hA
 refine seq_end ?_
 refine hK1 _ _ ?_
 refine wp_seq_k (fun K2 hK2 => ?_)
 refine wp_region_lit ?_
 refine seq_do hA rfl rfl rfl (does_assign rfl) ?_
 intro a hA
 refine seq_end ?_
 refine hK2 _ _ ?_
 refine wp_ret ?_
 refine hret _ _ ?_
 refine ends (v := .bool true) hA rfl (.cons (res_tmp rfl) .nil) rfl ?_
 exact ⟨rfl, hM.bel⟩
theorem asks_new {w : World} : AskS Try.prog 29 [] w (fun _ => true) := ⟨fun us w => by kernel_rfl, fun s w1 hb => new1_any⟩
theorem new_twice {w : World} {so : Option Addr} {ca : Nat} {l : List ByteArray} (hR : Rs w so l) (hl : l.length ≤ 8796093021952) (ht : twS l = true) : Calls Try.prog 7 #[.slice so l.length ca] w fun e w' => e = .returned (.tuple #[.agg #[.slice none 0 0, .slice none 0 0], .int .i64 8]) ∧ Below w.heap.size w w' := by
 have hM : Mg w w ([]) := Mg.start w
 refine walk_of (l := [(0, .slice so l.length ca)]) Try.func7 rfl Try.ntmps7 rfl rfl ?_
 intro Q hret hnorm hP a hA
 refine wp_seq_k (fun K1 hK1 => ?_)
 refine wp_region_lit ?_
 refine s_new (vs := [.slice none 0 0, .slice none 0 0]) (t := 25) hA hM rfl rfl rfl (fun g => .pointer (some ⟨g, 0, none⟩)) (does_alloc (z := .agg #[.slice none 0 0, .slice none 0 0]) (by kernel_rfl) rfl) (by decide) ?_
 intro g2 w3 hM a hA
 refine seq_do hA rfl rfl rfl (does_assign rfl) ?_
 intro a hA
 refine seq_end ?_
 refine hK1 _ _ ?_
 refine wp_seq_k (fun K4 hK4 => ?_)
 refine wp_block ?_
 refine wp_seq_k (fun K5 hK5 => ?_)
 refine wp_region_lit ?_
 refine seq_do hA rfl rfl rfl (does_move rfl) ?_
 intro a hA
 refine seq_call hA rfl rfl rfl (enters_func rfl rfl (fun w => by kernel_rfl)) ((ht ▸ twice_any (hR.below hM.bel) (by omega))) ?_
 rintro _ w7 ⟨rfl, hb6⟩
 replace hM := hM.call hb6
 refine ⟨_, rfl, ?_⟩
 intro a hA
 refine seq_do hA rfl rfl rfl (does_assign rfl) ?_
 intro a hA
 refine seq_end ?_
 refine hK5 _ _ ?_
 refine wp_cond_true (hA.ev rfl) ?_
 refine wp_seq_k (fun K8 hK8 => ?_)
 refine wp_region_lit ?_
 refine seq_do (v := .agg #[.slice none 0 0, .slice none 0 0]) hA rfl rfl rfl (does_build rfl (fun w => by kernel_rfl)) ?_
 intro a hA
 refine s_store (us := [.slice none 0 0, .slice none 0 0]) (L' := (.obj g2 (.cells #[.slice none 0 0, .slice none 0 0] 25) :: [])) hA hM rfl rfl (m_store rfl rfl rfl (by kernel_rfl) hM 0 rfl rfl rfl) 0 rfl rfl rfl ?_
 intro w9 hM
 refine seq_do hA rfl rfl rfl (does_assign rfl) ?_
 intro a hA
 refine seq_end ?_
 refine hK8 _ _ ?_
 refine wp_ret ?_
 refine hret _ _ ?_
 refine ends (v := .tuple #[.agg #[.slice none 0 0, .slice none 0 0], .int .i64 8]) hA rfl (.cons (res_cellS hM EnC_isS_25 rfl 0 rfl (cs := [.slice none 0 0, .slice none 0 0]) rfl rfl) (.cons (res_tmp rfl) .nil)) rfl ?_
 exact ⟨rfl, hM.bel⟩
theorem new_large {w : World} {so : Option Addr} {ca : Nat} {l : List ByteArray} (hR : Rs w so l) (hl : l.length ≤ 8796093021952) (ht : twS l = false) (h64 : 64 < l.length) : Calls Try.prog 7 #[.slice so l.length ca] w fun e w' => e = .returned (.tuple #[.agg #[.slice none 0 0, .slice none 0 0], .int .i64 4]) ∧ Below w.heap.size w w' := by
 have hM : Mg w w ([]) := Mg.start w
 refine walk_of (l := [(0, .slice so l.length ca)]) Try.func7 rfl Try.ntmps7 rfl rfl ?_
 intro Q hret hnorm hP a hA
 refine wp_seq_k (fun K1 hK1 => ?_)
 refine wp_region_lit ?_
 refine s_new (vs := [.slice none 0 0, .slice none 0 0]) (t := 25) hA hM rfl rfl rfl (fun g => .pointer (some ⟨g, 0, none⟩)) (does_alloc (z := .agg #[.slice none 0 0, .slice none 0 0]) (by kernel_rfl) rfl) (by decide) ?_
 intro g2 w3 hM a hA
 refine seq_do hA rfl rfl rfl (does_assign rfl) ?_
 intro a hA
 refine seq_end ?_
 refine hK1 _ _ ?_
 refine wp_seq_k (fun K4 hK4 => ?_)
 refine wp_block ?_
 refine wp_seq_k (fun K5 hK5 => ?_)
 refine wp_region_lit ?_
 refine seq_do hA rfl rfl rfl (does_move rfl) ?_
 intro a hA
 refine seq_call hA rfl rfl rfl (enters_func rfl rfl (fun w => by kernel_rfl)) ((ht ▸ twice_any (hR.below hM.bel) (by omega))) ?_
 rintro _ w7 ⟨rfl, hb6⟩
 replace hM := hM.call hb6
 refine ⟨_, rfl, ?_⟩
 intro a hA
 refine seq_do hA rfl rfl rfl (does_assign rfl) ?_
 intro a hA
 refine seq_end ?_
 refine hK5 _ _ ?_
 refine wp_cond_false (hA.ev rfl) ?_
 refine wp_seq_k (fun K8 hK8 => ?_)
 refine wp_region_lit ?_
 refine seq_do hA rfl rfl rfl (does_move rfl) ?_
 intro a hA
 refine seq_do (v := .int .i64 (((l.length : Nat) : Int))) hA rfl rfl rfl (does_len Try.underlying22 rfl) ?_
 intro a hA
 refine seq_do (v := .bool true) hA rfl rfl rfl (does_bin rfl rfl (fun w => (bin_gtr w).trans (by rw [show (decide (64 < ((l.length : Nat) : Int))) = true from (decide_eq_true (by omega))]))) ?_
 intro a hA
 refine seq_do hA rfl rfl rfl (does_assign rfl) ?_
 intro a hA
 refine seq_end ?_
 refine hK8 _ _ ?_
 refine wp_cond_true (hA.ev rfl) ?_
 refine wp_seq_k (fun K9 hK9 => ?_)
 refine wp_region_lit ?_
 refine seq_do (v := .agg #[.slice none 0 0, .slice none 0 0]) hA rfl rfl rfl (does_build rfl (fun w => by kernel_rfl)) ?_
 intro a hA
 refine s_store (us := [.slice none 0 0, .slice none 0 0]) (L' := (.obj g2 (.cells #[.slice none 0 0, .slice none 0 0] 25) :: [])) hA hM rfl rfl (m_store rfl rfl rfl (by kernel_rfl) hM 0 rfl rfl rfl) 0 rfl rfl rfl ?_
 intro w10 hM
 refine seq_do hA rfl rfl rfl (does_assign rfl) ?_
 intro a hA
 refine seq_end ?_
 refine hK9 _ _ ?_
 refine wp_ret ?_
 refine hret _ _ ?_
 refine ends (v := .tuple #[.agg #[.slice none 0 0, .slice none 0 0], .int .i64 4]) hA rfl (.cons (res_cellS hM EnC_isS_25 rfl 0 rfl (cs := [.slice none 0 0, .slice none 0 0]) rfl rfl) (.cons (res_tmp rfl) .nil)) rfl ?_
 exact ⟨rfl, hM.bel⟩
theorem new_ok {w : World} {so : Option Addr} {ca : Nat} {l : List ByteArray} (hR : Rs w so l) (hs : ∀ s ∈ l, s.size ≤ 281474976710656) (ht : twS l = false) (h64 : l.length ≤ 64) : Calls Try.prog 7 #[.slice so l.length ca] w fun e w' => ∃ so' ca' si' ci', e = .returned (.tuple #[.agg #[.slice so' l.length ca', .slice si' l.length ci'], .int .i64 0]) ∧ Mg w w' [.row 9 1 (.slice so' l.length ca') l.length (strC l), .row 4 1 (.slice si' l.length ci') l.length (boolC (l.map fun _ => true))] := by
 have hM : Mg w w ([]) := Mg.start w
 refine walk_of (l := [(0, .slice so l.length ca)]) Try.func7 rfl Try.ntmps7 rfl rfl ?_
 intro Q hret hnorm hP a hA
 refine wp_seq_k (fun K1 hK1 => ?_)
 refine wp_region_lit ?_
 refine s_new (vs := [.slice none 0 0, .slice none 0 0]) (t := 25) hA hM rfl rfl rfl (fun g => .pointer (some ⟨g, 0, none⟩)) (does_alloc (z := .agg #[.slice none 0 0, .slice none 0 0]) (by kernel_rfl) rfl) (by decide) ?_
 intro g2 w3 hM a hA
 refine seq_do hA rfl rfl rfl (does_assign rfl) ?_
 intro a hA
 refine seq_end ?_
 refine hK1 _ _ ?_
 refine wp_seq_k (fun K4 hK4 => ?_)
 refine wp_block ?_
 refine wp_seq_k (fun K5 hK5 => ?_)
 refine wp_region_lit ?_
 refine seq_do hA rfl rfl rfl (does_move rfl) ?_
 intro a hA
 refine seq_call hA rfl rfl rfl (enters_func rfl rfl (fun w => by kernel_rfl)) ((ht ▸ twice_any (hR.below hM.bel) (by omega))) ?_
 rintro _ w7 ⟨rfl, hb6⟩
 replace hM := hM.call hb6
 refine ⟨_, rfl, ?_⟩
 intro a hA
 refine seq_do hA rfl rfl rfl (does_assign rfl) ?_
 intro a hA
 refine seq_end ?_
 refine hK5 _ _ ?_
 refine wp_cond_false (hA.ev rfl) ?_
 refine wp_seq_k (fun K8 hK8 => ?_)
 refine wp_region_lit ?_
 refine seq_do hA rfl rfl rfl (does_move rfl) ?_
 intro a hA
 refine seq_do (v := .int .i64 (((l.length : Nat) : Int))) hA rfl rfl rfl (does_len Try.underlying22 rfl) ?_
 intro a hA
 refine seq_do (v := .bool false) hA rfl rfl rfl (does_bin rfl rfl (fun w => (bin_gtr w).trans (by rw [show (decide (64 < ((l.length : Nat) : Int))) = false from (decide_eq_false (by omega))]))) ?_
 intro a hA
 refine seq_do hA rfl rfl rfl (does_assign rfl) ?_
 intro a hA
 refine seq_end ?_
 refine hK8 _ _ ?_
 refine wp_cond_false (hA.ev rfl) ?_
 refine wp_skip ?_
 refine hK4 _ _ ?_
 refine wp_seq_k (fun K9 hK9 => ?_)
 refine wp_region_lit ?_
 refine seq_do hA rfl rfl rfl (does_move rfl) ?_
 intro a hA
 refine seq_call hA rfl rfl rfl (enters_func rfl rfl (fun w => by kernel_rfl)) (where_any (hR.below hM.bel) (by omega) hs (cs := []) asks_new) ?_
 rintro _ w15 ⟨so10, ca11, si12, ci13, rfl, hM14⟩
 replace hM : Mg w w15 (.row 9 1 (.slice so10 l.length ca11) l.length (strC l) :: .row 4 1 (.slice si12 l.length ci13) l.length (boolC (l.map (fun _ => true))) :: .obj g2 (.cells #[.slice none 0 0, .slice none 0 0] 25) :: []) := (hM.both hM14 (noBld_cons (by simp) (noBld_quiet quietL_nil)) (noBld_cons (by simp) (noBld_cons (by simp) (noBld_quiet quietL_nil))))
 refine ⟨_, rfl, ?_⟩
 intro a hA
 refine s_store (us := [.slice so10 l.length ca11, .slice si12 l.length ci13]) (L' := (.row 9 1 (.slice so10 l.length ca11) l.length (strC l) :: .row 4 1 (.slice si12 l.length ci13) l.length (boolC (l.map (fun _ => true))) :: .obj g2 (.cells #[.slice so10 l.length ca11, .slice si12 l.length ci13] 25) :: [])) hA hM rfl rfl (m_store rfl rfl rfl (by kernel_rfl) hM 2 rfl rfl rfl) 2 rfl rfl rfl ?_
 intro w16 hM
 refine seq_do hA rfl rfl rfl (does_assign rfl) ?_
 intro a hA
 refine seq_end ?_
 refine hK9 _ _ ?_
 refine wp_ret ?_
 refine hret _ _ ?_
 refine ends (v := .tuple #[.agg #[.slice so10 l.length ca11, .slice si12 l.length ci13], .int .i64 0]) hA rfl (.cons (res_cellS hM EnC_isS_25 rfl 2 rfl (cs := [.slice so10 l.length ca11, .slice si12 l.length ci13]) rfl rfl) (.cons (res_tmp rfl) .nil)) rfl ?_
 replace hM : Mg w w16 (.row 9 1 (.slice so10 l.length ca11) l.length (strC l) :: .row 4 1 (.slice si12 l.length ci13) l.length (boolC (l.map (fun _ => true))) :: []) := by
   have h9 := hM.sub (.cons_cons _ (.cons_cons _ (.cons _ (.refl _))))
   exact h9
 exact ⟨_, _, _, _, rfl, hM⟩
theorem of1_any {w : World} {so : Option Addr} {ca : Nat} {l : List ByteArray} (hR : Rs w so l) (hl : l.length ≤ 8796093021952) {si : Option Addr} {ci : Nat} {bs : List Bool} {g : Nat} (h0 : w.cell? ⟨g, 0, none⟩ = some (.slice so l.length ca)) (h1 : w.cell? ⟨g, 0 + 1, none⟩ = some (.slice si bs.length ci)) {s : ByteArray} : Calls Try.prog 30 #[.string s, .pointer (some ⟨g, 0, none⟩)] w fun e w' => e = .returned (.bool (!decide (0 ≤ idxOfS l s))) ∧ Below w.heap.size w w' := by
 have hM : Mg w w ([]) := Mg.start w
 refine walk_of (l := [(0, .string s), (1, .pointer (some ⟨g, 0, none⟩))]) Try.func30 rfl Try.ntmps30 rfl rfl ?_
 intro Q hret hnorm hP a hA
 refine wp_seq_k (fun K1 hK1 => ?_)
 refine wp_region_lit ?_
 refine seq_do hA rfl rfl rfl (does_assign rfl) ?_
 intro a hA
 refine seq_end ?_
 refine hK1 _ _ ?_
 refine wp_seq_k (fun K2 hK2 => ?_)
 refine wp_region_lit ?_
 refine seq_do (v := .pointer (some ⟨g, 0, none⟩)) hA rfl rfl rfl (does_field EnC_fld_25_0 rfl rfl) ?_
 intro a hA
 refine seq_do hA rfl rfl rfl (m_loadX hM h0 EnC_is1_22 rfl) ?_
 intro a hA
 refine seq_do hA rfl rfl rfl (does_move rfl) ?_
 intro a hA
 refine seq_call hA rfl rfl rfl (enters_func rfl rfl (fun w => by kernel_rfl)) (containsS_any (hR.below hM.bel) hl) ?_
 rintro _ w4 ⟨rfl, hb3⟩
 replace hM := hM.call hb3
 refine ⟨_, rfl, ?_⟩
 intro a hA
 refine seq_do (v := .bool (!(decide (0 ≤ idxOfS l s)))) hA rfl rfl rfl (does_un rfl un_not) ?_
 intro a hA
 refine seq_do hA rfl rfl rfl (does_assign rfl) ?_
 intro a hA
 refine seq_end ?_
 refine hK2 _ _ ?_
 refine wp_ret ?_
 refine hret _ _ ?_
 refine ends (v := .bool (!(decide (0 ≤ idxOfS l s)))) hA rfl (.cons (res_tmp rfl) .nil) rfl ?_
 exact ⟨rfl, hM.bel⟩
theorem of2_any {w : World} {so : Option Addr} {ca : Nat} {l : List ByteArray} (hR : Rs w so l) (hl : l.length ≤ 8796093021952) {g : Nat} (h0 : w.cell? ⟨g, 0, none⟩ = some (.slice so l.length ca)) {s : ByteArray} : Calls Try.prog 33 #[.string s, .pointer (some ⟨g, 0, none⟩)] w fun e w' => e = .returned (.bool (decide (0 ≤ idxOfS l s))) ∧ Below w.heap.size w w' := by
 have hM : Mg w w ([]) := Mg.start w
 refine walk_of (l := [(0, .string s), (1, .pointer (some ⟨g, 0, none⟩))]) Try.func33 rfl Try.ntmps33 rfl rfl ?_
 intro Q hret hnorm hP a hA
 refine wp_seq_k (fun K1 hK1 => ?_)
 refine wp_region_lit ?_
 refine seq_do hA rfl rfl rfl (does_assign rfl) ?_
 intro a hA
 refine seq_end ?_
 refine hK1 _ _ ?_
 refine wp_seq_k (fun K2 hK2 => ?_)
 refine wp_region_lit ?_
 refine seq_do hA rfl rfl rfl (m_loadX hM h0 EnC_is1_22 rfl) ?_
 intro a hA
 refine seq_do hA rfl rfl rfl (does_move rfl) ?_
 intro a hA
 refine seq_call hA rfl rfl rfl (enters_func rfl rfl (fun w => by kernel_rfl)) (containsS_any (hR.below hM.bel) hl) ?_
 rintro _ w4 ⟨rfl, hb3⟩
 replace hM := hM.call hb3
 refine ⟨_, rfl, ?_⟩
 intro a hA
 refine seq_do hA rfl rfl rfl (does_assign rfl) ?_
 intro a hA
 refine seq_end ?_
 refine hK2 _ _ ?_
 refine wp_ret ?_
 refine hret _ _ ?_
 refine ends (v := .bool (decide (0 ≤ idxOfS l s))) hA rfl (.cons (res_tmp rfl) .nil) rfl ?_
 exact ⟨rfl, hM.bel⟩
theorem asks_of1 {w : World} {so : Option Addr} {ca : Nat} {l : List ByteArray} (hR : Rs w so l) (hl : l.length ≤ 8796093021952) {si : Option Addr} {ci : Nat} {bs : List Bool} {g : Nat} (h0 : w.cell? ⟨g, 0, none⟩ = some (.slice so l.length ca)) (h1 : w.cell? ⟨g, 0 + 1, none⟩ = some (.slice si bs.length ci)) : AskS Try.prog 30 [.pointer (some ⟨g, 0, none⟩)] w (fun s => !decide (0 ≤ idxOfS l s)) :=
  ⟨fun us w => by kernel_rfl, fun s w1 hb => of1_any (hR.below hb) hl ((hb.cell (cell_ltE h0)).trans h0) ((hb.cell (cell_ltE h1)).trans h1)⟩
theorem asks_of2 {w : World} {so : Option Addr} {ca : Nat} {l : List ByteArray} (hR : Rs w so l) (hl : l.length ≤ 8796093021952) {g : Nat} (h0 : w.cell? ⟨g, 0, none⟩ = some (.slice so l.length ca)) : AskS Try.prog 33 [.pointer (some ⟨g, 0, none⟩)] w (fun s => decide (0 ≤ idxOfS l s)) :=
  ⟨fun us w => by kernel_rfl, fun s w1 hb => of2_any (hR.below hb) hl ((hb.cell (cell_ltE h0)).trans h0)⟩
theorem containsf_as {w : World} {so : Option Addr} {ca : Nat} {l : List ByteArray} (hR : Rs w so l) (hl : l.length ≤ 8796093021952) {f : FuncId} {cs : List Value} {p : ByteArray → Bool} (hF : AskS Try.prog f cs w p) {b : Bool} (h : l.any p = b) : Calls Try.prog 32 #[.slice so l.length ca, .func (.func f) #[] cs.toArray] w fun e w' => e = .returned (.bool b) ∧ Below w.heap.size w w' := h ▸ containsf_any hR hl hF
theorem of_form {w : World} {so si : Option Addr} {ca ci : Nat} {l : List ByteArray} {bs : List Bool} (hR : Rs w so l) (hB : Rl w si bs) {sy : Option Addr} {cy : Nat} {ys : List ByteArray} (hY : Rs w sy ys) (hly : ys.length ≤ 8796093021952) (hsd : sndS l bs = false) : Calls Try.prog 8 #[.agg #[.slice so l.length ca, .slice si bs.length ci], .slice sy ys.length cy] w fun e w' => e = .returned (.tuple #[.agg #[.slice none 0 0, .slice none 0 0], .int .i64 2]) ∧ Below w.heap.size w w' := by
 have hM : Mg w w ([]) := Mg.start w
 refine walk_of (l := [(0, .agg #[.slice so l.length ca, .slice si bs.length ci]), (1, .slice sy ys.length cy)]) Try.func8 rfl Try.ntmps8 rfl rfl ?_
 intro Q hret hnorm hP a hA
 refine wp_seq_k (fun K1 hK1 => ?_)
 refine wp_region_lit ?_
 refine s_new (vs := [.slice so l.length ca, .slice si bs.length ci]) (t := 25) hA hM rfl rfl rfl (fun g => .pointer (some ⟨g, 0, none⟩)) (does_box rfl rfl) (by decide) ?_
 intro g2 w3 hM a hA
 refine s_new (vs := [.slice sy ys.length cy]) (t := 22) hA hM rfl rfl rfl (fun g => .pointer (some ⟨g, 0, none⟩)) (does_box rfl rfl) (by decide) ?_
 intro g4 w5 hM a hA
 refine s_new (vs := [.slice none 0 0, .slice none 0 0]) (t := 25) hA hM rfl rfl rfl (fun g => .pointer (some ⟨g, 0, none⟩)) (does_alloc (z := .agg #[.slice none 0 0, .slice none 0 0]) (by kernel_rfl) rfl) (by decide) ?_
 intro g6 w7 hM a hA
 refine seq_do hA rfl rfl rfl (does_assign rfl) ?_
 intro a hA
 refine seq_end ?_
 refine hK1 _ _ ?_
 refine wp_seq_k (fun K8 hK8 => ?_)
 refine wp_region_lit ?_
 refine seq_do (v := .func (.func 30) #[] [.pointer (some ⟨g2, 0, none⟩)].toArray) hA rfl rfl rfl (does_makeFunc rfl) ?_
 intro a hA
 refine seq_do hA rfl rfl rfl (does_assign rfl) ?_
 intro a hA
 refine seq_end ?_
 refine hK8 _ _ ?_
 refine wp_seq_k (fun K9 hK9 => ?_)
 refine wp_block ?_
 refine wp_seq_k (fun K10 hK10 => ?_)
 refine wp_region_lit ?_
 refine seq_do hA rfl rfl rfl (m_loadS hM EnC_isS_25 rfl 2 rfl (cs := [.slice so l.length ca, .slice si bs.length ci]) rfl rfl) ?_
 intro a hA
 refine seq_call hA rfl rfl rfl (enters_func rfl rfl (fun w => by kernel_rfl)) (sound_as (hR.below hM.bel) (hB.below hM.bel) hsd) ?_
 rintro _ w12 ⟨rfl, hb11⟩
 replace hM := hM.call hb11
 refine ⟨_, rfl, ?_⟩
 intro a hA
 refine seq_do (v := .bool true) hA rfl rfl rfl (does_un rfl un_not) ?_
 intro a hA
 refine seq_do hA rfl rfl rfl (does_assign rfl) ?_
 intro a hA
 refine seq_end ?_
 refine hK10 _ _ ?_
 refine wp_cond_true (hA.ev rfl) ?_
 refine wp_seq_k (fun K13 hK13 => ?_)
 refine wp_region_lit ?_
 refine seq_do (v := .agg #[.slice none 0 0, .slice none 0 0]) hA rfl rfl rfl (does_build rfl (fun w => by kernel_rfl)) ?_
 intro a hA
 refine s_store (us := [.slice none 0 0, .slice none 0 0]) (L' := (.obj g6 (.cells #[.slice none 0 0, .slice none 0 0] 25) :: .obj g4 (.cells #[.slice sy ys.length cy] 22) :: .obj g2 (.cells #[.slice so l.length ca, .slice si bs.length ci] 25) :: [])) hA hM rfl rfl (m_store rfl rfl rfl (by kernel_rfl) hM 0 rfl rfl rfl) 0 rfl rfl rfl ?_
 intro w14 hM
 refine seq_do hA rfl rfl rfl (does_assign rfl) ?_
 intro a hA
 refine seq_end ?_
 refine hK13 _ _ ?_
 refine wp_ret ?_
 refine hret _ _ ?_
 refine ends (v := .tuple #[.agg #[.slice none 0 0, .slice none 0 0], .int .i64 2]) hA rfl (.cons (res_cellS hM EnC_isS_25 rfl 0 rfl (cs := [.slice none 0 0, .slice none 0 0]) rfl rfl) (.cons (res_tmp rfl) .nil)) rfl ?_
 exact ⟨rfl, hM.bel⟩
theorem of_none {w : World} {so si : Option Addr} {ca ci : Nat} {l : List ByteArray} {bs : List Bool} (hR : Rs w so l) (hB : Rl w si bs) {sy : Option Addr} {cy : Nat} {ys : List ByteArray} (hY : Rs w sy ys) (hly : ys.length ≤ 8796093021952) (hsd : sndS l bs = true) (hany : (ys.any fun s => !decide (0 ≤ idxOfS l s)) = true) : Calls Try.prog 8 #[.agg #[.slice so l.length ca, .slice si bs.length ci], .slice sy ys.length cy] w fun e w' => e = .returned (.tuple #[.agg #[.slice none 0 0, .slice none 0 0], .int .i64 7]) ∧ Below w.heap.size w w' := by
 have hl : l.length ≤ 8796093021952 := by have := (snd_le hsd).1; omega
 have hM : Mg w w ([]) := Mg.start w
 refine walk_of (l := [(0, .agg #[.slice so l.length ca, .slice si bs.length ci]), (1, .slice sy ys.length cy)]) Try.func8 rfl Try.ntmps8 rfl rfl ?_
 intro Q hret hnorm hP a hA
 refine wp_seq_k (fun K1 hK1 => ?_)
 refine wp_region_lit ?_
 refine s_new (vs := [.slice so l.length ca, .slice si bs.length ci]) (t := 25) hA hM rfl rfl rfl (fun g => .pointer (some ⟨g, 0, none⟩)) (does_box rfl rfl) (by decide) ?_
 intro g2 w3 hM a hA
 refine s_new (vs := [.slice sy ys.length cy]) (t := 22) hA hM rfl rfl rfl (fun g => .pointer (some ⟨g, 0, none⟩)) (does_box rfl rfl) (by decide) ?_
 intro g4 w5 hM a hA
 refine s_new (vs := [.slice none 0 0, .slice none 0 0]) (t := 25) hA hM rfl rfl rfl (fun g => .pointer (some ⟨g, 0, none⟩)) (does_alloc (z := .agg #[.slice none 0 0, .slice none 0 0]) (by kernel_rfl) rfl) (by decide) ?_
 intro g6 w7 hM a hA
 refine seq_do hA rfl rfl rfl (does_assign rfl) ?_
 intro a hA
 refine seq_end ?_
 refine hK1 _ _ ?_
 refine wp_seq_k (fun K8 hK8 => ?_)
 refine wp_region_lit ?_
 refine seq_do (v := .func (.func 30) #[] [.pointer (some ⟨g2, 0, none⟩)].toArray) hA rfl rfl rfl (does_makeFunc rfl) ?_
 intro a hA
 refine seq_do hA rfl rfl rfl (does_assign rfl) ?_
 intro a hA
 refine seq_end ?_
 refine hK8 _ _ ?_
 refine wp_seq_k (fun K9 hK9 => ?_)
 refine wp_block ?_
 refine wp_seq_k (fun K10 hK10 => ?_)
 refine wp_region_lit ?_
 refine seq_do hA rfl rfl rfl (m_loadS hM EnC_isS_25 rfl 2 rfl (cs := [.slice so l.length ca, .slice si bs.length ci]) rfl rfl) ?_
 intro a hA
 refine seq_call hA rfl rfl rfl (enters_func rfl rfl (fun w => by kernel_rfl)) (sound_as (hR.below hM.bel) (hB.below hM.bel) hsd) ?_
 rintro _ w12 ⟨rfl, hb11⟩
 replace hM := hM.call hb11
 refine ⟨_, rfl, ?_⟩
 intro a hA
 refine seq_do (v := .bool false) hA rfl rfl rfl (does_un rfl un_not) ?_
 intro a hA
 refine seq_do hA rfl rfl rfl (does_assign rfl) ?_
 intro a hA
 refine seq_end ?_
 refine hK10 _ _ ?_
 refine wp_cond_false (hA.ev rfl) ?_
 refine wp_seq_k (fun K13 hK13 => ?_)
 refine wp_region_lit ?_
 refine seq_do hA rfl rfl rfl (m_load1 hM EnC_is1_22 rfl 1 rfl rfl) ?_
 intro a hA
 refine seq_do hA rfl rfl rfl (does_move rfl) ?_
 intro a hA
 refine seq_call hA rfl rfl rfl (enters_func rfl rfl (fun w => by kernel_rfl)) (containsf_as (hY.below hM.bel) hly (asks_of1 (hR.below hM.bel) hl (hM.cell 2 rfl 0 rfl) (hM.cell 2 rfl 1 rfl)) hany) ?_
 rintro _ w15 ⟨rfl, hb14⟩
 replace hM := hM.call hb14
 refine ⟨_, rfl, ?_⟩
 intro a hA
 refine seq_do hA rfl rfl rfl (does_assign rfl) ?_
 intro a hA
 refine seq_end ?_
 refine hK13 _ _ ?_
 refine wp_cond_true (hA.ev rfl) ?_
 refine wp_seq_k (fun K16 hK16 => ?_)
 refine wp_region_lit ?_
 refine seq_do (v := .agg #[.slice none 0 0, .slice none 0 0]) hA rfl rfl rfl (does_build rfl (fun w => by kernel_rfl)) ?_
 intro a hA
 refine s_store (us := [.slice none 0 0, .slice none 0 0]) (L' := (.obj g6 (.cells #[.slice none 0 0, .slice none 0 0] 25) :: .obj g4 (.cells #[.slice sy ys.length cy] 22) :: .obj g2 (.cells #[.slice so l.length ca, .slice si bs.length ci] 25) :: [])) hA hM rfl rfl (m_store rfl rfl rfl (by kernel_rfl) hM 0 rfl rfl rfl) 0 rfl rfl rfl ?_
 intro w17 hM
 refine seq_do hA rfl rfl rfl (does_assign rfl) ?_
 intro a hA
 refine seq_end ?_
 refine hK16 _ _ ?_
 refine wp_ret ?_
 refine hret _ _ ?_
 refine ends (v := .tuple #[.agg #[.slice none 0 0, .slice none 0 0], .int .i64 7]) hA rfl (.cons (res_cellS hM EnC_isS_25 rfl 0 rfl (cs := [.slice none 0 0, .slice none 0 0]) rfl rfl) (.cons (res_tmp rfl) .nil)) rfl ?_
 exact ⟨rfl, hM.bel⟩
theorem of_ok {w : World} {so si : Option Addr} {ca ci : Nat} {l : List ByteArray} {bs : List Bool} (hR : Rs w so l) (hB : Rl w si bs) {sy : Option Addr} {cy : Nat} {ys : List ByteArray} (hY : Rs w sy ys) (hly : ys.length ≤ 8796093021952) (hs : ∀ s ∈ l, s.size ≤ 281474976710656) (hsd : sndS l bs = true) (hany : (ys.any fun s => !decide (0 ≤ idxOfS l s)) = false) : Calls Try.prog 8 #[.agg #[.slice so l.length ca, .slice si bs.length ci], .slice sy ys.length cy] w fun e w' => ∃ so' ca' si' ci', e = .returned (.tuple #[.agg #[.slice so' l.length ca', .slice si' l.length ci'], .int .i64 0]) ∧ Mg w w' [.row 9 1 (.slice so' l.length ca') l.length (strC l), .row 4 1 (.slice si' l.length ci') l.length (boolC (l.map fun s => decide (0 ≤ idxOfS ys s)))] := by
 have hl : l.length ≤ 8796093021952 := by have := (snd_le hsd).1; omega
 have hM : Mg w w ([]) := Mg.start w
 refine walk_of (l := [(0, .agg #[.slice so l.length ca, .slice si bs.length ci]), (1, .slice sy ys.length cy)]) Try.func8 rfl Try.ntmps8 rfl rfl ?_
 intro Q hret hnorm hP a hA
 refine wp_seq_k (fun K1 hK1 => ?_)
 refine wp_region_lit ?_
 refine s_new (vs := [.slice so l.length ca, .slice si bs.length ci]) (t := 25) hA hM rfl rfl rfl (fun g => .pointer (some ⟨g, 0, none⟩)) (does_box rfl rfl) (by decide) ?_
 intro g2 w3 hM a hA
 refine s_new (vs := [.slice sy ys.length cy]) (t := 22) hA hM rfl rfl rfl (fun g => .pointer (some ⟨g, 0, none⟩)) (does_box rfl rfl) (by decide) ?_
 intro g4 w5 hM a hA
 refine s_new (vs := [.slice none 0 0, .slice none 0 0]) (t := 25) hA hM rfl rfl rfl (fun g => .pointer (some ⟨g, 0, none⟩)) (does_alloc (z := .agg #[.slice none 0 0, .slice none 0 0]) (by kernel_rfl) rfl) (by decide) ?_
 intro g6 w7 hM a hA
 refine seq_do hA rfl rfl rfl (does_assign rfl) ?_
 intro a hA
 refine seq_end ?_
 refine hK1 _ _ ?_
 refine wp_seq_k (fun K8 hK8 => ?_)
 refine wp_region_lit ?_
 refine seq_do (v := .func (.func 30) #[] [.pointer (some ⟨g2, 0, none⟩)].toArray) hA rfl rfl rfl (does_makeFunc rfl) ?_
 intro a hA
 refine seq_do hA rfl rfl rfl (does_assign rfl) ?_
 intro a hA
 refine seq_end ?_
 refine hK8 _ _ ?_
 refine wp_seq_k (fun K9 hK9 => ?_)
 refine wp_block ?_
 refine wp_seq_k (fun K10 hK10 => ?_)
 refine wp_region_lit ?_
 refine seq_do hA rfl rfl rfl (m_loadS hM EnC_isS_25 rfl 2 rfl (cs := [.slice so l.length ca, .slice si bs.length ci]) rfl rfl) ?_
 intro a hA
 refine seq_call hA rfl rfl rfl (enters_func rfl rfl (fun w => by kernel_rfl)) (sound_as (hR.below hM.bel) (hB.below hM.bel) hsd) ?_
 rintro _ w12 ⟨rfl, hb11⟩
 replace hM := hM.call hb11
 refine ⟨_, rfl, ?_⟩
 intro a hA
 refine seq_do (v := .bool false) hA rfl rfl rfl (does_un rfl un_not) ?_
 intro a hA
 refine seq_do hA rfl rfl rfl (does_assign rfl) ?_
 intro a hA
 refine seq_end ?_
 refine hK10 _ _ ?_
 refine wp_cond_false (hA.ev rfl) ?_
 refine wp_seq_k (fun K13 hK13 => ?_)
 refine wp_region_lit ?_
 refine seq_do hA rfl rfl rfl (m_load1 hM EnC_is1_22 rfl 1 rfl rfl) ?_
 intro a hA
 refine seq_do hA rfl rfl rfl (does_move rfl) ?_
 intro a hA
 refine seq_call hA rfl rfl rfl (enters_func rfl rfl (fun w => by kernel_rfl)) (containsf_as (hY.below hM.bel) hly (asks_of1 (hR.below hM.bel) hl (hM.cell 2 rfl 0 rfl) (hM.cell 2 rfl 1 rfl)) hany) ?_
 rintro _ w15 ⟨rfl, hb14⟩
 replace hM := hM.call hb14
 refine ⟨_, rfl, ?_⟩
 intro a hA
 refine seq_do hA rfl rfl rfl (does_assign rfl) ?_
 intro a hA
 refine seq_end ?_
 refine hK13 _ _ ?_
 refine wp_cond_false (hA.ev rfl) ?_
 refine wp_skip ?_
 refine hK9 _ _ ?_
 refine wp_seq_k (fun K16 hK16 => ?_)
 refine wp_region_lit ?_
 refine seq_do (v := .pointer (some ⟨g2, 0, none⟩)) hA rfl rfl rfl (does_field EnC_fld_25_0 rfl rfl) ?_
 intro a hA
 refine seq_do hA rfl rfl rfl (m_load1 hM EnC_is1_22 rfl 2 rfl rfl) ?_
 intro a hA
 refine seq_do (v := .func (.func 33) #[] [.pointer (some ⟨g4, 0, none⟩)].toArray) hA rfl rfl rfl (does_makeFunc rfl) ?_
 intro a hA
 refine seq_call hA rfl rfl rfl (enters_func rfl rfl (fun w => by kernel_rfl)) (where_any (hR.below hM.bel) hl hs (asks_of2 (hY.below hM.bel) hly (hM.cell 1 rfl 0 rfl))) ?_
 rintro _ w22 ⟨so17, ca18, si19, ci20, rfl, hM21⟩
 replace hM : Mg w w22 (.row 9 1 (.slice so17 l.length ca18) l.length (strC l) :: .row 4 1 (.slice si19 l.length ci20) l.length (boolC (l.map (fun s => decide (0 ≤ idxOfS ys s)))) :: .obj g6 (.cells #[.slice none 0 0, .slice none 0 0] 25) :: .obj g4 (.cells #[.slice sy ys.length cy] 22) :: .obj g2 (.cells #[.slice so l.length ca, .slice si bs.length ci] 25) :: []) := (hM.both hM21 (noBld_cons (by simp) (noBld_cons (by simp) (noBld_cons (by simp) (noBld_quiet quietL_nil)))) (noBld_cons (by simp) (noBld_cons (by simp) (noBld_quiet quietL_nil))))
 refine ⟨_, rfl, ?_⟩
 intro a hA
 refine s_store (us := [.slice so17 l.length ca18, .slice si19 l.length ci20]) (L' := (.row 9 1 (.slice so17 l.length ca18) l.length (strC l) :: .row 4 1 (.slice si19 l.length ci20) l.length (boolC (l.map (fun s => decide (0 ≤ idxOfS ys s)))) :: .obj g6 (.cells #[.slice so17 l.length ca18, .slice si19 l.length ci20] 25) :: .obj g4 (.cells #[.slice sy ys.length cy] 22) :: .obj g2 (.cells #[.slice so l.length ca, .slice si bs.length ci] 25) :: [])) hA hM rfl rfl (m_store rfl rfl rfl (by kernel_rfl) hM 2 rfl rfl rfl) 2 rfl rfl rfl ?_
 intro w23 hM
 refine seq_do hA rfl rfl rfl (does_assign rfl) ?_
 intro a hA
 refine seq_end ?_
 refine hK16 _ _ ?_
 refine wp_ret ?_
 refine hret _ _ ?_
 refine ends (v := .tuple #[.agg #[.slice so17 l.length ca18, .slice si19 l.length ci20], .int .i64 0]) hA rfl (.cons (res_cellS hM EnC_isS_25 rfl 2 rfl (cs := [.slice so17 l.length ca18, .slice si19 l.length ci20]) rfl rfl) (.cons (res_tmp rfl) .nil)) rfl ?_
 replace hM : Mg w w23 (.row 9 1 (.slice so17 l.length ca18) l.length (strC l) :: .row 4 1 (.slice si19 l.length ci20) l.length (boolC (l.map (fun s => decide (0 ≤ idxOfS ys s)))) :: []) := by
   have h9 := hM.sub (.cons_cons _ (.cons_cons _ (.cons _ (.cons _ (.cons _ (.refl _))))))
   exact h9
 exact ⟨_, _, _, _, rfl, hM⟩
theorem list_form {w : World} {so si : Option Addr} {ca ci : Nat} {l : List ByteArray} {bs : List Bool} (hR : Rs w so l) (hB : Rl w si bs) (hsd : sndS l bs = false) : Calls Try.prog 9 #[.agg #[.slice so l.length ca, .slice si bs.length ci]] w fun e w' => e = .returned (.tuple #[.slice none 0 0, .int .i64 2]) ∧ Below w.heap.size w w' := by
 have hM : Mg w w ([]) := Mg.start w
 refine walk_of (l := [(0, .agg #[.slice so l.length ca, .slice si bs.length ci])]) Try.func9 rfl Try.ntmps9 rfl rfl ?_
 intro Q hret hnorm hP a hA
 refine wp_seq_k (fun K1 hK1 => ?_)
 refine wp_region_lit ?_
 refine s_new (vs := [.slice so l.length ca, .slice si bs.length ci]) (t := 25) hA hM rfl rfl rfl (fun g => .pointer (some ⟨g, 0, none⟩)) (does_box rfl rfl) (by decide) ?_
 intro g2 w3 hM a hA
 refine seq_do hA rfl rfl rfl (does_assign rfl) ?_
 intro a hA
 refine seq_do hA rfl rfl rfl (does_assign rfl) ?_
 intro a hA
 refine seq_end ?_
 refine hK1 _ _ ?_
 refine wp_seq_k (fun K4 hK4 => ?_)
 refine wp_seq_k (fun K5 hK5 => ?_)
 refine wp_region_lit ?_
 refine seq_do hA rfl rfl rfl (m_loadS hM EnC_isS_25 rfl 0 rfl (cs := [.slice so l.length ca, .slice si bs.length ci]) rfl rfl) ?_
 intro a hA
 refine seq_call hA rfl rfl rfl (enters_func rfl rfl (fun w => by kernel_rfl)) (sound_as (hR.below hM.bel) (hB.below hM.bel) hsd) ?_
 rintro _ w7 ⟨rfl, hb6⟩
 replace hM := hM.call hb6
 refine ⟨_, rfl, ?_⟩
 intro a hA
 refine seq_do (v := .bool true) hA rfl rfl rfl (does_un rfl un_not) ?_
 intro a hA
 refine seq_end ?_
 refine hK5 _ _ ?_
 refine wp_cond_true (hA.ev rfl) ?_
 refine wp_seq_k (fun K8 hK8 => ?_)
 refine wp_region_lit ?_
 refine seq_do hA rfl rfl rfl (does_assign rfl) ?_
 intro a hA
 refine seq_do hA rfl rfl rfl (does_assign rfl) ?_
 intro a hA
 refine seq_end ?_
 refine hK8 _ _ ?_
 refine wp_ret ?_
 refine hret _ _ ?_
 refine ends (v := .tuple #[.slice none 0 0, .int .i64 2]) hA rfl (.cons (res_tmp rfl) (.cons (res_tmp rfl) .nil)) rfl ?_
 exact ⟨rfl, hM.bel⟩
theorem list_ok {w : World} {so si : Option Addr} {ca ci : Nat} {l : List ByteArray} {bs : List Bool} (hR : Rs w so l) (hB : Rl w si bs) (hs : ∀ s ∈ l, s.size ≤ 281474976710656) (hsd : sndS l bs = true) : Calls Try.prog 9 #[.agg #[.slice so l.length ca, .slice si bs.length ci]] w fun e w' => ∃ so' ca', e = .returned (.tuple #[.slice so' (memS l bs).length ca', .int .i64 0]) ∧ Mg w w' [.row 9 1 (.slice so' (memS l bs).length ca') (memS l bs).length (strC (memS l bs))] := by
 have hM : Mg w w ([]) := Mg.start w
 refine walk_of (l := [(0, .agg #[.slice so l.length ca, .slice si bs.length ci])]) Try.func9 rfl Try.ntmps9 rfl rfl ?_
 intro Q hret hnorm hP a hA
 refine wp_seq_k (fun K1 hK1 => ?_)
 refine wp_region_lit ?_
 refine s_new (vs := [.slice so l.length ca, .slice si bs.length ci]) (t := 25) hA hM rfl rfl rfl (fun g => .pointer (some ⟨g, 0, none⟩)) (does_box rfl rfl) (by decide) ?_
 intro g2 w3 hM a hA
 refine seq_do hA rfl rfl rfl (does_assign rfl) ?_
 intro a hA
 refine seq_do hA rfl rfl rfl (does_assign rfl) ?_
 intro a hA
 refine seq_end ?_
 refine hK1 _ _ ?_
 refine wp_seq_k (fun K4 hK4 => ?_)
 refine wp_seq_k (fun K5 hK5 => ?_)
 refine wp_region_lit ?_
 refine seq_do hA rfl rfl rfl (m_loadS hM EnC_isS_25 rfl 0 rfl (cs := [.slice so l.length ca, .slice si bs.length ci]) rfl rfl) ?_
 intro a hA
 refine seq_call hA rfl rfl rfl (enters_func rfl rfl (fun w => by kernel_rfl)) (sound_as (hR.below hM.bel) (hB.below hM.bel) hsd) ?_
 rintro _ w7 ⟨rfl, hb6⟩
 replace hM := hM.call hb6
 refine ⟨_, rfl, ?_⟩
 intro a hA
 refine seq_do (v := .bool false) hA rfl rfl rfl (does_un rfl un_not) ?_
 intro a hA
 refine seq_end ?_
 refine hK5 _ _ ?_
 refine wp_cond_false (hA.ev rfl) ?_
 refine wp_skip ?_
 refine hK4 _ _ ?_
 refine wp_seq_k (fun K8 hK8 => ?_)
 refine wp_region_lit ?_
 refine seq_do hA rfl rfl rfl (m_loadS hM EnC_isS_25 rfl 0 rfl (cs := [.slice so l.length ca, .slice si bs.length ci]) rfl rfl) ?_
 intro a hA
 refine seq_call hA rfl rfl rfl (enters_func rfl rfl (fun w => by kernel_rfl)) (members_any (hR.below hM.bel) (hB.below hM.bel) (by have := (snd_le hsd).1; omega) (snd_le hsd).2.1) ?_
 rintro _ w12 ⟨so9, ca10, rfl, hM11⟩
 replace hM : Mg w w12 (.row 9 1 (.slice so9 ((memS l bs).length) ca10) ((memS l bs).length) (strC (memS l bs)) :: .obj g2 (.cells #[.slice so l.length ca, .slice si bs.length ci] 25) :: []) := (hM.both hM11 (noBld_cons (by simp) (noBld_quiet quietL_nil)) (noBld_cons (by simp) (noBld_quiet quietL_nil)))
 refine ⟨_, rfl, ?_⟩
 intro a hA
 refine seq_call hA rfl rfl rfl (enters_func rfl rfl (fun w => by kernel_rfl)) (texts_any (l := memS l bs) (rc_own (hM.has 0 rfl)) (by have := (snd_le hsd).1; have := memS_len l bs; omega) (fun s h => hs s (mem_sub h))) ?_
 rintro _ w16 ⟨so13, ca14, rfl, hM15⟩
 replace hM : Mg w w16 (.row 9 1 (.slice so13 ((memS l bs).length) ca14) ((memS l bs).length) (strC (memS l bs)) :: .row 9 1 (.slice so9 ((memS l bs).length) ca10) ((memS l bs).length) (strC (memS l bs)) :: .obj g2 (.cells #[.slice so l.length ca, .slice si bs.length ci] 25) :: []) := (hM.both hM15 (noBld_cons (by simp) (noBld_cons (by simp) (noBld_quiet quietL_nil))) (noBld_cons (by simp) (noBld_quiet quietL_nil)))
 refine ⟨_, rfl, ?_⟩
 intro a hA
 refine seq_do hA rfl rfl rfl (does_assign rfl) ?_
 intro a hA
 refine seq_do hA rfl rfl rfl (does_assign rfl) ?_
 intro a hA
 refine seq_end ?_
 refine hK8 _ _ ?_
 refine wp_ret ?_
 refine hret _ _ ?_
 refine ends (v := .tuple #[.slice so13 ((memS l bs).length) ca14, .int .i64 0]) hA rfl (.cons (res_tmp rfl) (.cons (res_tmp rfl) .nil)) rfl ?_
 replace hM : Mg w w16 (.row 9 1 (.slice so13 ((memS l bs).length) ca14) ((memS l bs).length) (strC (memS l bs)) :: []) := by
   have h9 := hM.sub (.cons_cons _ (.cons _ (.cons _ (.refl _))))
   exact h9
 exact ⟨_, _, rfl, hM⟩
theorem index_form {w : World} {so si : Option Addr} {ca ci : Nat} {l : List ByteArray} {bs : List Bool} (hR : Rs w so l) (hB : Rl w si bs) {s : ByteArray} (hsd : sndS l bs = false) : Calls Try.prog 10 #[.agg #[.slice so l.length ca, .slice si bs.length ci], .string s] w fun e w' => e = .returned (.tuple #[.int .i64 0, .int .i64 2]) ∧ Below w.heap.size w w' := by
 have hM : Mg w w ([]) := Mg.start w
 refine walk_of (l := [(0, .agg #[.slice so l.length ca, .slice si bs.length ci]), (1, .string s)]) Try.func10 rfl Try.ntmps10 rfl rfl ?_
 intro Q hret hnorm hP a hA
 refine wp_seq_k (fun K1 hK1 => ?_)
 refine wp_region_lit ?_
 refine s_new (vs := [.slice so l.length ca, .slice si bs.length ci]) (t := 25) hA hM rfl rfl rfl (fun g => .pointer (some ⟨g, 0, none⟩)) (does_box rfl rfl) (by decide) ?_
 intro g2 w3 hM a hA
 refine seq_do hA rfl rfl rfl (does_assign rfl) ?_
 intro a hA
 refine seq_do hA rfl rfl rfl (does_assign rfl) ?_
 intro a hA
 refine seq_end ?_
 refine hK1 _ _ ?_
 refine wp_seq_k (fun K4 hK4 => ?_)
 refine wp_seq_k (fun K5 hK5 => ?_)
 refine wp_region_lit ?_
 refine seq_do hA rfl rfl rfl (m_loadS hM EnC_isS_25 rfl 0 rfl (cs := [.slice so l.length ca, .slice si bs.length ci]) rfl rfl) ?_
 intro a hA
 refine seq_call hA rfl rfl rfl (enters_func rfl rfl (fun w => by kernel_rfl)) (sound_as (hR.below hM.bel) (hB.below hM.bel) hsd) ?_
 rintro _ w7 ⟨rfl, hb6⟩
 replace hM := hM.call hb6
 refine ⟨_, rfl, ?_⟩
 intro a hA
 refine seq_do (v := .bool true) hA rfl rfl rfl (does_un rfl un_not) ?_
 intro a hA
 refine seq_end ?_
 refine hK5 _ _ ?_
 refine wp_cond_true (hA.ev rfl) ?_
 refine wp_seq_k (fun K8 hK8 => ?_)
 refine wp_region_lit ?_
 refine seq_do hA rfl rfl rfl (does_assign rfl) ?_
 intro a hA
 refine seq_do hA rfl rfl rfl (does_assign rfl) ?_
 intro a hA
 refine seq_end ?_
 refine hK8 _ _ ?_
 refine wp_ret ?_
 refine hret _ _ ?_
 refine ends (v := .tuple #[.int .i64 0, .int .i64 2]) hA rfl (.cons (res_tmp rfl) (.cons (res_tmp rfl) .nil)) rfl ?_
 exact ⟨rfl, hM.bel⟩
theorem index_none {w : World} {so si : Option Addr} {ca ci : Nat} {l : List ByteArray} {bs : List Bool} (hR : Rs w so l) (hB : Rl w si bs) {s : ByteArray} (hsd : sndS l bs = true) (hx : idxOfS l s < 0) : Calls Try.prog 10 #[.agg #[.slice so l.length ca, .slice si bs.length ci], .string s] w fun e w' => e = .returned (.tuple #[.int .i64 0, .int .i64 7]) ∧ Below w.heap.size w w' := by
 have hl : l.length ≤ 8796093021952 := by have := (snd_le hsd).1; omega
 have hM : Mg w w ([]) := Mg.start w
 refine walk_of (l := [(0, .agg #[.slice so l.length ca, .slice si bs.length ci]), (1, .string s)]) Try.func10 rfl Try.ntmps10 rfl rfl ?_
 intro Q hret hnorm hP a hA
 refine wp_seq_k (fun K1 hK1 => ?_)
 refine wp_region_lit ?_
 refine s_new (vs := [.slice so l.length ca, .slice si bs.length ci]) (t := 25) hA hM rfl rfl rfl (fun g => .pointer (some ⟨g, 0, none⟩)) (does_box rfl rfl) (by decide) ?_
 intro g2 w3 hM a hA
 refine seq_do hA rfl rfl rfl (does_assign rfl) ?_
 intro a hA
 refine seq_do hA rfl rfl rfl (does_assign rfl) ?_
 intro a hA
 refine seq_end ?_
 refine hK1 _ _ ?_
 refine wp_seq_k (fun K4 hK4 => ?_)
 refine wp_seq_k (fun K5 hK5 => ?_)
 refine wp_region_lit ?_
 refine seq_do hA rfl rfl rfl (m_loadS hM EnC_isS_25 rfl 0 rfl (cs := [.slice so l.length ca, .slice si bs.length ci]) rfl rfl) ?_
 intro a hA
 refine seq_call hA rfl rfl rfl (enters_func rfl rfl (fun w => by kernel_rfl)) (sound_as (hR.below hM.bel) (hB.below hM.bel) hsd) ?_
 rintro _ w7 ⟨rfl, hb6⟩
 replace hM := hM.call hb6
 refine ⟨_, rfl, ?_⟩
 intro a hA
 refine seq_do (v := .bool false) hA rfl rfl rfl (does_un rfl un_not) ?_
 intro a hA
 refine seq_end ?_
 refine hK5 _ _ ?_
 refine wp_cond_false (hA.ev rfl) ?_
 refine wp_skip ?_
 refine hK4 _ _ ?_
 refine wp_seq_k (fun K8 hK8 => ?_)
 refine wp_region_lit ?_
 refine seq_do (v := .pointer (some ⟨g2, 0, none⟩)) hA rfl rfl rfl (does_field EnC_fld_25_0 rfl rfl) ?_
 intro a hA
 refine seq_do hA rfl rfl rfl (m_load1 hM EnC_is1_22 rfl 0 rfl rfl) ?_
 intro a hA
 refine seq_do hA rfl rfl rfl (does_move rfl) ?_
 intro a hA
 refine seq_call hA rfl rfl rfl (enters_func rfl rfl (fun w => by kernel_rfl)) (indexS_any (hR.below hM.bel) hl) ?_
 rintro _ w10 ⟨rfl, hb9⟩
 replace hM := hM.call hb9
 refine ⟨_, rfl, ?_⟩
 intro a hA
 refine seq_do hA rfl rfl rfl (does_assign rfl) ?_
 intro a hA
 refine seq_end ?_
 refine hK8 _ _ ?_
 refine wp_seq_k (fun K11 hK11 => ?_)
 refine wp_seq_k (fun K12 hK12 => ?_)
 refine wp_region_lit ?_
 refine seq_do hA rfl rfl rfl (does_move rfl) ?_
 intro a hA
 refine seq_do (v := .bool true) hA rfl rfl rfl (does_bin rfl rfl (fun w => (bin_lss w).trans (by rw [show (decide (idxOfS l s < 0)) = true from (decide_eq_true (by omega))]))) ?_
 intro a hA
 refine seq_end ?_
 refine hK12 _ _ ?_
 refine wp_cond_true (hA.ev rfl) ?_
 refine wp_seq_k (fun K13 hK13 => ?_)
 refine wp_region_lit ?_
 refine seq_do hA rfl rfl rfl (does_assign rfl) ?_
 intro a hA
 refine seq_do hA rfl rfl rfl (does_assign rfl) ?_
 intro a hA
 refine seq_end ?_
 refine hK13 _ _ ?_
 refine wp_ret ?_
 refine hret _ _ ?_
 refine ends (v := .tuple #[.int .i64 0, .int .i64 7]) hA rfl (.cons (res_tmp rfl) (.cons (res_tmp rfl) .nil)) rfl ?_
 exact ⟨rfl, hM.bel⟩
theorem index_ok {w : World} {so si : Option Addr} {ca ci : Nat} {l : List ByteArray} {bs : List Bool} (hR : Rs w so l) (hB : Rl w si bs) {s : ByteArray} (hsd : sndS l bs = true) (hx : 0 ≤ idxOfS l s) : Calls Try.prog 10 #[.agg #[.slice so l.length ca, .slice si bs.length ci], .string s] w fun e w' => e = .returned (.tuple #[.int .i64 (idxOfS l s), .int .i64 0]) ∧ Below w.heap.size w w' := by
 have hl : l.length ≤ 8796093021952 := by have := (snd_le hsd).1; omega
 have hM : Mg w w ([]) := Mg.start w
 refine walk_of (l := [(0, .agg #[.slice so l.length ca, .slice si bs.length ci]), (1, .string s)]) Try.func10 rfl Try.ntmps10 rfl rfl ?_
 intro Q hret hnorm hP a hA
 refine wp_seq_k (fun K1 hK1 => ?_)
 refine wp_region_lit ?_
 refine s_new (vs := [.slice so l.length ca, .slice si bs.length ci]) (t := 25) hA hM rfl rfl rfl (fun g => .pointer (some ⟨g, 0, none⟩)) (does_box rfl rfl) (by decide) ?_
 intro g2 w3 hM a hA
 refine seq_do hA rfl rfl rfl (does_assign rfl) ?_
 intro a hA
 refine seq_do hA rfl rfl rfl (does_assign rfl) ?_
 intro a hA
 refine seq_end ?_
 refine hK1 _ _ ?_
 refine wp_seq_k (fun K4 hK4 => ?_)
 refine wp_seq_k (fun K5 hK5 => ?_)
 refine wp_region_lit ?_
 refine seq_do hA rfl rfl rfl (m_loadS hM EnC_isS_25 rfl 0 rfl (cs := [.slice so l.length ca, .slice si bs.length ci]) rfl rfl) ?_
 intro a hA
 refine seq_call hA rfl rfl rfl (enters_func rfl rfl (fun w => by kernel_rfl)) (sound_as (hR.below hM.bel) (hB.below hM.bel) hsd) ?_
 rintro _ w7 ⟨rfl, hb6⟩
 replace hM := hM.call hb6
 refine ⟨_, rfl, ?_⟩
 intro a hA
 refine seq_do (v := .bool false) hA rfl rfl rfl (does_un rfl un_not) ?_
 intro a hA
 refine seq_end ?_
 refine hK5 _ _ ?_
 refine wp_cond_false (hA.ev rfl) ?_
 refine wp_skip ?_
 refine hK4 _ _ ?_
 refine wp_seq_k (fun K8 hK8 => ?_)
 refine wp_region_lit ?_
 refine seq_do (v := .pointer (some ⟨g2, 0, none⟩)) hA rfl rfl rfl (does_field EnC_fld_25_0 rfl rfl) ?_
 intro a hA
 refine seq_do hA rfl rfl rfl (m_load1 hM EnC_is1_22 rfl 0 rfl rfl) ?_
 intro a hA
 refine seq_do hA rfl rfl rfl (does_move rfl) ?_
 intro a hA
 refine seq_call hA rfl rfl rfl (enters_func rfl rfl (fun w => by kernel_rfl)) (indexS_any (hR.below hM.bel) hl) ?_
 rintro _ w10 ⟨rfl, hb9⟩
 replace hM := hM.call hb9
 refine ⟨_, rfl, ?_⟩
 intro a hA
 refine seq_do hA rfl rfl rfl (does_assign rfl) ?_
 intro a hA
 refine seq_end ?_
 refine hK8 _ _ ?_
 refine wp_seq_k (fun K11 hK11 => ?_)
 refine wp_seq_k (fun K12 hK12 => ?_)
 refine wp_region_lit ?_
 refine seq_do hA rfl rfl rfl (does_move rfl) ?_
 intro a hA
 refine seq_do (v := .bool false) hA rfl rfl rfl (does_bin rfl rfl (fun w => (bin_lss w).trans (by rw [show (decide (idxOfS l s < 0)) = false from (decide_eq_false (by omega))]))) ?_
 intro a hA
 refine seq_end ?_
 refine hK12 _ _ ?_
 refine wp_cond_false (hA.ev rfl) ?_
 refine wp_skip ?_
 refine hK11 _ _ ?_
 refine wp_seq_k (fun K13 hK13 => ?_)
 refine wp_region_lit ?_
 refine seq_do hA rfl rfl rfl (does_move rfl) ?_
 intro a hA
 refine seq_do hA rfl rfl rfl (does_assign rfl) ?_
 intro a hA
 refine seq_do hA rfl rfl rfl (does_assign rfl) ?_
 intro a hA
 refine seq_end ?_
 refine hK13 _ _ ?_
 refine wp_ret ?_
 refine hret _ _ ?_
 refine ends (v := .tuple #[.int .i64 (idxOfS l s), .int .i64 0]) hA rfl (.cons (res_tmp rfl) (.cons (res_tmp rfl) .nil)) rfl ?_
 exact ⟨rfl, hM.bel⟩
theorem or1_any {w : World} {x y : Bool} : Calls Try.prog 38 #[.bool x, .bool y] w fun e w' => e = .returned (.bool (x || y)) ∧ Below w.heap.size w w' := by
 have hM : Mg w w ([]) := Mg.start w
 refine walk_of (l := [(0, .bool x), (1, .bool y)]) Try.func38 rfl Try.ntmps38 rfl rfl ?_
 intro Q hret hnorm hP a hA
 refine wp_seq_k (fun K1 hK1 => ?_)
 refine wp_region_lit ?_
 refine seq_do hA rfl rfl rfl (does_assign rfl) ?_
 intro a hA
 refine seq_end ?_
 refine hK1 _ _ ?_
 refine wp_seq_k (fun K2 hK2 => ?_)
 refine wp_region_lit ?_
 refine seq_do hA rfl rfl rfl (does_move rfl) ?_
 intro a hA
 refine seq_do hA rfl rfl rfl (does_move rfl) ?_
 intro a hA
 rcases x with _ | _
 · refine seq_do hA rfl rfl rfl (does_move rfl) ?_
   intro a hA
   refine seq_do (v := .bool y) hA rfl rfl rfl (does_pick rfl rfl rfl rfl) ?_
   intro a hA
   refine seq_do hA rfl rfl rfl (does_assign rfl) ?_
   intro a hA
   refine seq_end ?_
   refine hK2 _ _ ?_
   refine wp_ret ?_
   refine hret _ _ ?_
   refine ends (v := .bool y) hA rfl (.cons (res_tmp rfl) .nil) rfl ?_
   exact ⟨rfl, hM.bel⟩
 · refine seq_skip hA rfl rfl rfl ?_
   intro a hA
   refine seq_do (v := .bool true) hA rfl rfl rfl (does_pick rfl rfl rfl rfl) ?_
   intro a hA
   refine seq_do hA rfl rfl rfl (does_assign rfl) ?_
   intro a hA
   refine seq_end ?_
   refine hK2 _ _ ?_
   refine wp_ret ?_
   refine hret _ _ ?_
   refine ends (v := .bool true) hA rfl (.cons (res_tmp rfl) .nil) rfl ?_
   exact ⟨rfl, hM.bel⟩
theorem ask_or1 {w : World} : Ask2 Try.prog 38 w (fun a b => a || b) := ⟨fun us w => by kernel_rfl, fun a b w1 => or1_any⟩
theorem and1_any {w : World} {x y : Bool} : Calls Try.prog 39 #[.bool x, .bool y] w fun e w' => e = .returned (.bool (x && y)) ∧ Below w.heap.size w w' := by
 have hM : Mg w w ([]) := Mg.start w
 refine walk_of (l := [(0, .bool x), (1, .bool y)]) Try.func39 rfl Try.ntmps39 rfl rfl ?_
 intro Q hret hnorm hP a hA
 refine wp_seq_k (fun K1 hK1 => ?_)
 refine wp_region_lit ?_
 refine seq_do hA rfl rfl rfl (does_assign rfl) ?_
 intro a hA
 refine seq_end ?_
 refine hK1 _ _ ?_
 refine wp_seq_k (fun K2 hK2 => ?_)
 refine wp_region_lit ?_
 refine seq_do hA rfl rfl rfl (does_move rfl) ?_
 intro a hA
 refine seq_do hA rfl rfl rfl (does_move rfl) ?_
 intro a hA
 rcases x with _ | _
 · refine seq_skip hA rfl rfl rfl ?_
   intro a hA
   refine seq_do (v := .bool false) hA rfl rfl rfl (does_pick rfl rfl rfl rfl) ?_
   intro a hA
   refine seq_do hA rfl rfl rfl (does_assign rfl) ?_
   intro a hA
   refine seq_end ?_
   refine hK2 _ _ ?_
   refine wp_ret ?_
   refine hret _ _ ?_
   refine ends (v := .bool false) hA rfl (.cons (res_tmp rfl) .nil) rfl ?_
   exact ⟨rfl, hM.bel⟩
 · refine seq_do hA rfl rfl rfl (does_move rfl) ?_
   intro a hA
   refine seq_do (v := .bool y) hA rfl rfl rfl (does_pick rfl rfl rfl rfl) ?_
   intro a hA
   refine seq_do hA rfl rfl rfl (does_assign rfl) ?_
   intro a hA
   refine seq_end ?_
   refine hK2 _ _ ?_
   refine wp_ret ?_
   refine hret _ _ ?_
   refine ends (v := .bool y) hA rfl (.cons (res_tmp rfl) .nil) rfl ?_
   exact ⟨rfl, hM.bel⟩
theorem ask_and1 {w : World} : Ask2 Try.prog 39 w (fun a b => a && b) := ⟨fun us w => by kernel_rfl, fun a b w1 => and1_any⟩
theorem less1_any {w : World} {x y : Bool} : Calls Try.prog 40 #[.bool x, .bool y] w fun e w' => e = .returned (.bool (x && !y)) ∧ Below w.heap.size w w' := by
 have hM : Mg w w ([]) := Mg.start w
 refine walk_of (l := [(0, .bool x), (1, .bool y)]) Try.func40 rfl Try.ntmps40 rfl rfl ?_
 intro Q hret hnorm hP a hA
 refine wp_seq_k (fun K1 hK1 => ?_)
 refine wp_region_lit ?_
 refine seq_do hA rfl rfl rfl (does_assign rfl) ?_
 intro a hA
 refine seq_end ?_
 refine hK1 _ _ ?_
 refine wp_seq_k (fun K2 hK2 => ?_)
 refine wp_region_lit ?_
 refine seq_do hA rfl rfl rfl (does_move rfl) ?_
 intro a hA
 refine seq_do hA rfl rfl rfl (does_move rfl) ?_
 intro a hA
 rcases x with _ | _
 · refine seq_skip hA rfl rfl rfl ?_
   intro a hA
   refine seq_skip hA rfl rfl rfl ?_
   intro a hA
   refine seq_do (v := .bool false) hA rfl rfl rfl (does_pick rfl rfl rfl rfl) ?_
   intro a hA
   refine seq_do hA rfl rfl rfl (does_assign rfl) ?_
   intro a hA
   refine seq_end ?_
   refine hK2 _ _ ?_
   refine wp_ret ?_
   refine hret _ _ ?_
   refine ends (v := .bool false) hA rfl (.cons (res_tmp rfl) .nil) rfl ?_
   exact ⟨rfl, hM.bel⟩
 · refine seq_do hA rfl rfl rfl (does_move rfl) ?_
   intro a hA
   refine seq_do (v := .bool (!y)) hA rfl rfl rfl (does_un rfl un_not) ?_
   intro a hA
   refine seq_do (v := .bool (!y)) hA rfl rfl rfl (does_pick rfl rfl rfl rfl) ?_
   intro a hA
   refine seq_do hA rfl rfl rfl (does_assign rfl) ?_
   intro a hA
   refine seq_end ?_
   refine hK2 _ _ ?_
   refine wp_ret ?_
   refine hret _ _ ?_
   refine ends (v := .bool (!y)) hA rfl (.cons (res_tmp rfl) .nil) rfl ?_
   exact ⟨rfl, hM.bel⟩
theorem ask_less1 {w : World} : Ask2 Try.prog 40 w (fun a b => a && !b) := ⟨fun us w => by kernel_rfl, fun a b w1 => less1_any⟩
theorem not1_any {w : World} {fa : FuncId} {va : List Value} {p : ByteArray → Bool} (hF : AskS Try.prog fa va w p) {g : Nat} (h0 : w.cell? ⟨g, 0, none⟩ = some (.func (.func fa) #[] va.toArray)) {s : ByteArray} : Calls Try.prog 42 #[.string s, .pointer (some ⟨g, 0, none⟩)] w fun e w' => e = .returned (.bool (!p s)) ∧ Below w.heap.size w w' := by
 have hM : Mg w w ([]) := Mg.start w
 refine walk_of (l := [(0, .string s), (1, .pointer (some ⟨g, 0, none⟩))]) Try.func42 rfl Try.ntmps42 rfl rfl ?_
 intro Q hret hnorm hP a hA
 refine wp_seq_k (fun K1 hK1 => ?_)
 refine wp_region_lit ?_
 refine seq_do hA rfl rfl rfl (does_assign rfl) ?_
 intro a hA
 refine seq_end ?_
 refine hK1 _ _ ?_
 refine wp_seq_k (fun K2 hK2 => ?_)
 refine wp_region_lit ?_
 refine seq_do hA rfl rfl rfl (m_loadX hM h0 EnC_is1_55 rfl) ?_
 intro a hA
 refine seq_do hA rfl rfl rfl (does_move rfl) ?_
 intro a hA
 refine seq_call hA rfl rfl rfl (enters_fn rfl rfl hF.inv) (hF.run s _ hM.bel) ?_
 rintro _ w4 ⟨rfl, hb3⟩
 replace hM := hM.call hb3
 refine ⟨_, rfl, ?_⟩
 intro a hA
 refine seq_do (v := .bool (!(p s))) hA rfl rfl rfl (does_un rfl un_not) ?_
 intro a hA
 refine seq_do hA rfl rfl rfl (does_assign rfl) ?_
 intro a hA
 refine seq_end ?_
 refine hK2 _ _ ?_
 refine wp_ret ?_
 refine hret _ _ ?_
 refine ends (v := .bool (!(p s))) hA rfl (.cons (res_tmp rfl) .nil) rfl ?_
 exact ⟨rfl, hM.bel⟩
theorem asks_not1 {w : World} {fa : FuncId} {va : List Value} {p : ByteArray → Bool} (hF : AskS Try.prog fa va w p) {g : Nat} (h0 : w.cell? ⟨g, 0, none⟩ = some (.func (.func fa) #[] va.toArray)) : AskS Try.prog 42 [.pointer (some ⟨g, 0, none⟩)] w (fun s => !p s) :=
  ⟨fun us w => by kernel_rfl, fun s w1 hb => not1_any (hF.below hb) ((hb.cell (cell_ltE h0)).trans h0)⟩
theorem out1_any {w : World} {fa : FuncId} {va : List Value} {p : ByteArray → Bool} (hF : AskS Try.prog fa va w p) {g : Nat} (h0 : w.cell? ⟨g, 0, none⟩ = some (.func (.func fa) #[] va.toArray)) {s : ByteArray} : Calls Try.prog 43 #[.string s, .pointer (some ⟨g, 0, none⟩)] w fun e w' => e = .returned (.bool (!p s)) ∧ Below w.heap.size w w' := by
 have hM : Mg w w ([]) := Mg.start w
 refine walk_of (l := [(0, .string s), (1, .pointer (some ⟨g, 0, none⟩))]) Try.func43 rfl Try.ntmps43 rfl rfl ?_
 intro Q hret hnorm hP a hA
 refine wp_seq_k (fun K1 hK1 => ?_)
 refine wp_region_lit ?_
 refine seq_do hA rfl rfl rfl (does_assign rfl) ?_
 intro a hA
 refine seq_end ?_
 refine hK1 _ _ ?_
 refine wp_seq_k (fun K2 hK2 => ?_)
 refine wp_region_lit ?_
 refine seq_do hA rfl rfl rfl (m_loadX hM h0 EnC_is1_55 rfl) ?_
 intro a hA
 refine seq_do hA rfl rfl rfl (does_move rfl) ?_
 intro a hA
 refine seq_call hA rfl rfl rfl (enters_fn rfl rfl hF.inv) (hF.run s _ hM.bel) ?_
 rintro _ w4 ⟨rfl, hb3⟩
 replace hM := hM.call hb3
 refine ⟨_, rfl, ?_⟩
 intro a hA
 refine seq_do (v := .bool (!(p s))) hA rfl rfl rfl (does_un rfl un_not) ?_
 intro a hA
 refine seq_do hA rfl rfl rfl (does_assign rfl) ?_
 intro a hA
 refine seq_end ?_
 refine hK2 _ _ ?_
 refine wp_ret ?_
 refine hret _ _ ?_
 refine ends (v := .bool (!(p s))) hA rfl (.cons (res_tmp rfl) .nil) rfl ?_
 exact ⟨rfl, hM.bel⟩
theorem asks_out1 {w : World} {fa : FuncId} {va : List Value} {p : ByteArray → Bool} (hF : AskS Try.prog fa va w p) {g : Nat} (h0 : w.cell? ⟨g, 0, none⟩ = some (.func (.func fa) #[] va.toArray)) : AskS Try.prog 43 [.pointer (some ⟨g, 0, none⟩)] w (fun s => !p s) :=
  ⟨fun us w => by kernel_rfl, fun s w1 hb => out1_any (hF.below hb) ((hb.cell (cell_ltE h0)).trans h0)⟩
theorem comb1_any {w : World} {fa : FuncId} {va : List Value} {p : ByteArray → Bool} (hF : AskS Try.prog fa va w p) {fb : FuncId} {vb : List Value} {q : ByteArray → Bool} (hG : AskS Try.prog fb vb w q) {f : FuncId} {r : Bool → Bool → Bool} (hK : Ask2 Try.prog f w r) {gk ga gb : Nat} (hk0 : w.cell? ⟨gk, 0, none⟩ = some (.func (.func f) #[] ([] : List Value).toArray)) (ha0 : w.cell? ⟨ga, 0, none⟩ = some (.func (.func fa) #[] va.toArray)) (hb0 : w.cell? ⟨gb, 0, none⟩ = some (.func (.func fb) #[] vb.toArray)) {s : ByteArray} : Calls Try.prog 51 #[.string s, .pointer (some ⟨gk, 0, none⟩), .pointer (some ⟨ga, 0, none⟩), .pointer (some ⟨gb, 0, none⟩)] w fun e w' => e = .returned (.bool (r (p s) (q s))) ∧ Below w.heap.size w w' := by
 have hM : Mg w w ([]) := Mg.start w
 refine walk_of (l := [(0, .string s), (1, .pointer (some ⟨gk, 0, none⟩)), (2, .pointer (some ⟨ga, 0, none⟩)), (3, .pointer (some ⟨gb, 0, none⟩))]) Try.func51 rfl Try.ntmps51 rfl rfl ?_
 intro Q hret hnorm hP a hA
 refine wp_seq_k (fun K1 hK1 => ?_)
 refine wp_region_lit ?_
 refine seq_do hA rfl rfl rfl (does_assign rfl) ?_
 intro a hA
 refine seq_end ?_
 refine hK1 _ _ ?_
 refine wp_seq_k (fun K2 hK2 => ?_)
 refine wp_draw (S := fun w1 => Mg w w1 ([])) (by kernel_rfl) ?_
 replace hM := hM.drew
 refine any_tk hA 0 rfl rfl rfl rfl hP (hM.sub (List.nil_sublist _)) (fun w1 hM => m_loadX hM hk0 EnC_is1_61 rfl) ?_
 intro a hA
 refine any_tk hA 1 rfl rfl rfl rfl hP (hM.sub (List.nil_sublist _)) (fun w1 hM => m_loadX hM ha0 EnC_is1_55 rfl) ?_
 intro a hA
 refine any_tk hA 2 rfl rfl rfl rfl hP (hM.sub (List.nil_sublist _)) (fun w1 hM => does_move rfl) ?_
 intro a hA
 refine any_tk hA 4 rfl rfl rfl rfl hP (hM.sub (List.nil_sublist _)) (fun w1 hM => m_loadX hM hb0 EnC_is1_55 rfl) ?_
 intro a hA
 refine any_tk hA 5 rfl rfl rfl rfl hP (hM.sub (List.nil_sublist _)) (fun w1 hM => does_move rfl) ?_
 intro a hA
 refine any_one (by kernel_rfl) (op_call hA 3 rfl rfl rfl rfl (enters_fn rfl rfl hF.inv) (hF.run s _ hM.bel) ?_)
 rintro _ w4 ⟨rfl, hb3⟩
 replace hM := hM.call hb3
 refine ⟨_, rfl, (hM.sub (List.nil_sublist _)), ?_⟩
 intro a hA
 refine any_one (by kernel_rfl) (op_call hA 6 rfl rfl rfl rfl (enters_fn rfl rfl hG.inv) (hG.run s _ hM.bel) ?_)
 rintro _ w6 ⟨rfl, hb5⟩
 replace hM := hM.call hb5
 refine ⟨_, rfl, (hM.sub (List.nil_sublist _)), ?_⟩
 intro a hA
 refine any_one (by kernel_rfl) (op_call hA 7 rfl rfl rfl rfl (enters_fn rfl rfl hK.inv) (hK.run _ _ _) ?_)
 rintro _ w8 ⟨rfl, hb7⟩
 replace hM := hM.call hb7
 refine ⟨_, rfl, (hM.sub (List.nil_sublist _)), ?_⟩
 intro a hA
 refine any_tk hA 8 rfl rfl rfl rfl hP (hM.sub (List.nil_sublist _)) (fun w1 hM => does_assign rfl) ?_
 intro a hA
 refine any_end (by kernel_rfl) ?_
 refine hK2 _ _ ?_
 refine wp_ret ?_
 refine hret _ _ ?_
 refine ends (v := .bool (r (p s) (q s))) hA rfl (.cons (res_tmp rfl) .nil) rfl ?_
 exact ⟨rfl, hM.bel⟩
theorem asks_comb {w : World} {fa : FuncId} {va : List Value} {p : ByteArray → Bool} (hF : AskS Try.prog fa va w p) {fb : FuncId} {vb : List Value} {q : ByteArray → Bool} (hG : AskS Try.prog fb vb w q) {f : FuncId} {r : Bool → Bool → Bool} (hK : Ask2 Try.prog f w r) {gk ga gb : Nat} (hk0 : w.cell? ⟨gk, 0, none⟩ = some (.func (.func f) #[] ([] : List Value).toArray)) (ha0 : w.cell? ⟨ga, 0, none⟩ = some (.func (.func fa) #[] va.toArray)) (hb0 : w.cell? ⟨gb, 0, none⟩ = some (.func (.func fb) #[] vb.toArray)) : AskS Try.prog 51 [.pointer (some ⟨gk, 0, none⟩), .pointer (some ⟨ga, 0, none⟩), .pointer (some ⟨gb, 0, none⟩)] w (fun s => r (p s) (q s)) :=
  ⟨fun us w => by kernel_rfl, fun s w1 hb => comb1_any (hF.below hb) (hG.below hb) ⟨hK.inv, hK.run⟩ ((hb.cell (cell_ltE hk0)).trans hk0) ((hb.cell (cell_ltE ha0)).trans ha0) ((hb.cell (cell_ltE hb0)).trans hb0)⟩
theorem equalS_as {w : World} {so : Option Addr} {ca : Nat} {l : List ByteArray} (hR : Rs w so l) (hl : l.length ≤ 8796093021952) {so2 : Option Addr} {ca2 : Nat} {l2 : List ByteArray} (hR2 : Rs w so2 l2) (hl2 : l2.length ≤ 8796093021952) {b : Bool} (h : decide (l = l2) = b) : Calls Try.prog 50 #[.slice so l.length ca, .slice so2 l2.length ca2] w fun e w' => e = .returned (.bool b) ∧ Below w.heap.size w w' := h ▸ equalS_any hR hR2 hl hl2
theorem comp_form {w : World} {so si : Option Addr} {ca ci : Nat} {l : List ByteArray} {bs : List Bool} (hR : Rs w so l) (hB : Rl w si bs) (hsd : sndS l bs = false) : Calls Try.prog 21 #[.agg #[.slice so l.length ca, .slice si bs.length ci]] w fun e w' => e = .returned (.tuple #[.agg #[.slice none 0 0, .slice none 0 0], .int .i64 2]) ∧ Below w.heap.size w w' := by
 have hM : Mg w w ([]) := Mg.start w
 refine walk_of (l := [(0, .agg #[.slice so l.length ca, .slice si bs.length ci])]) Try.func21 rfl Try.ntmps21 rfl rfl ?_
 intro Q hret hnorm hP a hA
 refine wp_seq_k (fun K1 hK1 => ?_)
 refine wp_region_lit ?_
 refine s_new (vs := [.slice so l.length ca, .slice si bs.length ci]) (t := 25) hA hM rfl rfl rfl (fun g => .pointer (some ⟨g, 0, none⟩)) (does_box rfl rfl) (by decide) ?_
 intro g2 w3 hM a hA
 refine s_new (vs := [.slice none 0 0, .slice none 0 0]) (t := 25) hA hM rfl rfl rfl (fun g => .pointer (some ⟨g, 0, none⟩)) (does_alloc (z := .agg #[.slice none 0 0, .slice none 0 0]) (by kernel_rfl) rfl) (by decide) ?_
 intro g4 w5 hM a hA
 refine seq_do hA rfl rfl rfl (does_assign rfl) ?_
 intro a hA
 refine seq_end ?_
 refine hK1 _ _ ?_
 refine wp_seq_k (fun K6 hK6 => ?_)
 refine wp_seq_k (fun K7 hK7 => ?_)
 refine wp_region_lit ?_
 refine seq_do hA rfl rfl rfl (m_loadS hM EnC_isS_25 rfl 1 rfl (cs := [.slice so l.length ca, .slice si bs.length ci]) rfl rfl) ?_
 intro a hA
 refine seq_call hA rfl rfl rfl (enters_func rfl rfl (fun w => by kernel_rfl)) (sound_as (hR.below hM.bel) (hB.below hM.bel) hsd) ?_
 rintro _ w9 ⟨rfl, hb8⟩
 replace hM := hM.call hb8
 refine ⟨_, rfl, ?_⟩
 intro a hA
 refine seq_do (v := .bool true) hA rfl rfl rfl (does_un rfl un_not) ?_
 intro a hA
 refine seq_end ?_
 refine hK7 _ _ ?_
 refine wp_cond_true (hA.ev rfl) ?_
 refine wp_seq_k (fun K10 hK10 => ?_)
 refine wp_region_lit ?_
 refine seq_do (v := .agg #[.slice none 0 0, .slice none 0 0]) hA rfl rfl rfl (does_build rfl (fun w => by kernel_rfl)) ?_
 intro a hA
 refine s_store (us := [.slice none 0 0, .slice none 0 0]) (L' := (.obj g4 (.cells #[.slice none 0 0, .slice none 0 0] 25) :: .obj g2 (.cells #[.slice so l.length ca, .slice si bs.length ci] 25) :: [])) hA hM rfl rfl (m_store rfl rfl rfl (by kernel_rfl) hM 0 rfl rfl rfl) 0 rfl rfl rfl ?_
 intro w11 hM
 refine seq_do hA rfl rfl rfl (does_assign rfl) ?_
 intro a hA
 refine seq_end ?_
 refine hK10 _ _ ?_
 refine wp_ret ?_
 refine hret _ _ ?_
 refine ends (v := .tuple #[.agg #[.slice none 0 0, .slice none 0 0], .int .i64 2]) hA rfl (.cons (res_cellS hM EnC_isS_25 rfl 0 rfl (cs := [.slice none 0 0, .slice none 0 0]) rfl rfl) (.cons (res_tmp rfl) .nil)) rfl ?_
 exact ⟨rfl, hM.bel⟩
theorem comp_ok {w : World} {so si : Option Addr} {ca ci : Nat} {l : List ByteArray} {bs : List Bool} (hR : Rs w so l) (hB : Rl w si bs) (hs : ∀ s ∈ l, s.size ≤ 281474976710656) (hsd : sndS l bs = true) : Calls Try.prog 21 #[.agg #[.slice so l.length ca, .slice si bs.length ci]] w fun e w' => ∃ so' ca' si' ci', e = .returned (.tuple #[.agg #[.slice so' l.length ca', .slice si' l.length ci'], .int .i64 0]) ∧ Mg w w' [.row 9 1 (.slice so' l.length ca') l.length (strC l), .row 4 1 (.slice si' l.length ci') l.length (boolC (l.map fun s => !hasS l bs s))] := by
 have hl : l.length ≤ 8796093021952 := by have := (snd_le hsd).1; omega
 have hM : Mg w w ([]) := Mg.start w
 refine walk_of (l := [(0, .agg #[.slice so l.length ca, .slice si bs.length ci])]) Try.func21 rfl Try.ntmps21 rfl rfl ?_
 intro Q hret hnorm hP a hA
 refine wp_seq_k (fun K1 hK1 => ?_)
 refine wp_region_lit ?_
 refine s_new (vs := [.slice so l.length ca, .slice si bs.length ci]) (t := 25) hA hM rfl rfl rfl (fun g => .pointer (some ⟨g, 0, none⟩)) (does_box rfl rfl) (by decide) ?_
 intro g2 w3 hM a hA
 refine s_new (vs := [.slice none 0 0, .slice none 0 0]) (t := 25) hA hM rfl rfl rfl (fun g => .pointer (some ⟨g, 0, none⟩)) (does_alloc (z := .agg #[.slice none 0 0, .slice none 0 0]) (by kernel_rfl) rfl) (by decide) ?_
 intro g4 w5 hM a hA
 refine seq_do hA rfl rfl rfl (does_assign rfl) ?_
 intro a hA
 refine seq_end ?_
 refine hK1 _ _ ?_
 refine wp_seq_k (fun K6 hK6 => ?_)
 refine wp_seq_k (fun K7 hK7 => ?_)
 refine wp_region_lit ?_
 refine seq_do hA rfl rfl rfl (m_loadS hM EnC_isS_25 rfl 1 rfl (cs := [.slice so l.length ca, .slice si bs.length ci]) rfl rfl) ?_
 intro a hA
 refine seq_call hA rfl rfl rfl (enters_func rfl rfl (fun w => by kernel_rfl)) (sound_as (hR.below hM.bel) (hB.below hM.bel) hsd) ?_
 rintro _ w9 ⟨rfl, hb8⟩
 replace hM := hM.call hb8
 refine ⟨_, rfl, ?_⟩
 intro a hA
 refine seq_do (v := .bool false) hA rfl rfl rfl (does_un rfl un_not) ?_
 intro a hA
 refine seq_end ?_
 refine hK7 _ _ ?_
 refine wp_cond_false (hA.ev rfl) ?_
 refine wp_skip ?_
 refine hK6 _ _ ?_
 refine wp_seq_k (fun K10 hK10 => ?_)
 refine wp_region_lit ?_
 refine seq_do hA rfl rfl rfl (m_loadS hM EnC_isS_25 rfl 1 rfl (cs := [.slice so l.length ca, .slice si bs.length ci]) rfl rfl) ?_
 intro a hA
 refine seq_call hA rfl rfl rfl (enters_func rfl rfl (fun w => by kernel_rfl)) (membership_any) ?_
 rintro _ w13 ⟨g11, rfl, hM12⟩
 replace hM : Mg w w13 (.obj g11 (.cells #[.slice so l.length ca, .slice si bs.length ci] 25) :: .obj g4 (.cells #[.slice none 0 0, .slice none 0 0] 25) :: .obj g2 (.cells #[.slice so l.length ca, .slice si bs.length ci] 25) :: []) := (hM.both hM12 (noBld_cons (by simp) (noBld_cons (by simp) (noBld_quiet quietL_nil))) (noBld_cons (by simp) (noBld_quiet quietL_nil)))
 refine ⟨_, rfl, ?_⟩
 intro a hA
 refine s_new (vs := [.nilFunc]) (t := 55) hA hM rfl rfl rfl (fun g => .pointer (some ⟨g, 0, none⟩)) (does_alloc (z := .nilFunc) (by kernel_rfl) rfl) (by decide) ?_
 intro g14 w15 hM a hA
 refine s_store (us := [.func (.func 52) #[] [.pointer (some ⟨g11, 0, none⟩)].toArray]) (L' := (.obj g14 (.cells #[.func (.func 52) #[] [.pointer (some ⟨g11, 0, none⟩)].toArray] 55) :: .obj g11 (.cells #[.slice so l.length ca, .slice si bs.length ci] 25) :: .obj g4 (.cells #[.slice none 0 0, .slice none 0 0] 25) :: .obj g2 (.cells #[.slice so l.length ca, .slice si bs.length ci] 25) :: [])) hA hM rfl rfl (m_store rfl rfl rfl (by kernel_rfl) hM 0 rfl rfl rfl) 0 rfl rfl rfl ?_
 intro w16 hM
 refine seq_end ?_
 refine hK10 _ _ ?_
 refine wp_seq_k (fun K17 hK17 => ?_)
 refine wp_region_lit ?_
 refine seq_do (v := .pointer (some ⟨g2, 0, none⟩)) hA rfl rfl rfl (does_field EnC_fld_25_0 rfl rfl) ?_
 intro a hA
 refine seq_do hA rfl rfl rfl (m_load1 hM EnC_is1_22 rfl 3 rfl rfl) ?_
 intro a hA
 refine seq_do (v := .func (.func 42) #[] [.pointer (some ⟨g14, 0, none⟩)].toArray) hA rfl rfl rfl (does_makeFunc rfl) ?_
 intro a hA
 refine seq_call hA rfl rfl rfl (enters_func rfl rfl (fun w => by kernel_rfl)) (where_any (hR.below hM.bel) hl hs (asks_not1 (asks_memb (hR.below hM.bel) (hB.below hM.bel) hl (snd_le hsd).2.1 (hM.cell 1 rfl 0 rfl) (hM.cell 1 rfl 1 rfl)) (hM.cell 0 rfl 0 rfl))) ?_
 rintro _ w23 ⟨so18, ca19, si20, ci21, rfl, hM22⟩
 replace hM : Mg w w23 (.row 9 1 (.slice so18 l.length ca19) l.length (strC l) :: .row 4 1 (.slice si20 l.length ci21) l.length (boolC (l.map (fun s => !hasS l bs s))) :: .obj g14 (.cells #[.func (.func 52) #[] [.pointer (some ⟨g11, 0, none⟩)].toArray] 55) :: .obj g11 (.cells #[.slice so l.length ca, .slice si bs.length ci] 25) :: .obj g4 (.cells #[.slice none 0 0, .slice none 0 0] 25) :: .obj g2 (.cells #[.slice so l.length ca, .slice si bs.length ci] 25) :: []) := (hM.both hM22 (noBld_cons (by simp) (noBld_cons (by simp) (noBld_cons (by simp) (noBld_cons (by simp) (noBld_quiet quietL_nil))))) (noBld_cons (by simp) (noBld_cons (by simp) (noBld_quiet quietL_nil))))
 refine ⟨_, rfl, ?_⟩
 intro a hA
 refine s_store (us := [.slice so18 l.length ca19, .slice si20 l.length ci21]) (L' := (.row 9 1 (.slice so18 l.length ca19) l.length (strC l) :: .row 4 1 (.slice si20 l.length ci21) l.length (boolC (l.map (fun s => !hasS l bs s))) :: .obj g14 (.cells #[.func (.func 52) #[] [.pointer (some ⟨g11, 0, none⟩)].toArray] 55) :: .obj g11 (.cells #[.slice so l.length ca, .slice si bs.length ci] 25) :: .obj g4 (.cells #[.slice so18 l.length ca19, .slice si20 l.length ci21] 25) :: .obj g2 (.cells #[.slice so l.length ca, .slice si bs.length ci] 25) :: [])) hA hM rfl rfl (m_store rfl rfl rfl (by kernel_rfl) hM 4 rfl rfl rfl) 4 rfl rfl rfl ?_
 intro w24 hM
 refine seq_do hA rfl rfl rfl (does_assign rfl) ?_
 intro a hA
 refine seq_end ?_
 refine hK17 _ _ ?_
 refine wp_ret ?_
 refine hret _ _ ?_
 refine ends (v := .tuple #[.agg #[.slice so18 l.length ca19, .slice si20 l.length ci21], .int .i64 0]) hA rfl (.cons (res_cellS hM EnC_isS_25 rfl 4 rfl (cs := [.slice so18 l.length ca19, .slice si20 l.length ci21]) rfl rfl) (.cons (res_tmp rfl) .nil)) rfl ?_
 replace hM : Mg w w24 (.row 9 1 (.slice so18 l.length ca19) l.length (strC l) :: .row 4 1 (.slice si20 l.length ci21) l.length (boolC (l.map (fun s => !hasS l bs s))) :: []) := by
   have h9 := hM.sub (.cons_cons _ (.cons_cons _ (.cons _ (.cons _ (.cons _ (.cons _ (.refl _)))))))
   exact h9
 exact ⟨_, _, _, _, rfl, hM⟩
theorem sub_form1 {w : World} {so si : Option Addr} {ca ci : Nat} {l : List ByteArray} {bs : List Bool} (hR : Rs w so l) (hB : Rl w si bs) {so2 si2 : Option Addr} {ca2 ci2 : Nat} {l2 : List ByteArray} {bs2 : List Bool} (hR2 : Rs w so2 l2) (hB2 : Rl w si2 bs2) (hsd : sndS l bs = false) : Calls Try.prog 22 #[.agg #[.slice so l.length ca, .slice si bs.length ci], .agg #[.slice so2 l2.length ca2, .slice si2 bs2.length ci2]] w fun e w' => e = .returned (.tuple #[.bool false, .int .i64 2]) ∧ Below w.heap.size w w' := by
 have hM : Mg w w ([]) := Mg.start w
 refine walk_of (l := [(0, .agg #[.slice so l.length ca, .slice si bs.length ci]), (1, .agg #[.slice so2 l2.length ca2, .slice si2 bs2.length ci2])]) Try.func22 rfl Try.ntmps22 rfl rfl ?_
 intro Q hret hnorm hP a hA
 refine wp_seq_k (fun K1 hK1 => ?_)
 refine wp_region_lit ?_
 refine s_new (vs := [.slice so l.length ca, .slice si bs.length ci]) (t := 25) hA hM rfl rfl rfl (fun g => .pointer (some ⟨g, 0, none⟩)) (does_box rfl rfl) (by decide) ?_
 intro g2 w3 hM a hA
 refine s_new (vs := [.slice so2 l2.length ca2, .slice si2 bs2.length ci2]) (t := 25) hA hM rfl rfl rfl (fun g => .pointer (some ⟨g, 0, none⟩)) (does_box rfl rfl) (by decide) ?_
 intro g4 w5 hM a hA
 refine seq_do hA rfl rfl rfl (does_assign rfl) ?_
 intro a hA
 refine seq_do hA rfl rfl rfl (does_assign rfl) ?_
 intro a hA
 refine seq_end ?_
 refine hK1 _ _ ?_
 refine wp_seq_k (fun K6 hK6 => ?_)
 refine wp_seq_k (fun K7 hK7 => ?_)
 refine wp_region_lit ?_
 refine seq_do hA rfl rfl rfl (m_loadS hM EnC_isS_25 rfl 1 rfl (cs := [.slice so l.length ca, .slice si bs.length ci]) rfl rfl) ?_
 intro a hA
 refine seq_call hA rfl rfl rfl (enters_func rfl rfl (fun w => by kernel_rfl)) (sound_as (hR.below hM.bel) (hB.below hM.bel) hsd) ?_
 rintro _ w9 ⟨rfl, hb8⟩
 replace hM := hM.call hb8
 refine ⟨_, rfl, ?_⟩
 intro a hA
 refine seq_do (v := .bool true) hA rfl rfl rfl (does_un rfl un_not) ?_
 intro a hA
 refine seq_do hA rfl rfl rfl (does_move rfl) ?_
 intro a hA
 refine seq_skip hA rfl rfl rfl ?_
 intro a hA
 refine seq_skip hA rfl rfl rfl ?_
 intro a hA
 refine seq_skip hA rfl rfl rfl ?_
 intro a hA
 refine seq_do (v := .bool true) hA rfl rfl rfl (does_pick rfl rfl rfl rfl) ?_
 intro a hA
 refine seq_end ?_
 refine hK7 _ _ ?_
 refine wp_cond_true (hA.ev rfl) ?_
 refine wp_seq_k (fun K10 hK10 => ?_)
 refine wp_region_lit ?_
 refine seq_do hA rfl rfl rfl (does_assign rfl) ?_
 intro a hA
 refine seq_do hA rfl rfl rfl (does_assign rfl) ?_
 intro a hA
 refine seq_end ?_
 refine hK10 _ _ ?_
 refine wp_ret ?_
 refine hret _ _ ?_
 refine ends (v := .tuple #[.bool false, .int .i64 2]) hA rfl (.cons (res_tmp rfl) (.cons (res_tmp rfl) .nil)) rfl ?_
 exact ⟨rfl, hM.bel⟩
theorem sub_form2 {w : World} {so si : Option Addr} {ca ci : Nat} {l : List ByteArray} {bs : List Bool} (hR : Rs w so l) (hB : Rl w si bs) {so2 si2 : Option Addr} {ca2 ci2 : Nat} {l2 : List ByteArray} {bs2 : List Bool} (hR2 : Rs w so2 l2) (hB2 : Rl w si2 bs2) (hsd : sndS l bs = true) (hsd2 : sndS l2 bs2 = false) : Calls Try.prog 22 #[.agg #[.slice so l.length ca, .slice si bs.length ci], .agg #[.slice so2 l2.length ca2, .slice si2 bs2.length ci2]] w fun e w' => e = .returned (.tuple #[.bool false, .int .i64 2]) ∧ Below w.heap.size w w' := by
 have hM : Mg w w ([]) := Mg.start w
 refine walk_of (l := [(0, .agg #[.slice so l.length ca, .slice si bs.length ci]), (1, .agg #[.slice so2 l2.length ca2, .slice si2 bs2.length ci2])]) Try.func22 rfl Try.ntmps22 rfl rfl ?_
 intro Q hret hnorm hP a hA
 refine wp_seq_k (fun K1 hK1 => ?_)
 refine wp_region_lit ?_
 refine s_new (vs := [.slice so l.length ca, .slice si bs.length ci]) (t := 25) hA hM rfl rfl rfl (fun g => .pointer (some ⟨g, 0, none⟩)) (does_box rfl rfl) (by decide) ?_
 intro g2 w3 hM a hA
 refine s_new (vs := [.slice so2 l2.length ca2, .slice si2 bs2.length ci2]) (t := 25) hA hM rfl rfl rfl (fun g => .pointer (some ⟨g, 0, none⟩)) (does_box rfl rfl) (by decide) ?_
 intro g4 w5 hM a hA
 refine seq_do hA rfl rfl rfl (does_assign rfl) ?_
 intro a hA
 refine seq_do hA rfl rfl rfl (does_assign rfl) ?_
 intro a hA
 refine seq_end ?_
 refine hK1 _ _ ?_
 refine wp_seq_k (fun K6 hK6 => ?_)
 refine wp_seq_k (fun K7 hK7 => ?_)
 refine wp_region_lit ?_
 refine seq_do hA rfl rfl rfl (m_loadS hM EnC_isS_25 rfl 1 rfl (cs := [.slice so l.length ca, .slice si bs.length ci]) rfl rfl) ?_
 intro a hA
 refine seq_call hA rfl rfl rfl (enters_func rfl rfl (fun w => by kernel_rfl)) (sound_as (hR.below hM.bel) (hB.below hM.bel) hsd) ?_
 rintro _ w9 ⟨rfl, hb8⟩
 replace hM := hM.call hb8
 refine ⟨_, rfl, ?_⟩
 intro a hA
 refine seq_do (v := .bool false) hA rfl rfl rfl (does_un rfl un_not) ?_
 intro a hA
 refine seq_do hA rfl rfl rfl (does_move rfl) ?_
 intro a hA
 refine seq_do hA rfl rfl rfl (m_loadS hM EnC_isS_25 rfl 0 rfl (cs := [.slice so2 l2.length ca2, .slice si2 bs2.length ci2]) rfl rfl) ?_
 intro a hA
 refine seq_call hA rfl rfl rfl (enters_func rfl rfl (fun w => by kernel_rfl)) (sound_as (hR2.below hM.bel) (hB2.below hM.bel) hsd2) ?_
 rintro _ w11 ⟨rfl, hb10⟩
 replace hM := hM.call hb10
 refine ⟨_, rfl, ?_⟩
 intro a hA
 refine seq_do (v := .bool true) hA rfl rfl rfl (does_un rfl un_not) ?_
 intro a hA
 refine seq_do (v := .bool true) hA rfl rfl rfl (does_pick rfl rfl rfl rfl) ?_
 intro a hA
 refine seq_end ?_
 refine hK7 _ _ ?_
 refine wp_cond_true (hA.ev rfl) ?_
 refine wp_seq_k (fun K12 hK12 => ?_)
 refine wp_region_lit ?_
 refine seq_do hA rfl rfl rfl (does_assign rfl) ?_
 intro a hA
 refine seq_do hA rfl rfl rfl (does_assign rfl) ?_
 intro a hA
 refine seq_end ?_
 refine hK12 _ _ ?_
 refine wp_ret ?_
 refine hret _ _ ?_
 refine ends (v := .tuple #[.bool false, .int .i64 2]) hA rfl (.cons (res_tmp rfl) (.cons (res_tmp rfl) .nil)) rfl ?_
 exact ⟨rfl, hM.bel⟩
theorem sub_ok {w : World} {so si : Option Addr} {ca ci : Nat} {l : List ByteArray} {bs : List Bool} (hR : Rs w so l) (hB : Rl w si bs) {so2 si2 : Option Addr} {ca2 ci2 : Nat} {l2 : List ByteArray} {bs2 : List Bool} (hR2 : Rs w so2 l2) (hB2 : Rl w si2 bs2) (hsd : sndS l bs = true) (hsd2 : sndS l2 bs2 = true) : Calls Try.prog 22 #[.agg #[.slice so l.length ca, .slice si bs.length ci], .agg #[.slice so2 l2.length ca2, .slice si2 bs2.length ci2]] w fun e w' => e = .returned (.tuple #[.bool (!(memS l bs).any fun s => !hasS l2 bs2 s), .int .i64 0]) ∧ Below w.heap.size w w' := by
 have hl : l.length ≤ 8796093021952 := by have := (snd_le hsd).1; omega
 have hl2 : l2.length ≤ 8796093021952 := by have := (snd_le hsd2).1; omega
 have hM : Mg w w ([]) := Mg.start w
 refine walk_of (l := [(0, .agg #[.slice so l.length ca, .slice si bs.length ci]), (1, .agg #[.slice so2 l2.length ca2, .slice si2 bs2.length ci2])]) Try.func22 rfl Try.ntmps22 rfl rfl ?_
 intro Q hret hnorm hP a hA
 refine wp_seq_k (fun K1 hK1 => ?_)
 refine wp_region_lit ?_
 refine s_new (vs := [.slice so l.length ca, .slice si bs.length ci]) (t := 25) hA hM rfl rfl rfl (fun g => .pointer (some ⟨g, 0, none⟩)) (does_box rfl rfl) (by decide) ?_
 intro g2 w3 hM a hA
 refine s_new (vs := [.slice so2 l2.length ca2, .slice si2 bs2.length ci2]) (t := 25) hA hM rfl rfl rfl (fun g => .pointer (some ⟨g, 0, none⟩)) (does_box rfl rfl) (by decide) ?_
 intro g4 w5 hM a hA
 refine seq_do hA rfl rfl rfl (does_assign rfl) ?_
 intro a hA
 refine seq_do hA rfl rfl rfl (does_assign rfl) ?_
 intro a hA
 refine seq_end ?_
 refine hK1 _ _ ?_
 refine wp_seq_k (fun K6 hK6 => ?_)
 refine wp_seq_k (fun K7 hK7 => ?_)
 refine wp_region_lit ?_
 refine seq_do hA rfl rfl rfl (m_loadS hM EnC_isS_25 rfl 1 rfl (cs := [.slice so l.length ca, .slice si bs.length ci]) rfl rfl) ?_
 intro a hA
 refine seq_call hA rfl rfl rfl (enters_func rfl rfl (fun w => by kernel_rfl)) (sound_as (hR.below hM.bel) (hB.below hM.bel) hsd) ?_
 rintro _ w9 ⟨rfl, hb8⟩
 replace hM := hM.call hb8
 refine ⟨_, rfl, ?_⟩
 intro a hA
 refine seq_do (v := .bool false) hA rfl rfl rfl (does_un rfl un_not) ?_
 intro a hA
 refine seq_do hA rfl rfl rfl (does_move rfl) ?_
 intro a hA
 refine seq_do hA rfl rfl rfl (m_loadS hM EnC_isS_25 rfl 0 rfl (cs := [.slice so2 l2.length ca2, .slice si2 bs2.length ci2]) rfl rfl) ?_
 intro a hA
 refine seq_call hA rfl rfl rfl (enters_func rfl rfl (fun w => by kernel_rfl)) (sound_as (hR2.below hM.bel) (hB2.below hM.bel) hsd2) ?_
 rintro _ w11 ⟨rfl, hb10⟩
 replace hM := hM.call hb10
 refine ⟨_, rfl, ?_⟩
 intro a hA
 refine seq_do (v := .bool false) hA rfl rfl rfl (does_un rfl un_not) ?_
 intro a hA
 refine seq_do (v := .bool false) hA rfl rfl rfl (does_pick rfl rfl rfl rfl) ?_
 intro a hA
 refine seq_end ?_
 refine hK7 _ _ ?_
 refine wp_cond_false (hA.ev rfl) ?_
 refine wp_skip ?_
 refine hK6 _ _ ?_
 refine wp_seq_k (fun K12 hK12 => ?_)
 refine wp_region_lit ?_
 refine seq_do hA rfl rfl rfl (m_loadS hM EnC_isS_25 rfl 0 rfl (cs := [.slice so2 l2.length ca2, .slice si2 bs2.length ci2]) rfl rfl) ?_
 intro a hA
 refine seq_call hA rfl rfl rfl (enters_func rfl rfl (fun w => by kernel_rfl)) (membership_any) ?_
 rintro _ w15 ⟨g13, rfl, hM14⟩
 replace hM : Mg w w15 (.obj g13 (.cells #[.slice so2 l2.length ca2, .slice si2 bs2.length ci2] 25) :: .obj g4 (.cells #[.slice so2 l2.length ca2, .slice si2 bs2.length ci2] 25) :: .obj g2 (.cells #[.slice so l.length ca, .slice si bs.length ci] 25) :: []) := (hM.both hM14 (noBld_cons (by simp) (noBld_cons (by simp) (noBld_quiet quietL_nil))) (noBld_cons (by simp) (noBld_quiet quietL_nil)))
 refine ⟨_, rfl, ?_⟩
 intro a hA
 refine s_new (vs := [.nilFunc]) (t := 55) hA hM rfl rfl rfl (fun g => .pointer (some ⟨g, 0, none⟩)) (does_alloc (z := .nilFunc) (by kernel_rfl) rfl) (by decide) ?_
 intro g16 w17 hM a hA
 refine s_store (us := [.func (.func 52) #[] [.pointer (some ⟨g13, 0, none⟩)].toArray]) (L' := (.obj g16 (.cells #[.func (.func 52) #[] [.pointer (some ⟨g13, 0, none⟩)].toArray] 55) :: .obj g13 (.cells #[.slice so2 l2.length ca2, .slice si2 bs2.length ci2] 25) :: .obj g4 (.cells #[.slice so2 l2.length ca2, .slice si2 bs2.length ci2] 25) :: .obj g2 (.cells #[.slice so l.length ca, .slice si bs.length ci] 25) :: [])) hA hM rfl rfl (m_store rfl rfl rfl (by kernel_rfl) hM 0 rfl rfl rfl) 0 rfl rfl rfl ?_
 intro w18 hM
 refine seq_end ?_
 refine hK12 _ _ ?_
 refine wp_seq_k (fun K19 hK19 => ?_)
 refine wp_region_lit ?_
 refine seq_do (v := .func (.func 43) #[] [.pointer (some ⟨g16, 0, none⟩)].toArray) hA rfl rfl rfl (does_makeFunc rfl) ?_
 intro a hA
 refine seq_do hA rfl rfl rfl (does_assign rfl) ?_
 intro a hA
 refine seq_end ?_
 refine hK19 _ _ ?_
 refine wp_seq_k (fun K20 hK20 => ?_)
 refine wp_region_lit ?_
 refine seq_do hA rfl rfl rfl (m_loadS hM EnC_isS_25 rfl 3 rfl (cs := [.slice so l.length ca, .slice si bs.length ci]) rfl rfl) ?_
 intro a hA
 refine seq_call hA rfl rfl rfl (enters_func rfl rfl (fun w => by kernel_rfl)) (members_any (hR.below hM.bel) (hB.below hM.bel) (by have := (snd_le hsd).1; omega) (snd_le hsd).2.1) ?_
 rintro _ w24 ⟨so21, ca22, rfl, hM23⟩
 replace hM : Mg w w24 (.row 9 1 (.slice so21 ((memS l bs).length) ca22) ((memS l bs).length) (strC (memS l bs)) :: .obj g16 (.cells #[.func (.func 52) #[] [.pointer (some ⟨g13, 0, none⟩)].toArray] 55) :: .obj g13 (.cells #[.slice so2 l2.length ca2, .slice si2 bs2.length ci2] 25) :: .obj g4 (.cells #[.slice so2 l2.length ca2, .slice si2 bs2.length ci2] 25) :: .obj g2 (.cells #[.slice so l.length ca, .slice si bs.length ci] 25) :: []) := (hM.both hM23 (noBld_cons (by simp) (noBld_cons (by simp) (noBld_cons (by simp) (noBld_cons (by simp) (noBld_quiet quietL_nil))))) (noBld_cons (by simp) (noBld_quiet quietL_nil)))
 refine ⟨_, rfl, ?_⟩
 intro a hA
 refine seq_do hA rfl rfl rfl (does_move rfl) ?_
 intro a hA
 refine seq_call hA rfl rfl rfl (enters_func rfl rfl (fun w => by kernel_rfl)) (containsf_any (rc_own (hM.has 0 rfl)) (by have := (snd_le hsd).1; have := memS_len l bs; omega) (asks_out1 (asks_memb (hR2.below hM.bel) (hB2.below hM.bel) hl2 (snd_le hsd2).2.1 (hM.cell 2 rfl 0 rfl) (hM.cell 2 rfl 1 rfl)) (hM.cell 1 rfl 0 rfl))) ?_
 rintro _ w26 ⟨rfl, hb25⟩
 replace hM := hM.call hb25
 refine ⟨_, rfl, ?_⟩
 intro a hA
 refine seq_do (v := .bool (!((memS l bs).any fun s => !hasS l2 bs2 s))) hA rfl rfl rfl (does_un rfl un_not) ?_
 intro a hA
 refine seq_do hA rfl rfl rfl (does_assign rfl) ?_
 intro a hA
 refine seq_do hA rfl rfl rfl (does_assign rfl) ?_
 intro a hA
 refine seq_end ?_
 refine hK20 _ _ ?_
 refine wp_ret ?_
 refine hret _ _ ?_
 refine ends (v := .tuple #[.bool (!((memS l bs).any fun s => !hasS l2 bs2 s)), .int .i64 0]) hA rfl (.cons (res_tmp rfl) (.cons (res_tmp rfl) .nil)) rfl ?_
 exact ⟨rfl, hM.bel⟩
theorem proj_form1 {w : World} {so si : Option Addr} {ca ci : Nat} {l : List ByteArray} {bs : List Bool} (hR : Rs w so l) (hB : Rl w si bs) {so2 si2 : Option Addr} {ca2 ci2 : Nat} {l2 : List ByteArray} {bs2 : List Bool} (hR2 : Rs w so2 l2) (hB2 : Rl w si2 bs2) (hsd : sndS l bs = false) : Calls Try.prog 23 #[.agg #[.slice so l.length ca, .slice si bs.length ci], .agg #[.slice so2 l2.length ca2, .slice si2 bs2.length ci2]] w fun e w' => e = .returned (.tuple #[.agg #[.slice none 0 0, .slice none 0 0], .int .i64 2]) ∧ Below w.heap.size w w' := by
 have hM : Mg w w ([]) := Mg.start w
 refine walk_of (l := [(0, .agg #[.slice so l.length ca, .slice si bs.length ci]), (1, .agg #[.slice so2 l2.length ca2, .slice si2 bs2.length ci2])]) Try.func23 rfl Try.ntmps23 rfl rfl ?_
 intro Q hret hnorm hP a hA
 refine wp_seq_k (fun K1 hK1 => ?_)
 refine wp_region_lit ?_
 refine s_new (vs := [.slice so l.length ca, .slice si bs.length ci]) (t := 25) hA hM rfl rfl rfl (fun g => .pointer (some ⟨g, 0, none⟩)) (does_box rfl rfl) (by decide) ?_
 intro g2 w3 hM a hA
 refine s_new (vs := [.slice so2 l2.length ca2, .slice si2 bs2.length ci2]) (t := 25) hA hM rfl rfl rfl (fun g => .pointer (some ⟨g, 0, none⟩)) (does_box rfl rfl) (by decide) ?_
 intro g4 w5 hM a hA
 refine s_new (vs := [.slice none 0 0, .slice none 0 0]) (t := 25) hA hM rfl rfl rfl (fun g => .pointer (some ⟨g, 0, none⟩)) (does_alloc (z := .agg #[.slice none 0 0, .slice none 0 0]) (by kernel_rfl) rfl) (by decide) ?_
 intro g6 w7 hM a hA
 refine seq_do hA rfl rfl rfl (does_assign rfl) ?_
 intro a hA
 refine seq_end ?_
 refine hK1 _ _ ?_
 refine wp_seq_k (fun K8 hK8 => ?_)
 refine wp_seq_k (fun K9 hK9 => ?_)
 refine wp_region_lit ?_
 refine seq_do hA rfl rfl rfl (m_loadS hM EnC_isS_25 rfl 2 rfl (cs := [.slice so l.length ca, .slice si bs.length ci]) rfl rfl) ?_
 intro a hA
 refine seq_call hA rfl rfl rfl (enters_func rfl rfl (fun w => by kernel_rfl)) (sound_as (hR.below hM.bel) (hB.below hM.bel) hsd) ?_
 rintro _ w11 ⟨rfl, hb10⟩
 replace hM := hM.call hb10
 refine ⟨_, rfl, ?_⟩
 intro a hA
 refine seq_do (v := .bool true) hA rfl rfl rfl (does_un rfl un_not) ?_
 intro a hA
 refine seq_do hA rfl rfl rfl (does_move rfl) ?_
 intro a hA
 refine seq_skip hA rfl rfl rfl ?_
 intro a hA
 refine seq_skip hA rfl rfl rfl ?_
 intro a hA
 refine seq_skip hA rfl rfl rfl ?_
 intro a hA
 refine seq_do (v := .bool true) hA rfl rfl rfl (does_pick rfl rfl rfl rfl) ?_
 intro a hA
 refine seq_end ?_
 refine hK9 _ _ ?_
 refine wp_cond_true (hA.ev rfl) ?_
 refine wp_seq_k (fun K12 hK12 => ?_)
 refine wp_region_lit ?_
 refine seq_do (v := .agg #[.slice none 0 0, .slice none 0 0]) hA rfl rfl rfl (does_build rfl (fun w => by kernel_rfl)) ?_
 intro a hA
 refine s_store (us := [.slice none 0 0, .slice none 0 0]) (L' := (.obj g6 (.cells #[.slice none 0 0, .slice none 0 0] 25) :: .obj g4 (.cells #[.slice so2 l2.length ca2, .slice si2 bs2.length ci2] 25) :: .obj g2 (.cells #[.slice so l.length ca, .slice si bs.length ci] 25) :: [])) hA hM rfl rfl (m_store rfl rfl rfl (by kernel_rfl) hM 0 rfl rfl rfl) 0 rfl rfl rfl ?_
 intro w13 hM
 refine seq_do hA rfl rfl rfl (does_assign rfl) ?_
 intro a hA
 refine seq_end ?_
 refine hK12 _ _ ?_
 refine wp_ret ?_
 refine hret _ _ ?_
 refine ends (v := .tuple #[.agg #[.slice none 0 0, .slice none 0 0], .int .i64 2]) hA rfl (.cons (res_cellS hM EnC_isS_25 rfl 0 rfl (cs := [.slice none 0 0, .slice none 0 0]) rfl rfl) (.cons (res_tmp rfl) .nil)) rfl ?_
 exact ⟨rfl, hM.bel⟩
theorem proj_form2 {w : World} {so si : Option Addr} {ca ci : Nat} {l : List ByteArray} {bs : List Bool} (hR : Rs w so l) (hB : Rl w si bs) {so2 si2 : Option Addr} {ca2 ci2 : Nat} {l2 : List ByteArray} {bs2 : List Bool} (hR2 : Rs w so2 l2) (hB2 : Rl w si2 bs2) (hsd : sndS l bs = true) (hsd2 : sndS l2 bs2 = false) : Calls Try.prog 23 #[.agg #[.slice so l.length ca, .slice si bs.length ci], .agg #[.slice so2 l2.length ca2, .slice si2 bs2.length ci2]] w fun e w' => e = .returned (.tuple #[.agg #[.slice none 0 0, .slice none 0 0], .int .i64 2]) ∧ Below w.heap.size w w' := by
 have hM : Mg w w ([]) := Mg.start w
 refine walk_of (l := [(0, .agg #[.slice so l.length ca, .slice si bs.length ci]), (1, .agg #[.slice so2 l2.length ca2, .slice si2 bs2.length ci2])]) Try.func23 rfl Try.ntmps23 rfl rfl ?_
 intro Q hret hnorm hP a hA
 refine wp_seq_k (fun K1 hK1 => ?_)
 refine wp_region_lit ?_
 refine s_new (vs := [.slice so l.length ca, .slice si bs.length ci]) (t := 25) hA hM rfl rfl rfl (fun g => .pointer (some ⟨g, 0, none⟩)) (does_box rfl rfl) (by decide) ?_
 intro g2 w3 hM a hA
 refine s_new (vs := [.slice so2 l2.length ca2, .slice si2 bs2.length ci2]) (t := 25) hA hM rfl rfl rfl (fun g => .pointer (some ⟨g, 0, none⟩)) (does_box rfl rfl) (by decide) ?_
 intro g4 w5 hM a hA
 refine s_new (vs := [.slice none 0 0, .slice none 0 0]) (t := 25) hA hM rfl rfl rfl (fun g => .pointer (some ⟨g, 0, none⟩)) (does_alloc (z := .agg #[.slice none 0 0, .slice none 0 0]) (by kernel_rfl) rfl) (by decide) ?_
 intro g6 w7 hM a hA
 refine seq_do hA rfl rfl rfl (does_assign rfl) ?_
 intro a hA
 refine seq_end ?_
 refine hK1 _ _ ?_
 refine wp_seq_k (fun K8 hK8 => ?_)
 refine wp_seq_k (fun K9 hK9 => ?_)
 refine wp_region_lit ?_
 refine seq_do hA rfl rfl rfl (m_loadS hM EnC_isS_25 rfl 2 rfl (cs := [.slice so l.length ca, .slice si bs.length ci]) rfl rfl) ?_
 intro a hA
 refine seq_call hA rfl rfl rfl (enters_func rfl rfl (fun w => by kernel_rfl)) (sound_as (hR.below hM.bel) (hB.below hM.bel) hsd) ?_
 rintro _ w11 ⟨rfl, hb10⟩
 replace hM := hM.call hb10
 refine ⟨_, rfl, ?_⟩
 intro a hA
 refine seq_do (v := .bool false) hA rfl rfl rfl (does_un rfl un_not) ?_
 intro a hA
 refine seq_do hA rfl rfl rfl (does_move rfl) ?_
 intro a hA
 refine seq_do hA rfl rfl rfl (m_loadS hM EnC_isS_25 rfl 1 rfl (cs := [.slice so2 l2.length ca2, .slice si2 bs2.length ci2]) rfl rfl) ?_
 intro a hA
 refine seq_call hA rfl rfl rfl (enters_func rfl rfl (fun w => by kernel_rfl)) (sound_as (hR2.below hM.bel) (hB2.below hM.bel) hsd2) ?_
 rintro _ w13 ⟨rfl, hb12⟩
 replace hM := hM.call hb12
 refine ⟨_, rfl, ?_⟩
 intro a hA
 refine seq_do (v := .bool true) hA rfl rfl rfl (does_un rfl un_not) ?_
 intro a hA
 refine seq_do (v := .bool true) hA rfl rfl rfl (does_pick rfl rfl rfl rfl) ?_
 intro a hA
 refine seq_end ?_
 refine hK9 _ _ ?_
 refine wp_cond_true (hA.ev rfl) ?_
 refine wp_seq_k (fun K14 hK14 => ?_)
 refine wp_region_lit ?_
 refine seq_do (v := .agg #[.slice none 0 0, .slice none 0 0]) hA rfl rfl rfl (does_build rfl (fun w => by kernel_rfl)) ?_
 intro a hA
 refine s_store (us := [.slice none 0 0, .slice none 0 0]) (L' := (.obj g6 (.cells #[.slice none 0 0, .slice none 0 0] 25) :: .obj g4 (.cells #[.slice so2 l2.length ca2, .slice si2 bs2.length ci2] 25) :: .obj g2 (.cells #[.slice so l.length ca, .slice si bs.length ci] 25) :: [])) hA hM rfl rfl (m_store rfl rfl rfl (by kernel_rfl) hM 0 rfl rfl rfl) 0 rfl rfl rfl ?_
 intro w15 hM
 refine seq_do hA rfl rfl rfl (does_assign rfl) ?_
 intro a hA
 refine seq_end ?_
 refine hK14 _ _ ?_
 refine wp_ret ?_
 refine hret _ _ ?_
 refine ends (v := .tuple #[.agg #[.slice none 0 0, .slice none 0 0], .int .i64 2]) hA rfl (.cons (res_cellS hM EnC_isS_25 rfl 0 rfl (cs := [.slice none 0 0, .slice none 0 0]) rfl rfl) (.cons (res_tmp rfl) .nil)) rfl ?_
 exact ⟨rfl, hM.bel⟩
theorem proj_ok {w : World} {so si : Option Addr} {ca ci : Nat} {l : List ByteArray} {bs : List Bool} (hR : Rs w so l) (hB : Rl w si bs) {so2 si2 : Option Addr} {ca2 ci2 : Nat} {l2 : List ByteArray} {bs2 : List Bool} (hR2 : Rs w so2 l2) (hB2 : Rl w si2 bs2) (hs2 : ∀ s ∈ l2, s.size ≤ 281474976710656) (hsd : sndS l bs = true) (hsd2 : sndS l2 bs2 = true) : Calls Try.prog 23 #[.agg #[.slice so l.length ca, .slice si bs.length ci], .agg #[.slice so2 l2.length ca2, .slice si2 bs2.length ci2]] w fun e w' => ∃ so' ca' si' ci', e = .returned (.tuple #[.agg #[.slice so' l2.length ca', .slice si' l2.length ci'], .int .i64 0]) ∧ Mg w w' [.row 9 1 (.slice so' l2.length ca') l2.length (strC l2), .row 4 1 (.slice si' l2.length ci') l2.length (boolC (l2.map (hasS l bs)))] := by
 have hl : l.length ≤ 8796093021952 := by have := (snd_le hsd).1; omega
 have hl2 : l2.length ≤ 8796093021952 := by have := (snd_le hsd2).1; omega
 have hM : Mg w w ([]) := Mg.start w
 refine walk_of (l := [(0, .agg #[.slice so l.length ca, .slice si bs.length ci]), (1, .agg #[.slice so2 l2.length ca2, .slice si2 bs2.length ci2])]) Try.func23 rfl Try.ntmps23 rfl rfl ?_
 intro Q hret hnorm hP a hA
 refine wp_seq_k (fun K1 hK1 => ?_)
 refine wp_region_lit ?_
 refine s_new (vs := [.slice so l.length ca, .slice si bs.length ci]) (t := 25) hA hM rfl rfl rfl (fun g => .pointer (some ⟨g, 0, none⟩)) (does_box rfl rfl) (by decide) ?_
 intro g2 w3 hM a hA
 refine s_new (vs := [.slice so2 l2.length ca2, .slice si2 bs2.length ci2]) (t := 25) hA hM rfl rfl rfl (fun g => .pointer (some ⟨g, 0, none⟩)) (does_box rfl rfl) (by decide) ?_
 intro g4 w5 hM a hA
 refine s_new (vs := [.slice none 0 0, .slice none 0 0]) (t := 25) hA hM rfl rfl rfl (fun g => .pointer (some ⟨g, 0, none⟩)) (does_alloc (z := .agg #[.slice none 0 0, .slice none 0 0]) (by kernel_rfl) rfl) (by decide) ?_
 intro g6 w7 hM a hA
 refine seq_do hA rfl rfl rfl (does_assign rfl) ?_
 intro a hA
 refine seq_end ?_
 refine hK1 _ _ ?_
 refine wp_seq_k (fun K8 hK8 => ?_)
 refine wp_seq_k (fun K9 hK9 => ?_)
 refine wp_region_lit ?_
 refine seq_do hA rfl rfl rfl (m_loadS hM EnC_isS_25 rfl 2 rfl (cs := [.slice so l.length ca, .slice si bs.length ci]) rfl rfl) ?_
 intro a hA
 refine seq_call hA rfl rfl rfl (enters_func rfl rfl (fun w => by kernel_rfl)) (sound_as (hR.below hM.bel) (hB.below hM.bel) hsd) ?_
 rintro _ w11 ⟨rfl, hb10⟩
 replace hM := hM.call hb10
 refine ⟨_, rfl, ?_⟩
 intro a hA
 refine seq_do (v := .bool false) hA rfl rfl rfl (does_un rfl un_not) ?_
 intro a hA
 refine seq_do hA rfl rfl rfl (does_move rfl) ?_
 intro a hA
 refine seq_do hA rfl rfl rfl (m_loadS hM EnC_isS_25 rfl 1 rfl (cs := [.slice so2 l2.length ca2, .slice si2 bs2.length ci2]) rfl rfl) ?_
 intro a hA
 refine seq_call hA rfl rfl rfl (enters_func rfl rfl (fun w => by kernel_rfl)) (sound_as (hR2.below hM.bel) (hB2.below hM.bel) hsd2) ?_
 rintro _ w13 ⟨rfl, hb12⟩
 replace hM := hM.call hb12
 refine ⟨_, rfl, ?_⟩
 intro a hA
 refine seq_do (v := .bool false) hA rfl rfl rfl (does_un rfl un_not) ?_
 intro a hA
 refine seq_do (v := .bool false) hA rfl rfl rfl (does_pick rfl rfl rfl rfl) ?_
 intro a hA
 refine seq_end ?_
 refine hK9 _ _ ?_
 refine wp_cond_false (hA.ev rfl) ?_
 refine wp_skip ?_
 refine hK8 _ _ ?_
 refine wp_seq_k (fun K14 hK14 => ?_)
 refine wp_draw (S := fun w1 => Mg w w1 (.obj g4 (.cells #[.slice so2 l2.length ca2, .slice si2 bs2.length ci2] 25) :: .obj g2 (.cells #[.slice so l.length ca, .slice si bs.length ci] 25) :: [])) (by kernel_rfl) ?_
 replace hM := hM.drew
 refine any_tk (v := .pointer (some ⟨g4, 0, none⟩)) hA 0 rfl rfl rfl rfl hP (hM.sub (.cons _ (.cons_cons _ (.cons_cons _ (List.nil_sublist _))))) (fun w1 hM => does_field EnC_fld_25_0 rfl rfl) ?_
 intro a hA
 refine any_tk hA 1 rfl rfl rfl rfl hP (hM.sub (.cons _ (.cons_cons _ (.cons_cons _ (List.nil_sublist _))))) (fun w1 hM => m_load1 hM EnC_is1_22 rfl 0 rfl rfl) ?_
 intro a hA
 refine any_tk hA 2 rfl rfl rfl rfl hP (hM.sub (.cons _ (.cons_cons _ (.cons_cons _ (List.nil_sublist _))))) (fun w1 hM => m_loadS hM EnC_isS_25 rfl 1 rfl (cs := [.slice so l.length ca, .slice si bs.length ci]) rfl rfl) ?_
 intro a hA
 refine any_one (by kernel_rfl) (op_call hA 3 rfl rfl rfl rfl (enters_func rfl rfl (fun w => by kernel_rfl)) (membership_any) ?_)
 rintro _ w17 ⟨g15, rfl, hM16⟩
 replace hM : Mg w w17 (.obj g15 (.cells #[.slice so l.length ca, .slice si bs.length ci] 25) :: .obj g6 (.cells #[.slice none 0 0, .slice none 0 0] 25) :: .obj g4 (.cells #[.slice so2 l2.length ca2, .slice si2 bs2.length ci2] 25) :: .obj g2 (.cells #[.slice so l.length ca, .slice si bs.length ci] 25) :: []) := (hM.both hM16 (noBld_cons (by simp) (noBld_cons (by simp) (noBld_cons (by simp) (noBld_quiet quietL_nil)))) (noBld_cons (by simp) (noBld_quiet quietL_nil)))
 refine ⟨_, rfl, (hM.sub (.cons _ (.cons _ (.cons_cons _ (.cons_cons _ (List.nil_sublist _)))))), ?_⟩
 intro a hA
 refine any_one (by kernel_rfl) (op_call hA 4 rfl rfl rfl rfl (enters_func rfl rfl (fun w => by kernel_rfl)) (where_any (hR2.below hM.bel) hl2 hs2 (asks_memb (hR.below hM.bel) (hB.below hM.bel) hl (snd_le hsd).2.1 (hM.cell 0 rfl 0 rfl) (hM.cell 0 rfl 1 rfl))) ?_)
 rintro _ w23 ⟨so18, ca19, si20, ci21, rfl, hM22⟩
 replace hM : Mg w w23 (.row 9 1 (.slice so18 l2.length ca19) l2.length (strC l2) :: .row 4 1 (.slice si20 l2.length ci21) l2.length (boolC (l2.map (hasS l bs))) :: .obj g15 (.cells #[.slice so l.length ca, .slice si bs.length ci] 25) :: .obj g6 (.cells #[.slice none 0 0, .slice none 0 0] 25) :: .obj g4 (.cells #[.slice so2 l2.length ca2, .slice si2 bs2.length ci2] 25) :: .obj g2 (.cells #[.slice so l.length ca, .slice si bs.length ci] 25) :: []) := (hM.both hM22 (noBld_cons (by simp) (noBld_cons (by simp) (noBld_cons (by simp) (noBld_cons (by simp) (noBld_quiet quietL_nil))))) (noBld_cons (by simp) (noBld_cons (by simp) (noBld_quiet quietL_nil))))
 refine ⟨_, rfl, (hM.sub (.cons _ (.cons _ (.cons _ (.cons _ (.cons_cons _ (.cons_cons _ (List.nil_sublist _)))))))), ?_⟩
 intro a hA
 refine any_one (by kernel_rfl) (g_store (us := [.slice so18 l2.length ca19, .slice si20 l2.length ci21]) (L' := (.row 9 1 (.slice so18 l2.length ca19) l2.length (strC l2) :: .row 4 1 (.slice si20 l2.length ci21) l2.length (boolC (l2.map (hasS l bs))) :: .obj g15 (.cells #[.slice so l.length ca, .slice si bs.length ci] 25) :: .obj g6 (.cells #[.slice so18 l2.length ca19, .slice si20 l2.length ci21] 25) :: .obj g4 (.cells #[.slice so2 l2.length ca2, .slice si2 bs2.length ci2] 25) :: .obj g2 (.cells #[.slice so l.length ca, .slice si bs.length ci] 25) :: [])) hA hM 5 rfl rfl rfl (m_store rfl rfl rfl (by kernel_rfl) hM 3 rfl rfl rfl) 3 rfl rfl rfl ?_)
 intro w24 hM
 refine ⟨(hM.sub (.cons _ (.cons _ (.cons _ (.cons _ (.cons_cons _ (.cons_cons _ (List.nil_sublist _)))))))), ?_⟩
 refine any_tk hA 6 rfl rfl rfl rfl hP (hM.sub (.cons _ (.cons _ (.cons _ (.cons _ (.cons_cons _ (.cons_cons _ (List.nil_sublist _)))))))) (fun w1 hM => does_assign rfl) ?_
 intro a hA
 refine any_end (by kernel_rfl) ?_
 refine hK14 _ _ ?_
 refine wp_ret ?_
 refine hret _ _ ?_
 refine ends (v := .tuple #[.agg #[.slice so18 l2.length ca19, .slice si20 l2.length ci21], .int .i64 0]) hA rfl (.cons (res_cellS hM EnC_isS_25 rfl 3 rfl (cs := [.slice so18 l2.length ca19, .slice si20 l2.length ci21]) rfl rfl) (.cons (res_tmp rfl) .nil)) rfl ?_
 replace hM : Mg w w24 (.row 9 1 (.slice so18 l2.length ca19) l2.length (strC l2) :: .row 4 1 (.slice si20 l2.length ci21) l2.length (boolC (l2.map (hasS l bs))) :: []) := by
   have h9 := hM.sub (.cons_cons _ (.cons_cons _ (.cons _ (.cons _ (.cons _ (.cons _ (.refl _)))))))
   exact h9
 exact ⟨_, _, _, _, rfl, hM⟩
end Go.Proofs.Ytbdhfooeanbnlaa
