/- Walks of Write, Take and Say. -/
import Derived.Test.YtcjgjbaadmohbaaWe
namespace Go.Proofs.Ytcjgjbaadmohbaa
open Go.RowKit
set_option linter.unusedVariables false
set_option linter.unusedSimpArgs false
set_option maxRecDepth 100000
theorem Wf_is1_24 : Is1 Try.prog 24 := ⟨⟨_, Try.underlying24, rfl⟩, by kernel_rfl⟩
theorem Wf_is1_35 : Is1 Try.prog 35 := ⟨⟨_, Try.underlying35, rfl⟩, by kernel_rfl⟩
theorem Wf_fld_37_0 : FieldAt Try.prog 37 0 0 := ⟨_, _, Try.underlying37, rfl, rfl, by kernel_rfl⟩
theorem Wf_fld_37_1 : FieldAt Try.prog 37 1 1 := ⟨_, _, Try.underlying37, rfl, rfl, by kernel_rfl⟩
theorem Wf_fld_37_2 : FieldAt Try.prog 37 2 2 := ⟨_, _, Try.underlying37, rfl, rfl, by kernel_rfl⟩
theorem Wf_fld_88_1 : FieldAt Try.prog 88 1 1 := ⟨_, _, Try.underlying88, rfl, rfl, by kernel_rfl⟩
theorem Wf_isS_37 : IsS Try.prog 37 3 := ⟨⟨_, Try.underlying37⟩, by kernel_rfl⟩
open Go.Lib
theorem does_fromq {P : Program} {w : World} {l : List (Nat × Value)} {dst : Option Tmp} {ty : TypeId} {pos : String} {after : Array Edge} {guard : Option (Nat × Bool)} {t e : TypeId} (ht : P.underlying t = some (.slice e)) (he : (P.info? e).map (·.size) = some 1) {x y : Operand} {so : Option Addr} {n cap lo q : Nat} {z : Int} (hx : ev l x = some (.slice so n cap)) (hy : ev l y = some (.int .i64 z)) (hz : z = ((lo : Nat) : Int)) (hp : lo ≤ n) (hq : n - lo = q) : Does P l ⟨dst, .slice t x (some y) none none, ty, pos, after, guard⟩ w (.slice (dropA so cap lo) q (cap - lo)) w := by
  subst hq
  exact does_from ht he hx hy hz hp
theorem min_run {P : Program} {ty : TypeId} {ts : Array TypeId} {a b : Int} : ∀ w cs, (builtin .min ts ty cs #[.int .i64 a, .int .i64 b]).run P w = .ok (.value (.int .i64 (if b < a then b else a))) w := fun w cs => by
  simp [builtin, Builtin.min_, Builtin.min2]
theorem put_data {gs : List Gf} {fs : List Fl} {i : Nat} {nm : ByteArray} {v : Value} {d d0 : List UInt8} (hr : readF gs = fs) (hf : fs[i]? = some (nm, d0)) : over (cellsF gs) (i * 2 + 1) [v] = cellsF (gs.take i ++ (nm, v, d) :: gs.drop (i + 1)) := by
  subst hr
  unfold readF at hf
  rw [List.getElem?_map, Option.map_eq_some_iff] at hf
  obtain ⟨q, hq, he⟩ := hf
  have hn : q.1 = nm := congrArg Prod.fst he
  have hi := (List.getElem?_eq_some_iff.1 hq).1
  have hc := cellsF_at gs i q hq
  rw [over_eq (by rw [cellsF_len]; simp only [List.length_cons, List.length_nil]; omega), List.take_add_one, hc.1, cellsF_take, hn]
  rw [show i * 2 + 1 + [v].length = (i + 1) * 2 from by simp only [List.length_cons, List.length_nil]; omega, cellsF_drop, cellsF_append, cellsF_cons]
  simp
theorem wr_eq {at_ bh : Nat} {d fd : List UInt8} (h : bh = at_ + d.length ∨ (bh = fd.length ∧ fd.length ≤ at_ + d.length)) : fd.take at_ ++ d ++ fd.drop bh = wrD at_ d fd := by
  unfold wrD
  rcases h with h | ⟨h1, h2⟩
  · rw [h]
  · rw [List.drop_eq_nil_of_le (by omega), List.drop_eq_nil_of_le (by omega)]
def RetT (w : World) (e : Ending) (w' : World) (R : List UInt8 × WS) : Prop := ∃ v V L, e = .returned (.tuple #[v, V, .int .i64 R.2.1]) ∧ Mg w w' L ∧ noBld L ∧ Ck.row BY 1 v R.1.length (Lib.byteCells R.1) ∈ L ∧ RwD L V R.2.2.1 R.2.2.2.1 R.2.2.2.2
theorem zeroT {w w' : World} {L : List Ck} {x : Int} (h : Mg w w' L) : RetT w (.returned (.tuple #[.slice none 0 0, .agg #[.slice none 0 0, .slice none 0 0, .slice none 0 0], .int .i64 x])) w' ([], x, [], [], []) := by
  have h1 := nil_row h
  have h2 : Mg w w' [.row 88 2 (.slice none 0 0) 0 [], .row BY 1 (.slice none 0 0) 0 []] := h1.add (Below.refl _ _) (c := .row 88 2 (.slice none 0 0) 0 []) ⟨rfl, .inl ⟨rfl, rfl⟩⟩ (fun k e => by cases e) (.inr (.inl ⟨_, _, _, _, _, rfl, .inl (by decide)⟩))
  refine ⟨_, _, _, rfl, h2, noBld_cons (by simp) (noBld_cons (by simp) (noBld_quiet quietL_nil)), mem_at (k := 1) rfl, .slice none 0 0, .slice none 0 0, .slice none 0 0, [], rfl, mem_at (k := 0) rfl, mem_at (k := 1) rfl, mem_at (k := 1) rfl, ?_, rfl⟩
  intro q hq
  cases hq
theorem gs_same {gs : List Gf} {D L : List Ck} (hG : GsD gs D) (hs : ∀ c ∈ D, c ∈ L) : GsD gs L := fun q hq => hs _ (hG q hq)
theorem Rb.take {w : World} {so : Option Addr} {l : List UInt8} (h : Rb w so l) (n : Nat) : Rb w so (l.take n) := by
  refine ⟨fun hne => ?_⟩
  obtain ⟨b, off, h1, h2, h3⟩ := h.pos (fun k => hne (by rw [k]; simp))
  refine ⟨b, off, h1, h2, fun j hj => ?_⟩
  rw [List.length_take] at hj
  rw [h3 j (by omega), List.getD_eq_getElem?_getD, List.getD_eq_getElem?_getD, List.getElem?_take_of_lt (by omega)]
theorem write_any {w : World} {sF sI sO : Option Addr} {cF_ cI cO : Nat} {fs : List Fl} {il ol : List UInt8} {nm : ByteArray} {z : Int} {so : Option Addr} {cd : Nat} {d : List UInt8} (hF : Rf w sF fs) (hI : Rb w sI il) (hO : Rb w sO ol) (hn : fs.length ≤ 4398046511104) (hb : Rb w so d) (hbl : d.length ≤ 140737488351232) : Calls Try.prog 19 #[.agg #[.slice sF fs.length cF_, .slice sI il.length cI, .slice sO ol.length cO], .string nm, .int .i64 z, .slice so d.length cd] w fun e w' => RetW w e w' (wrR nm z d fs il ol) := by
 have hM : Mg w w ([]) := Mg.start w
 refine walk_of (l := [(0, .agg #[.slice sF fs.length cF_, .slice sI il.length cI, .slice sO ol.length cO]), (1, .string nm), (2, .int .i64 z), (3, .slice so d.length cd)]) Try.func19 rfl Try.ntmps19 rfl rfl ?_
 intro Q hret hnorm hP a hA
 refine wp_seq_k (fun K1 hK1 => ?_)
 refine wp_region_lit ?_
 refine s_new (vs := [.slice sF fs.length cF_, .slice sI il.length cI, .slice sO ol.length cO]) (t := 37) hA hM rfl rfl rfl (fun g => .pointer (some ⟨g, 0, none⟩)) (does_box rfl rfl) (by decide) ?_
 intro g2 w3 hM a hA
 refine s_new (vs := [.slice none 0 0, .slice none 0 0, .slice none 0 0]) (t := 37) hA hM rfl rfl rfl (fun g => .pointer (some ⟨g, 0, none⟩)) (does_alloc (z := .agg #[.slice none 0 0, .slice none 0 0, .slice none 0 0]) (by kernel_rfl) rfl) (by decide) ?_
 intro g4 w5 hM a hA
 refine seq_do hA rfl rfl rfl (does_assign rfl) ?_
 intro a hA
 refine seq_end ?_
 refine hK1 _ _ ?_
 refine wp_seq_k (fun K6 hK6 => ?_)
 refine wp_region_lit ?_
 refine seq_do hA rfl rfl rfl (m_loadS hM Wf_isS_37 rfl 1 rfl (cs := [.slice sF fs.length cF_, .slice sI il.length cI, .slice sO ol.length cO]) rfl rfl) ?_
 intro a hA
 refine seq_do hA rfl rfl rfl (does_move rfl) ?_
 intro a hA
 rcases Bool.eq_false_or_eq_true (soundS fs il ol) with hb7 | hb7
 · rcases Bool.eq_false_or_eq_true (plB nm fs) with hb8 | hb8
   · refine seq_call hA rfl rfl rfl (enters_func rfl rfl (fun w => by kernel_rfl)) ((show Calls Try.prog 60 #[.agg #[.slice sF fs.length cF_, .slice sI il.length cI, .slice sO ol.length cO], .string nm] _ (fun e w' => e = .returned (.tuple #[.int .i64 (((plI nm fs : Nat) : Int)), .int .i64 0]) ∧ _) from (by have h8 := found_any (w := w5) (cF_ := cF_) (cI := cI) (cO := cO) (sI := sI) (sO := sO) (il := il) (ol := ol) (nm := nm) (hF.below hM.bel) hn; unfold fndI fndE at h8; rw [hb7, hb8] at h8; exact h8))) ?_
     rintro _ w10 ⟨rfl, hb9⟩
     replace hM := hM.call hb9
     refine ⟨_, rfl, ?_⟩
     intro a hA
     refine seq_do hA rfl rfl rfl (does_move rfl) ?_
     intro a hA
     refine seq_do (v := .int .i64 (((plI nm fs : Nat) : Int))) hA rfl rfl rfl (does_extract (vs := [.int .i64 (((plI nm fs : Nat) : Int)), .int .i64 0]) rfl rfl) ?_
     intro a hA
     refine seq_do (v := .int .i64 0) hA rfl rfl rfl (does_extract (vs := [.int .i64 (((plI nm fs : Nat) : Int)), .int .i64 0]) rfl rfl) ?_
     intro a hA
     refine seq_do hA rfl rfl rfl (does_assign rfl) ?_
     intro a hA
     refine seq_do hA rfl rfl rfl (does_assign rfl) ?_
     intro a hA
     refine seq_end ?_
     refine hK6 _ _ ?_
     refine wp_seq_k (fun K11 hK11 => ?_)
     refine wp_seq_k (fun K12 hK12 => ?_)
     have hsp := sound_parts hb7
     obtain ⟨hpl, hpt, hpf⟩ := place_facts (n := nm) hsp.2.2.2
     have hlk := look_there (nm := nm) hsp.2.2.2
     obtain ⟨d0, hd0, hlo, hpu, hde⟩ := hpt hb8
     have hpi : plI nm fs < fs.length := (List.getElem?_eq_some_iff.1 hd0).1
     refine wp_region_lit ?_
     refine seq_do hA rfl rfl rfl (does_move rfl) ?_
     intro a hA
     refine seq_do (v := .bool false) hA rfl rfl rfl (does_bin rfl rfl (fun w => by kernel_rfl)) ?_
     intro a hA
     refine seq_end ?_
     refine hK12 _ _ ?_
     refine wp_cond_false (hA.ev rfl) ?_
     refine wp_skip ?_
     refine hK11 _ _ ?_
     refine wp_seq_k (fun K13 hK13 => ?_)
     refine wp_region_lit ?_
     refine seq_do (v := .pointer (some ⟨g2, 0, none⟩)) hA rfl rfl rfl (does_field Wf_fld_37_0 rfl rfl) ?_
     intro a hA
     refine seq_do hA rfl rfl rfl (m_load1 hM Wf_is1_35 rfl 1 rfl rfl) ?_
     intro a hA
     refine seq_do hA rfl rfl rfl (does_move rfl) ?_
     intro a hA
     obtain ⟨fn14, fd15, hf20⟩ := file_get (fs := fs) (i := plI nm fs) (by omega)
     obtain ⟨bf16, of17, sj18, cj19, hf21, hf22, hf23, hf24, hf25, hf26⟩ := hF.pos _ _ hf20
     refine seq_do (v := .pointer (some ⟨bf16, of17 + (plI nm fs) * 2, none⟩)) hA rfl rfl rfl (does_indexA Try.underlying35 (by kernel_rfl) rfl rfl rfl hf21 (show plI nm fs < fs.length by omega)) ?_
     intro a hA
     refine seq_do (v := .pointer (some ⟨bf16, of17 + (plI nm fs) * 2 + 1, none⟩)) hA rfl rfl rfl (does_field Wf_fld_88_1 rfl rfl) ?_
     intro a hA
     refine seq_do (v := .slice sj18 fd15.length cj19) hA rfl rfl rfl (m_loadR hM hf22 hf24 Wf_is1_24 rfl) ?_
     intro a hA
     refine seq_do hA rfl rfl rfl (does_assign rfl) ?_
     intro a hA
     refine seq_end ?_
     refine hK13 _ _ ?_
     refine wp_seq_k (fun K27 hK27 => ?_)
     refine wp_block ?_
     refine wp_seq_k (fun K28 hK28 => ?_)
     have hsf9 := sound_file hb7 hf20
     have hcj9 : fd15.length ≤ cj19 := hf26
     refine wp_region_lit ?_
     refine seq_do hA rfl rfl rfl (does_move rfl) ?_
     intro a hA
     rcases Bool.eq_false_or_eq_true (decide (z < 0)) with hb29 | hb29
     · have hb29' := of_decide_eq_true hb29
       refine seq_do (v := .bool true) hA rfl rfl rfl (does_bin rfl rfl (fun w => (bin_lss w).trans (by rw [hb29]))) ?_
       intro a hA
       refine seq_do hA rfl rfl rfl (does_move rfl) ?_
       intro a hA
       refine seq_skip hA rfl rfl rfl ?_
       intro a hA
       refine seq_skip hA rfl rfl rfl ?_
       intro a hA
       refine seq_skip hA rfl rfl rfl ?_
       intro a hA
       refine seq_skip hA rfl rfl rfl ?_
       intro a hA
       refine seq_do (v := .bool true) hA rfl rfl rfl (does_pick rfl rfl rfl rfl) ?_
       intro a hA
       refine seq_do hA rfl rfl rfl (does_assign rfl) ?_
       intro a hA
       refine seq_end ?_
       refine hK28 _ _ ?_
       refine wp_cond_true (hA.ev rfl) ?_
       refine wp_seq_k (fun K30 hK30 => ?_)
       refine wp_region_lit ?_
       refine seq_do (v := .agg #[.slice none 0 0, .slice none 0 0, .slice none 0 0]) hA rfl rfl rfl (does_build rfl (fun w => by kernel_rfl)) ?_
       intro a hA
       refine s_store (us := [.slice none 0 0, .slice none 0 0, .slice none 0 0]) (L' := (.obj g4 (.cells #[.slice none 0 0, .slice none 0 0, .slice none 0 0] 37) :: .obj g2 (.cells #[.slice sF fs.length cF_, .slice sI il.length cI, .slice sO ol.length cO] 37) :: [])) hA hM rfl rfl (m_store rfl rfl rfl (by kernel_rfl) hM 0 rfl rfl rfl) 0 rfl rfl rfl ?_
       intro w31 hM
       refine seq_do hA rfl rfl rfl (does_assign rfl) ?_
       intro a hA
       refine seq_end ?_
       refine hK30 _ _ ?_
       refine wp_ret ?_
       refine hret _ _ ?_
       refine ends (v := .tuple #[.agg #[.slice none 0 0, .slice none 0 0, .slice none 0 0], .int .i64 1]) hA rfl (.cons (res_cellS hM Wf_isS_37 rfl 0 rfl (cs := [.slice none 0 0, .slice none 0 0, .slice none 0 0]) rfl rfl) (.cons (res_tmp rfl) .nil)) rfl ?_
       have hq9 : fd15 = d0 := congrArg Prod.snd (Option.some.inj (hf20.symm.trans hd0))
       subst hq9
       rw [show wrR nm z d fs il ol = (1, [], [], []) from by unfold wrR; rw [if_neg (by rw [hb7]; decide), hlo]; simp only; rw [if_pos (by omega)]]
       exact ret_zero hM
     · have hb29' := of_decide_eq_false hb29
       refine seq_do (v := .bool false) hA rfl rfl rfl (does_bin rfl rfl (fun w => (bin_lss w).trans (by rw [hb29]))) ?_
       intro a hA
       refine seq_do hA rfl rfl rfl (does_move rfl) ?_
       intro a hA
       refine seq_do hA rfl rfl rfl (does_move rfl) ?_
       intro a hA
       refine seq_do hA rfl rfl rfl (does_move rfl) ?_
       intro a hA
       refine seq_do (v := .int .i64 (((fd15.length : Nat) : Int))) hA rfl rfl rfl (does_len Try.underlying24 rfl) ?_
       intro a hA
       rcases Bool.eq_false_or_eq_true (decide (((fd15.length : Nat) : Int) < z)) with hb32 | hb32
       · have hb32' := of_decide_eq_true hb32
         refine seq_do (v := .bool true) hA rfl rfl rfl (does_bin rfl rfl (fun w => (bin_gtr w).trans (by rw [hb32]))) ?_
         intro a hA
         refine seq_do (v := .bool true) hA rfl rfl rfl (does_pick rfl rfl rfl rfl) ?_
         intro a hA
         refine seq_do hA rfl rfl rfl (does_assign rfl) ?_
         intro a hA
         refine seq_end ?_
         refine hK28 _ _ ?_
         refine wp_cond_true (hA.ev rfl) ?_
         refine wp_seq_k (fun K33 hK33 => ?_)
         refine wp_region_lit ?_
         refine seq_do (v := .agg #[.slice none 0 0, .slice none 0 0, .slice none 0 0]) hA rfl rfl rfl (does_build rfl (fun w => by kernel_rfl)) ?_
         intro a hA
         refine s_store (us := [.slice none 0 0, .slice none 0 0, .slice none 0 0]) (L' := (.obj g4 (.cells #[.slice none 0 0, .slice none 0 0, .slice none 0 0] 37) :: .obj g2 (.cells #[.slice sF fs.length cF_, .slice sI il.length cI, .slice sO ol.length cO] 37) :: [])) hA hM rfl rfl (m_store rfl rfl rfl (by kernel_rfl) hM 0 rfl rfl rfl) 0 rfl rfl rfl ?_
         intro w34 hM
         refine seq_do hA rfl rfl rfl (does_assign rfl) ?_
         intro a hA
         refine seq_end ?_
         refine hK33 _ _ ?_
         refine wp_ret ?_
         refine hret _ _ ?_
         refine ends (v := .tuple #[.agg #[.slice none 0 0, .slice none 0 0, .slice none 0 0], .int .i64 1]) hA rfl (.cons (res_cellS hM Wf_isS_37 rfl 0 rfl (cs := [.slice none 0 0, .slice none 0 0, .slice none 0 0]) rfl rfl) (.cons (res_tmp rfl) .nil)) rfl ?_
         have hq9 : fd15 = d0 := congrArg Prod.snd (Option.some.inj (hf20.symm.trans hd0))
         subst hq9
         rw [show wrR nm z d fs il ol = (1, [], [], []) from by unfold wrR; rw [if_neg (by rw [hb7]; decide), hlo]; simp only; rw [if_pos (by omega)]]
         exact ret_zero hM
       · have hb32' := of_decide_eq_false hb32
         refine seq_do (v := .bool false) hA rfl rfl rfl (does_bin rfl rfl (fun w => (bin_gtr w).trans (by rw [hb32]))) ?_
         intro a hA
         refine seq_do (v := .bool false) hA rfl rfl rfl (does_pick rfl rfl rfl rfl) ?_
         intro a hA
         refine seq_do hA rfl rfl rfl (does_assign rfl) ?_
         intro a hA
         refine seq_end ?_
         refine hK28 _ _ ?_
         refine wp_cond_false (hA.ev rfl) ?_
         refine wp_seq_k (fun K35 hK35 => ?_)
         refine wp_region_lit ?_
         refine seq_do hA rfl rfl rfl (does_move rfl) ?_
         intro a hA
         refine seq_do (v := .int .i64 (((d.length : Nat) : Int))) hA rfl rfl rfl (does_len Try.underlying24 rfl) ?_
         intro a hA
         refine seq_do hA rfl rfl rfl (does_move rfl) ?_
         intro a hA
         refine seq_do (v := .int .i64 (65536 - z)) hA rfl rfl rfl (does_bin rfl rfl (ar_sub (in_i64 (by omega) (by omega)))) ?_
         intro a hA
         rcases Bool.eq_false_or_eq_true (decide (65536 - z < ((d.length : Nat) : Int))) with hb36 | hb36
         · have hb36' := of_decide_eq_true hb36
           refine seq_do (v := .bool true) hA rfl rfl rfl (does_bin rfl rfl (fun w => (bin_gtr w).trans (by rw [hb36]))) ?_
           intro a hA
           refine seq_do hA rfl rfl rfl (does_assign rfl) ?_
           intro a hA
           refine seq_end ?_
           refine hK35 _ _ ?_
           refine wp_cond_true (hA.ev rfl) ?_
           refine wp_seq_k (fun K37 hK37 => ?_)
           refine wp_region_lit ?_
           refine seq_do (v := .agg #[.slice none 0 0, .slice none 0 0, .slice none 0 0]) hA rfl rfl rfl (does_build rfl (fun w => by kernel_rfl)) ?_
           intro a hA
           refine s_store (us := [.slice none 0 0, .slice none 0 0, .slice none 0 0]) (L' := (.obj g4 (.cells #[.slice none 0 0, .slice none 0 0, .slice none 0 0] 37) :: .obj g2 (.cells #[.slice sF fs.length cF_, .slice sI il.length cI, .slice sO ol.length cO] 37) :: [])) hA hM rfl rfl (m_store rfl rfl rfl (by kernel_rfl) hM 0 rfl rfl rfl) 0 rfl rfl rfl ?_
           intro w38 hM
           refine seq_do hA rfl rfl rfl (does_assign rfl) ?_
           intro a hA
           refine seq_end ?_
           refine hK37 _ _ ?_
           refine wp_ret ?_
           refine hret _ _ ?_
           refine ends (v := .tuple #[.agg #[.slice none 0 0, .slice none 0 0, .slice none 0 0], .int .i64 4]) hA rfl (.cons (res_cellS hM Wf_isS_37 rfl 0 rfl (cs := [.slice none 0 0, .slice none 0 0, .slice none 0 0]) rfl rfl) (.cons (res_tmp rfl) .nil)) rfl ?_
           have hq9 : fd15 = d0 := congrArg Prod.snd (Option.some.inj (hf20.symm.trans hd0))
           subst hq9
           rw [show wrR nm z d fs il ol = (4, [], [], []) from by unfold wrR; rw [if_neg (by rw [hb7]; decide), hlo]; simp only; rw [if_neg (by omega), if_pos (by omega)]]
           exact ret_zero hM
         · have hb36' := of_decide_eq_false hb36
           refine seq_do (v := .bool false) hA rfl rfl rfl (does_bin rfl rfl (fun w => (bin_gtr w).trans (by rw [hb36]))) ?_
           intro a hA
           refine seq_do hA rfl rfl rfl (does_assign rfl) ?_
           intro a hA
           refine seq_end ?_
           refine hK35 _ _ ?_
           refine wp_cond_false (hA.ev rfl) ?_
           refine wp_skip ?_
           refine hK27 _ _ ?_
           refine wp_seq_k (fun K39 hK39 => ?_)
           refine wp_region_lit ?_
           refine seq_do hA rfl rfl rfl (does_move rfl) ?_
           intro a hA
           refine seq_do hA rfl rfl rfl (does_move rfl) ?_
           intro a hA
           refine seq_do (v := .int .i64 (((d.length : Nat) : Int))) hA rfl rfl rfl (does_len Try.underlying24 rfl) ?_
           intro a hA
           obtain ⟨an, han⟩ : ∃ an : Nat, z = ((an : Nat) : Int) := ⟨z.toNat, by omega⟩
           have hzn : z.toNat = an := by omega
           refine seq_do (v := .int .i64 (((an + d.length : Nat) : Int))) hA rfl rfl rfl (does_bin rfl rfl (ar_add ((in_i64 (by omega) (by omega)).trans (by omega)))) ?_
           intro a hA
           refine seq_do hA rfl rfl rfl (does_move rfl) ?_
           intro a hA
           refine seq_do (v := .int .i64 (((fd15.length : Nat) : Int))) hA rfl rfl rfl (does_len Try.underlying24 rfl) ?_
           intro a hA
           obtain ⟨bh, hbh⟩ : ∃ bh : Nat, ((bh : Nat) : Int) = if ((fd15.length : Nat) : Int) < ((an + d.length : Nat) : Int) then ((fd15.length : Nat) : Int) else ((an + d.length : Nat) : Int) := by
             split
             · exact ⟨_, rfl⟩
             · exact ⟨_, rfl⟩
           have hbh2 : bh = an + d.length ∨ (bh = fd15.length ∧ fd15.length ≤ an + d.length) := by split at hbh <;> omega
           have hbh3 : bh ≤ fd15.length := by split at hbh <;> omega
           refine seq_do (v := .int .i64 (((bh : Nat) : Int))) hA rfl rfl rfl (does_builtin rfl (fun w cs => (min_run w cs).trans (by rw [hbh]))) ?_
           intro a hA
           refine seq_do hA rfl rfl rfl (does_assign rfl) ?_
           intro a hA
           refine seq_end ?_
           refine hK39 _ _ ?_
           refine wp_seq_k (fun K40 hK40 => ?_)
           refine wp_region_lit ?_
           refine seq_do hA rfl rfl rfl (m_loadS hM Wf_isS_37 rfl 1 rfl (cs := [.slice sF fs.length cF_, .slice sI il.length cI, .slice sO ol.length cO]) rfl rfl) ?_
           intro a hA
           refine seq_call hA rfl rfl rfl (enters_func rfl rfl (fun w => by kernel_rfl)) (copied_any (cF_ := cF_) (cI := cI) (cO := cO) (hF.below hM.bel) (hI.below hM.bel) (hO.below hM.bel) hb7) ?_
           rintro _ w52 ⟨g41, vI42, vO43, rfl, hOw44⟩
           obtain ⟨gs, D, hM47, hGD, hgr, hnD⟩ := hOw44
           obtain ⟨sI48, cI49, rfl⟩ := owns_sliceE (hM47.has 1 rfl)
           obtain ⟨sO50, cO51, rfl⟩ := owns_sliceE (hM47.has 2 rfl)
           have hgl : gs.length = fs.length := by rw [← hgr, readF_len]
           replace hM : Mg w w52 (.row 88 2 (.slice (some ⟨g41, 0, none⟩) fs.length fs.length) fs.length ((cellsF gs)) :: .row BY 1 (.slice sI48 il.length cI49) il.length ((Lib.byteCells il)) :: .row BY 1 (.slice sO50 ol.length cO51) ol.length ((Lib.byteCells ol)) :: .obj g4 (.cells #[.slice none 0 0, .slice none 0 0, .slice none 0 0] 37) :: .obj g2 (.cells #[.slice sF fs.length cF_, .slice sI il.length cI, .slice sO ol.length cO] 37) :: D) := ((hM.both hM47 (noBld_cons (by simp) (noBld_cons (by simp) (noBld_quiet quietL_nil))) (noBld_cons (by simp) (noBld_cons (by simp) (noBld_cons (by simp) hnD)))).perm (perm_own _ _ _ _ _))
           refine ⟨_, rfl, ?_⟩
           intro a hA
           refine s_new (vs := [.slice none 0 0, .slice none 0 0, .slice none 0 0]) (t := 37) hA hM rfl rfl rfl (fun g => .pointer (some ⟨g, 0, none⟩)) (does_alloc (z := .agg #[.slice none 0 0, .slice none 0 0, .slice none 0 0]) (by kernel_rfl) rfl) (by decide) ?_
           intro g53 w54 hM a hA
           refine s_store (us := [.slice (some ⟨g41, 0, none⟩) fs.length fs.length, .slice sI48 il.length cI49, .slice sO50 ol.length cO51]) (L' := (.obj g53 (.cells #[.slice (some ⟨g41, 0, none⟩) fs.length fs.length, .slice sI48 il.length cI49, .slice sO50 ol.length cO51] 37) :: .row 88 2 (.slice (some ⟨g41, 0, none⟩) fs.length fs.length) fs.length ((cellsF gs)) :: .row BY 1 (.slice sI48 il.length cI49) il.length ((Lib.byteCells il)) :: .row BY 1 (.slice sO50 ol.length cO51) ol.length ((Lib.byteCells ol)) :: .obj g4 (.cells #[.slice none 0 0, .slice none 0 0, .slice none 0 0] 37) :: .obj g2 (.cells #[.slice sF fs.length cF_, .slice sI il.length cI, .slice sO ol.length cO] 37) :: D)) hA hM rfl rfl (m_store rfl rfl rfl (by kernel_rfl) hM 0 rfl rfl rfl) 0 rfl rfl rfl ?_
           intro w55 hM
           refine seq_end ?_
           refine hK40 _ _ ?_
           refine wp_seq_k (fun K56 hK56 => ?_)
           refine wp_draw (S := fun w1 => Mg w w1 (.obj g53 (.cells #[.slice (some ⟨g41, 0, none⟩) fs.length fs.length, .slice sI48 il.length cI49, .slice sO50 ol.length cO51] 37) :: [])) (by kernel_rfl) ?_
           replace hM := hM.drew
           refine any_tk (v := .pointer (some ⟨g53, 0, none⟩)) hA 0 rfl rfl rfl rfl hP (hM.sub (.cons_cons _ (.cons _ (.cons _ (.cons _ (.cons _ (.cons _ (List.nil_sublist _)))))))) (fun w1 hM => does_field Wf_fld_37_0 rfl rfl) ?_
           intro a hA
           refine any_tk hA 1 rfl rfl rfl rfl hP (hM.sub (.cons_cons _ (.cons _ (.cons _ (.cons _ (.cons _ (.cons _ (List.nil_sublist _)))))))) (fun w1 hM => m_load1 hM Wf_is1_35 rfl 0 rfl rfl) ?_
           intro a hA
           refine any_tk hA 2 rfl rfl rfl rfl hP (hM.sub (.cons_cons _ (.cons _ (.cons _ (.cons _ (.cons _ (.cons _ (List.nil_sublist _)))))))) (fun w1 hM => does_move rfl) ?_
           intro a hA
           refine any_tk hA 3 rfl rfl rfl rfl hP (hM.sub (.cons_cons _ (.cons _ (.cons _ (.cons _ (.cons _ (.cons _ (List.nil_sublist _)))))))) (fun w1 hM => does_move rfl) ?_
           intro a hA
           refine any_tk hA 4 rfl rfl rfl rfl hP (hM.sub (.cons_cons _ (.cons _ (.cons _ (.cons _ (.cons _ (.cons _ (List.nil_sublist _)))))))) (fun w1 hM => does_move rfl) ?_
           intro a hA
           refine any_tk (v := .slice sj18 ((fd15.take an).length) cj19) hA 5 rfl rfl rfl rfl hP (hM.sub (.cons_cons _ (.cons _ (.cons _ (.cons _ (.cons _ (.cons _ (List.nil_sublist _)))))))) (fun w1 hM => does_upto (sz := 1) (hi := (fd15.take an).length) Try.underlying24 (by kernel_rfl) rfl rfl (by rw [List.length_take]; omega) (by rw [List.length_take]; omega)) ?_
           intro a hA
           refine any_tk hA 6 rfl rfl rfl rfl hP (hM.sub (.cons_cons _ (.cons _ (.cons _ (.cons _ (.cons _ (.cons _ (List.nil_sublist _)))))))) (fun w1 hM => does_move rfl) ?_
           intro a hA
           refine any_tk hA 7 rfl rfl rfl rfl hP (hM.sub (.cons_cons _ (.cons _ (.cons _ (.cons _ (.cons _ (.cons _ (List.nil_sublist _)))))))) (fun w1 hM => does_move rfl) ?_
           intro a hA
           refine any_tk hA 8 rfl rfl rfl rfl hP (hM.sub (.cons_cons _ (.cons _ (.cons _ (.cons _ (.cons _ (.cons _ (List.nil_sublist _)))))))) (fun w1 hM => does_move rfl) ?_
           intro a hA
           refine any_tk (v := .slice ((dropA sj18 cj19 bh)) ((fd15.drop bh).length) ((cj19 - bh))) hA 9 rfl rfl rfl rfl hP (hM.sub (.cons_cons _ (.cons _ (.cons _ (.cons _ (.cons _ (.cons _ (List.nil_sublist _)))))))) (fun w1 hM => does_fromq Try.underlying24 (by kernel_rfl) rfl rfl rfl (by omega) (List.length_drop).symm) ?_
           intro a hA
           refine any_one (by kernel_rfl) (g_lit (e := 24) (sz := 1) (m := 3) (vs := [.slice sj18 ((fd15.take an).length) cj19, .slice so d.length cd, .slice ((dropA sj18 cj19 bh)) ((fd15.drop bh).length) ((cj19 - bh))]) hA hM 10 rfl rfl rfl rfl (does_buildSlice rfl (by kernel_rfl)) rfl rfl (.inl (by decide)) ?_)
           intro g57 w58 hM
           refine ⟨(hM.sub (.cons _ (.cons_cons _ (.cons _ (.cons _ (.cons _ (.cons _ (.cons _ (List.nil_sublist _))))))))), ?_⟩
           intro a hA
           refine any_one (by kernel_rfl) (op_call hA 11 rfl rfl rfl rfl (enters_func rfl rfl (fun w => by kernel_rfl)) (concat3_any (noBld_cons (by simp) (noBld_cons (by simp) (noBld_cons (by simp) (noBld_cons (by simp) (noBld_cons (by simp) (noBld_cons (by simp) hnD)))))) (show Rb w sj18 (fd15.take an) from hf25.take an) hb (show Rb w (dropA sj18 cj19 bh) (fd15.drop bh) from hf25.drop cj19 bh hf26) (by rw [List.length_take, List.length_drop]; omega) hM) ?_)
           rintro _ w63 ⟨v59, rfl, hM60⟩
           obtain ⟨so61, ca62, rfl⟩ := owns_sliceE (hM60.has 0 rfl)
           replace hM : Mg w w63 (.row BY 1 (.slice so61 ((fd15.take an ++ d ++ fd15.drop bh).length) ca62) ((fd15.take an ++ d ++ fd15.drop bh).length) ((Lib.byteCells (fd15.take an ++ d ++ fd15.drop bh))) :: .obj g53 (.cells #[.slice (some ⟨g41, 0, none⟩) fs.length fs.length, .slice sI48 il.length cI49, .slice sO50 ol.length cO51] 37) :: .row 88 2 (.slice (some ⟨g41, 0, none⟩) fs.length fs.length) fs.length ((cellsF gs)) :: .row BY 1 (.slice sI48 il.length cI49) il.length ((Lib.byteCells il)) :: .row BY 1 (.slice sO50 ol.length cO51) ol.length ((Lib.byteCells ol)) :: .obj g4 (.cells #[.slice none 0 0, .slice none 0 0, .slice none 0 0] 37) :: .obj g2 (.cells #[.slice sF fs.length cF_, .slice sI il.length cI, .slice sO ol.length cO] 37) :: D) := hM60
           refine ⟨_, rfl, (hM.sub (.cons _ (.cons_cons _ (.cons _ (.cons _ (.cons _ (.cons _ (.cons _ (List.nil_sublist _))))))))), ?_⟩
           intro a hA
           refine any_tk (v := .pointer (some ⟨g41, (plI nm fs) * 2, none⟩)) hA 12 rfl rfl rfl rfl hP (hM.sub (.cons _ (.cons_cons _ (.cons _ (.cons _ (.cons _ (.cons _ (.cons _ (List.nil_sublist _))))))))) (fun w1 hM => does_indexX Try.underlying35 (by kernel_rfl) rfl rfl rfl rfl (show plI nm fs < fs.length by omega)) ?_
           intro a hA
           refine any_tk (v := .pointer (some ⟨g41, (plI nm fs) * 2 + 1, none⟩)) hA 13 rfl rfl rfl rfl hP (hM.sub (.cons _ (.cons_cons _ (.cons _ (.cons _ (.cons _ (.cons _ (.cons _ (List.nil_sublist _))))))))) (fun w1 hM => does_field Wf_fld_88_1 rfl rfl) ?_
           intro a hA
           refine any_one (by kernel_rfl) (g_storeE (cs := [.slice so61 ((fd15.take an ++ d ++ fd15.drop bh).length) ca62]) (L' := (.row BY 1 (.slice so61 ((fd15.take an ++ d ++ fd15.drop bh).length) ca62) ((fd15.take an ++ d ++ fd15.drop bh).length) ((Lib.byteCells (fd15.take an ++ d ++ fd15.drop bh))) :: .obj g53 (.cells #[.slice (some ⟨g41, 0, none⟩) fs.length fs.length, .slice sI48 il.length cI49, .slice sO50 ol.length cO51] 37) :: .row 88 2 (.slice (some ⟨g41, 0, none⟩) fs.length fs.length) fs.length ((over (cellsF gs) ((plI nm fs) * 2 + 1) [.slice so61 ((fd15.take an ++ d ++ fd15.drop bh).length) ca62])) :: .row BY 1 (.slice sI48 il.length cI49) il.length ((Lib.byteCells il)) :: .row BY 1 (.slice sO50 ol.length cO51) ol.length ((Lib.byteCells ol)) :: .obj g4 (.cells #[.slice none 0 0, .slice none 0 0, .slice none 0 0] 37) :: .obj g2 (.cells #[.slice sF fs.length cF_, .slice sI il.length cI, .slice sO ol.length cO] 37) :: D)) (us := []) hA hM 14 rfl rfl rfl (m_storeE rfl rfl rfl (by kernel_rfl) hM 2 rfl (show (plI nm fs) * 2 + 1 + 1 ≤ fs.length * 2 by omega) rfl) 2 rfl rfl ?_)
           intro w64 hM
           refine ⟨(hM.sub (.cons _ (.cons_cons _ (.cons _ (.cons _ (.cons _ (.cons _ (.cons _ (List.nil_sublist _))))))))), ?_⟩
           refine any_end (by kernel_rfl) ?_
           refine hK56 _ _ ?_
           refine wp_seq_k (fun K65 hK65 => ?_)
           refine wp_region_lit ?_
           refine seq_do hA rfl rfl rfl (m_loadS hM Wf_isS_37 rfl 1 rfl (cs := [.slice (some ⟨g41, 0, none⟩) fs.length fs.length, .slice sI48 il.length cI49, .slice sO50 ol.length cO51]) rfl rfl) ?_
           intro a hA
           refine s_store (us := [.slice (some ⟨g41, 0, none⟩) fs.length fs.length, .slice sI48 il.length cI49, .slice sO50 ol.length cO51]) (L' := (.row BY 1 (.slice so61 ((fd15.take an ++ d ++ fd15.drop bh).length) ca62) ((fd15.take an ++ d ++ fd15.drop bh).length) ((Lib.byteCells (fd15.take an ++ d ++ fd15.drop bh))) :: .obj g53 (.cells #[.slice (some ⟨g41, 0, none⟩) fs.length fs.length, .slice sI48 il.length cI49, .slice sO50 ol.length cO51] 37) :: .row 88 2 (.slice (some ⟨g41, 0, none⟩) fs.length fs.length) fs.length ((over (cellsF gs) ((plI nm fs) * 2 + 1) [.slice so61 ((fd15.take an ++ d ++ fd15.drop bh).length) ca62])) :: .row BY 1 (.slice sI48 il.length cI49) il.length ((Lib.byteCells il)) :: .row BY 1 (.slice sO50 ol.length cO51) ol.length ((Lib.byteCells ol)) :: .obj g4 (.cells #[.slice (some ⟨g41, 0, none⟩) fs.length fs.length, .slice sI48 il.length cI49, .slice sO50 ol.length cO51] 37) :: .obj g2 (.cells #[.slice sF fs.length cF_, .slice sI il.length cI, .slice sO ol.length cO] 37) :: D)) hA hM rfl rfl (m_store rfl rfl rfl (by kernel_rfl) hM 5 rfl rfl rfl) 5 rfl rfl rfl ?_
           intro w66 hM
           refine seq_do hA rfl rfl rfl (does_assign rfl) ?_
           intro a hA
           refine seq_end ?_
           refine hK65 _ _ ?_
           refine wp_ret ?_
           refine hret _ _ ?_
           refine ends (v := .tuple #[.agg #[.slice (some ⟨g41, 0, none⟩) fs.length fs.length, .slice sI48 il.length cI49, .slice sO50 ol.length cO51], .int .i64 0]) hA rfl (.cons (res_cellS hM Wf_isS_37 rfl 5 rfl (cs := [.slice (some ⟨g41, 0, none⟩) fs.length fs.length, .slice sI48 il.length cI49, .slice sO50 ol.length cO51]) rfl rfl) (.cons (res_tmp rfl) .nil)) rfl ?_
           have hq9 : fd15 = d0 := congrArg Prod.snd (Option.some.inj (hf20.symm.trans hd0))
           subst hq9
           rw [put_data (v := .slice so61 ((fd15.take an ++ d ++ fd15.drop bh).length) ca62) (d := (fd15.take an ++ d ++ fd15.drop bh)) hgr hd0] at hM
           rw [show wrR nm z d fs il ol = (0, putF nm (fd15.take an ++ d ++ fd15.drop bh) fs, il, ol) from by unfold wrR; rw [if_neg (by rw [hb7]; decide), hlo]; simp only; rw [if_neg (by omega), if_neg (by omega), hzn, wr_eq hbh2]]
           have hrp : readF (gs.take (plI nm fs) ++ (nm, .slice so61 ((fd15.take an ++ d ++ fd15.drop bh).length) ca62, (fd15.take an ++ d ++ fd15.drop bh)) :: gs.drop (plI nm fs + 1)) = putF nm (fd15.take an ++ d ++ fd15.drop bh) fs := by rw [read_put hgr, hpu]
           exact ret_own hM (noBld_cons (by simp) (noBld_cons (by simp) (noBld_cons (by simp) (noBld_cons (by simp) (noBld_cons (by simp) (noBld_cons (by simp) (noBld_cons (by simp) hnD))))))) (mem_at (k := 2) rfl) (mem_at (k := 3) rfl) (mem_at (k := 4) rfl) (gs_put hGD (fun c hc => (List.mem_cons_of_mem _ (List.mem_cons_of_mem _ (List.mem_cons_of_mem _ (List.mem_cons_of_mem _ (List.mem_cons_of_mem _ (List.mem_cons_of_mem _ (List.mem_cons_of_mem _ hc)))))))) (mem_at (k := 0) rfl)) hrp (by rw [hpu, List.length_append, List.length_cons, List.length_take, List.length_drop]; omega)
   · refine seq_call hA rfl rfl rfl (enters_func rfl rfl (fun w => by kernel_rfl)) ((show Calls Try.prog 60 #[.agg #[.slice sF fs.length cF_, .slice sI il.length cI, .slice sO ol.length cO], .string nm] _ (fun e w' => e = .returned (.tuple #[.int .i64 (0), .int .i64 7]) ∧ _) from (by have h8 := found_any (w := w5) (cF_ := cF_) (cI := cI) (cO := cO) (sI := sI) (sO := sO) (il := il) (ol := ol) (nm := nm) (hF.below hM.bel) hn; unfold fndI fndE at h8; rw [hb7, hb8] at h8; exact h8))) ?_
     rintro _ w68 ⟨rfl, hb67⟩
     replace hM := hM.call hb67
     refine ⟨_, rfl, ?_⟩
     intro a hA
     refine seq_do hA rfl rfl rfl (does_move rfl) ?_
     intro a hA
     refine seq_do (v := .int .i64 0) hA rfl rfl rfl (does_extract (vs := [.int .i64 0, .int .i64 7]) rfl rfl) ?_
     intro a hA
     refine seq_do (v := .int .i64 7) hA rfl rfl rfl (does_extract (vs := [.int .i64 0, .int .i64 7]) rfl rfl) ?_
     intro a hA
     refine seq_do hA rfl rfl rfl (does_assign rfl) ?_
     intro a hA
     refine seq_do hA rfl rfl rfl (does_assign rfl) ?_
     intro a hA
     refine seq_end ?_
     refine hK6 _ _ ?_
     refine wp_seq_k (fun K69 hK69 => ?_)
     refine wp_seq_k (fun K70 hK70 => ?_)
     have hsp := sound_parts hb7
     obtain ⟨hpl, hpt, hpf⟩ := place_facts (n := nm) hsp.2.2.2
     have hlk := look_there (nm := nm) hsp.2.2.2
     obtain ⟨hlo, hpu, hde⟩ := hpf hb8
     refine wp_region_lit ?_
     refine seq_do hA rfl rfl rfl (does_move rfl) ?_
     intro a hA
     refine seq_do (v := .bool true) hA rfl rfl rfl (does_bin rfl rfl (fun w => by kernel_rfl)) ?_
     intro a hA
     refine seq_end ?_
     refine hK70 _ _ ?_
     refine wp_cond_true (hA.ev rfl) ?_
     refine wp_seq_k (fun K71 hK71 => ?_)
     refine wp_region_lit ?_
     refine seq_do (v := .agg #[.slice none 0 0, .slice none 0 0, .slice none 0 0]) hA rfl rfl rfl (does_build rfl (fun w => by kernel_rfl)) ?_
     intro a hA
     refine seq_do hA rfl rfl rfl (does_move rfl) ?_
     intro a hA
     refine s_store (us := [.slice none 0 0, .slice none 0 0, .slice none 0 0]) (L' := (.obj g4 (.cells #[.slice none 0 0, .slice none 0 0, .slice none 0 0] 37) :: .obj g2 (.cells #[.slice sF fs.length cF_, .slice sI il.length cI, .slice sO ol.length cO] 37) :: [])) hA hM rfl rfl (m_store rfl rfl rfl (by kernel_rfl) hM 0 rfl rfl rfl) 0 rfl rfl rfl ?_
     intro w72 hM
     refine seq_do hA rfl rfl rfl (does_assign rfl) ?_
     intro a hA
     refine seq_end ?_
     refine hK71 _ _ ?_
     refine wp_ret ?_
     refine hret _ _ ?_
     refine ends (v := .tuple #[.agg #[.slice none 0 0, .slice none 0 0, .slice none 0 0], .int .i64 7]) hA rfl (.cons (res_cellS hM Wf_isS_37 rfl 0 rfl (cs := [.slice none 0 0, .slice none 0 0, .slice none 0 0]) rfl rfl) (.cons (res_tmp rfl) .nil)) rfl ?_
     rw [show wrR nm z d fs il ol = (7, [], [], []) from by unfold wrR; rw [if_neg (by rw [hb7]; decide), hlo]]
     exact ret_zero hM
 · refine seq_call hA rfl rfl rfl (enters_func rfl rfl (fun w => by kernel_rfl)) ((show Calls Try.prog 60 #[.agg #[.slice sF fs.length cF_, .slice sI il.length cI, .slice sO ol.length cO], .string nm] _ (fun e w' => e = .returned (.tuple #[.int .i64 (0), .int .i64 2]) ∧ _) from (by have h8 := found_any (w := w5) (cF_ := cF_) (cI := cI) (cO := cO) (sI := sI) (sO := sO) (il := il) (ol := ol) (nm := nm) (hF.below hM.bel) hn; unfold fndI fndE at h8; rw [hb7] at h8; exact h8))) ?_
   rintro _ w74 ⟨rfl, hb73⟩
   replace hM := hM.call hb73
   refine ⟨_, rfl, ?_⟩
   intro a hA
   refine seq_do hA rfl rfl rfl (does_move rfl) ?_
   intro a hA
   refine seq_do (v := .int .i64 0) hA rfl rfl rfl (does_extract (vs := [.int .i64 0, .int .i64 2]) rfl rfl) ?_
   intro a hA
   refine seq_do (v := .int .i64 2) hA rfl rfl rfl (does_extract (vs := [.int .i64 0, .int .i64 2]) rfl rfl) ?_
   intro a hA
   refine seq_do hA rfl rfl rfl (does_assign rfl) ?_
   intro a hA
   refine seq_do hA rfl rfl rfl (does_assign rfl) ?_
   intro a hA
   refine seq_end ?_
   refine hK6 _ _ ?_
   refine wp_seq_k (fun K75 hK75 => ?_)
   refine wp_seq_k (fun K76 hK76 => ?_)
   refine wp_region_lit ?_
   refine seq_do hA rfl rfl rfl (does_move rfl) ?_
   intro a hA
   refine seq_do (v := .bool true) hA rfl rfl rfl (does_bin rfl rfl (fun w => by kernel_rfl)) ?_
   intro a hA
   refine seq_end ?_
   refine hK76 _ _ ?_
   refine wp_cond_true (hA.ev rfl) ?_
   refine wp_seq_k (fun K77 hK77 => ?_)
   refine wp_region_lit ?_
   refine seq_do (v := .agg #[.slice none 0 0, .slice none 0 0, .slice none 0 0]) hA rfl rfl rfl (does_build rfl (fun w => by kernel_rfl)) ?_
   intro a hA
   refine seq_do hA rfl rfl rfl (does_move rfl) ?_
   intro a hA
   refine s_store (us := [.slice none 0 0, .slice none 0 0, .slice none 0 0]) (L' := (.obj g4 (.cells #[.slice none 0 0, .slice none 0 0, .slice none 0 0] 37) :: .obj g2 (.cells #[.slice sF fs.length cF_, .slice sI il.length cI, .slice sO ol.length cO] 37) :: [])) hA hM rfl rfl (m_store rfl rfl rfl (by kernel_rfl) hM 0 rfl rfl rfl) 0 rfl rfl rfl ?_
   intro w78 hM
   refine seq_do hA rfl rfl rfl (does_assign rfl) ?_
   intro a hA
   refine seq_end ?_
   refine hK77 _ _ ?_
   refine wp_ret ?_
   refine hret _ _ ?_
   refine ends (v := .tuple #[.agg #[.slice none 0 0, .slice none 0 0, .slice none 0 0], .int .i64 2]) hA rfl (.cons (res_cellS hM Wf_isS_37 rfl 0 rfl (cs := [.slice none 0 0, .slice none 0 0, .slice none 0 0]) rfl rfl) (.cons (res_tmp rfl) .nil)) rfl ?_
   rw [show wrR nm z d fs il ol = (2, [], [], []) from by unfold wrR; rw [if_pos hb7]]
   exact ret_zero hM
theorem take_any {w : World} {sF sI sO : Option Addr} {cF_ cI cO : Nat} {fs : List Fl} {il ol : List UInt8} {z : Int} (hF : Rf w sF fs) (hI : Rb w sI il) (hO : Rb w sO ol) (hn : fs.length ≤ 4398046511104) (hcI : il.length ≤ cI) : Calls Try.prog 23 #[.agg #[.slice sF fs.length cF_, .slice sI il.length cI, .slice sO ol.length cO], .int .i64 z] w fun e w' => RetT w e w' (takeR z fs il ol) := by
 have hM : Mg w w ([]) := Mg.start w
 refine walk_of (l := [(0, .agg #[.slice sF fs.length cF_, .slice sI il.length cI, .slice sO ol.length cO]), (1, .int .i64 z)]) Try.func23 rfl Try.ntmps23 rfl rfl ?_
 intro Q hret hnorm hP a hA
 refine wp_seq_k (fun K1 hK1 => ?_)
 refine wp_region_lit ?_
 refine s_new (vs := [.slice sF fs.length cF_, .slice sI il.length cI, .slice sO ol.length cO]) (t := 37) hA hM rfl rfl rfl (fun g => .pointer (some ⟨g, 0, none⟩)) (does_box rfl rfl) (by decide) ?_
 intro g2 w3 hM a hA
 refine seq_do hA rfl rfl rfl (does_assign rfl) ?_
 intro a hA
 refine s_new (vs := [.slice none 0 0, .slice none 0 0, .slice none 0 0]) (t := 37) hA hM rfl rfl rfl (fun g => .pointer (some ⟨g, 0, none⟩)) (does_alloc (z := .agg #[.slice none 0 0, .slice none 0 0, .slice none 0 0]) (by kernel_rfl) rfl) (by decide) ?_
 intro g4 w5 hM a hA
 refine seq_do hA rfl rfl rfl (does_assign rfl) ?_
 intro a hA
 refine seq_end ?_
 refine hK1 _ _ ?_
 refine wp_seq_k (fun K6 hK6 => ?_)
 refine wp_block ?_
 refine wp_seq_k (fun K7 hK7 => ?_)
 refine wp_region_lit ?_
 refine seq_do hA rfl rfl rfl (m_loadS hM Wf_isS_37 rfl 1 rfl (cs := [.slice sF fs.length cF_, .slice sI il.length cI, .slice sO ol.length cO]) rfl rfl) ?_
 intro a hA
 rcases Bool.eq_false_or_eq_true (soundS fs il ol) with hb8 | hb8
 · refine seq_call hA rfl rfl rfl (enters_func rfl rfl (fun w => by kernel_rfl)) (sound_as (hF.below hM.bel) hn hb8) ?_
   rintro _ w10 ⟨rfl, hb9⟩
   replace hM := hM.call hb9
   refine ⟨_, rfl, ?_⟩
   intro a hA
   refine seq_do (v := .bool false) hA rfl rfl rfl (does_un rfl un_not) ?_
   intro a hA
   refine seq_do hA rfl rfl rfl (does_assign rfl) ?_
   intro a hA
   refine seq_end ?_
   refine hK7 _ _ ?_
   refine wp_cond_false (hA.ev rfl) ?_
   refine wp_seq_k (fun K11 hK11 => ?_)
   have hsp := sound_parts hb8
   refine wp_region_lit ?_
   refine seq_do hA rfl rfl rfl (does_move rfl) ?_
   intro a hA
   rcases Bool.eq_false_or_eq_true (decide (z < 0)) with hb12 | hb12
   · have hb12' := of_decide_eq_true hb12
     refine seq_do (v := .bool true) hA rfl rfl rfl (does_bin rfl rfl (fun w => (bin_lss w).trans (by rw [hb12]))) ?_
     intro a hA
     refine seq_do hA rfl rfl rfl (does_assign rfl) ?_
     intro a hA
     refine seq_end ?_
     refine hK11 _ _ ?_
     refine wp_cond_true (hA.ev rfl) ?_
     refine wp_seq_k (fun K13 hK13 => ?_)
     refine wp_region_lit ?_
     refine seq_do (v := .agg #[.slice none 0 0, .slice none 0 0, .slice none 0 0]) hA rfl rfl rfl (does_build rfl (fun w => by kernel_rfl)) ?_
     intro a hA
     refine seq_do hA rfl rfl rfl (does_assign rfl) ?_
     intro a hA
     refine s_store (us := [.slice none 0 0, .slice none 0 0, .slice none 0 0]) (L' := (.obj g4 (.cells #[.slice none 0 0, .slice none 0 0, .slice none 0 0] 37) :: .obj g2 (.cells #[.slice sF fs.length cF_, .slice sI il.length cI, .slice sO ol.length cO] 37) :: [])) hA hM rfl rfl (m_store rfl rfl rfl (by kernel_rfl) hM 0 rfl rfl rfl) 0 rfl rfl rfl ?_
     intro w14 hM
     refine seq_do hA rfl rfl rfl (does_assign rfl) ?_
     intro a hA
     refine seq_end ?_
     refine hK13 _ _ ?_
     refine wp_ret ?_
     refine hret _ _ ?_
     refine ends (v := .tuple #[.slice none 0 0, .agg #[.slice none 0 0, .slice none 0 0, .slice none 0 0], .int .i64 1]) hA rfl (.cons (res_tmp rfl) (.cons (res_cellS hM Wf_isS_37 rfl 0 rfl (cs := [.slice none 0 0, .slice none 0 0, .slice none 0 0]) rfl rfl) (.cons (res_tmp rfl) .nil))) rfl ?_
     rw [show takeR z fs il ol = ([], 1, [], [], []) from by unfold takeR; rw [if_neg (by rw [hb8]; decide), if_pos (by omega)]]
     exact zeroT hM
   · have hb12' := of_decide_eq_false hb12
     refine seq_do (v := .bool false) hA rfl rfl rfl (does_bin rfl rfl (fun w => (bin_lss w).trans (by rw [hb12]))) ?_
     intro a hA
     refine seq_do hA rfl rfl rfl (does_assign rfl) ?_
     intro a hA
     refine seq_end ?_
     refine hK11 _ _ ?_
     refine wp_cond_false (hA.ev rfl) ?_
     refine wp_seq_k (fun K15 hK15 => ?_)
     refine wp_region_lit ?_
     refine seq_do hA rfl rfl rfl (does_move rfl) ?_
     intro a hA
     refine seq_do (v := .pointer (some ⟨g2, 1, none⟩)) hA rfl rfl rfl (does_field Wf_fld_37_1 rfl rfl) ?_
     intro a hA
     refine seq_do hA rfl rfl rfl (m_load1 hM Wf_is1_24 rfl 1 rfl rfl) ?_
     intro a hA
     refine seq_do (v := .int .i64 (((il.length : Nat) : Int))) hA rfl rfl rfl (does_len Try.underlying24 rfl) ?_
     intro a hA
     rcases Bool.eq_false_or_eq_true (decide (((il.length : Nat) : Int) < z)) with hb16 | hb16
     · have hb16' := of_decide_eq_true hb16
       refine seq_do (v := .bool true) hA rfl rfl rfl (does_bin rfl rfl (fun w => (bin_gtr w).trans (by rw [hb16]))) ?_
       intro a hA
       refine seq_do hA rfl rfl rfl (does_assign rfl) ?_
       intro a hA
       refine seq_end ?_
       refine hK15 _ _ ?_
       refine wp_cond_true (hA.ev rfl) ?_
       refine wp_seq_k (fun K17 hK17 => ?_)
       refine wp_region_lit ?_
       refine seq_do (v := .agg #[.slice none 0 0, .slice none 0 0, .slice none 0 0]) hA rfl rfl rfl (does_build rfl (fun w => by kernel_rfl)) ?_
       intro a hA
       refine seq_do hA rfl rfl rfl (does_assign rfl) ?_
       intro a hA
       refine s_store (us := [.slice none 0 0, .slice none 0 0, .slice none 0 0]) (L' := (.obj g4 (.cells #[.slice none 0 0, .slice none 0 0, .slice none 0 0] 37) :: .obj g2 (.cells #[.slice sF fs.length cF_, .slice sI il.length cI, .slice sO ol.length cO] 37) :: [])) hA hM rfl rfl (m_store rfl rfl rfl (by kernel_rfl) hM 0 rfl rfl rfl) 0 rfl rfl rfl ?_
       intro w18 hM
       refine seq_do hA rfl rfl rfl (does_assign rfl) ?_
       intro a hA
       refine seq_end ?_
       refine hK17 _ _ ?_
       refine wp_ret ?_
       refine hret _ _ ?_
       refine ends (v := .tuple #[.slice none 0 0, .agg #[.slice none 0 0, .slice none 0 0, .slice none 0 0], .int .i64 11]) hA rfl (.cons (res_tmp rfl) (.cons (res_cellS hM Wf_isS_37 rfl 0 rfl (cs := [.slice none 0 0, .slice none 0 0, .slice none 0 0]) rfl rfl) (.cons (res_tmp rfl) .nil))) rfl ?_
       rw [show takeR z fs il ol = ([], 11, [], [], []) from by unfold takeR; rw [if_neg (by rw [hb8]; decide), if_neg (by omega), if_pos (by omega)]]
       exact zeroT hM
     · have hb16' := of_decide_eq_false hb16
       refine seq_do (v := .bool false) hA rfl rfl rfl (does_bin rfl rfl (fun w => (bin_gtr w).trans (by rw [hb16]))) ?_
       intro a hA
       refine seq_do hA rfl rfl rfl (does_assign rfl) ?_
       intro a hA
       refine seq_end ?_
       refine hK15 _ _ ?_
       refine wp_cond_false (hA.ev rfl) ?_
       refine wp_skip ?_
       refine hK6 _ _ ?_
       refine wp_seq_k (fun K19 hK19 => ?_)
       refine wp_region_lit ?_
       refine seq_do hA rfl rfl rfl (m_loadS hM Wf_isS_37 rfl 1 rfl (cs := [.slice sF fs.length cF_, .slice sI il.length cI, .slice sO ol.length cO]) rfl rfl) ?_
       intro a hA
       refine seq_call hA rfl rfl rfl (enters_func rfl rfl (fun w => by kernel_rfl)) (copied_any (cF_ := cF_) (cI := cI) (cO := cO) (hF.below hM.bel) (hI.below hM.bel) (hO.below hM.bel) hb8) ?_
       rintro _ w31 ⟨g20, vI21, vO22, rfl, hOw23⟩
       obtain ⟨gs, D, hM26, hGD, hgr, hnD⟩ := hOw23
       obtain ⟨sI27, cI28, rfl⟩ := owns_sliceE (hM26.has 1 rfl)
       obtain ⟨sO29, cO30, rfl⟩ := owns_sliceE (hM26.has 2 rfl)
       have hgl : gs.length = fs.length := by rw [← hgr, readF_len]
       replace hM : Mg w w31 (.row 88 2 (.slice (some ⟨g20, 0, none⟩) fs.length fs.length) fs.length ((cellsF gs)) :: .row BY 1 (.slice sI27 il.length cI28) il.length ((Lib.byteCells il)) :: .row BY 1 (.slice sO29 ol.length cO30) ol.length ((Lib.byteCells ol)) :: .obj g4 (.cells #[.slice none 0 0, .slice none 0 0, .slice none 0 0] 37) :: .obj g2 (.cells #[.slice sF fs.length cF_, .slice sI il.length cI, .slice sO ol.length cO] 37) :: D) := ((hM.both hM26 (noBld_cons (by simp) (noBld_cons (by simp) (noBld_quiet quietL_nil))) (noBld_cons (by simp) (noBld_cons (by simp) (noBld_cons (by simp) hnD)))).perm (perm_own _ _ _ _ _))
       refine ⟨_, rfl, ?_⟩
       intro a hA
       refine s_new (vs := [.slice none 0 0, .slice none 0 0, .slice none 0 0]) (t := 37) hA hM rfl rfl rfl (fun g => .pointer (some ⟨g, 0, none⟩)) (does_alloc (z := .agg #[.slice none 0 0, .slice none 0 0, .slice none 0 0]) (by kernel_rfl) rfl) (by decide) ?_
       intro g32 w33 hM a hA
       refine s_store (us := [.slice (some ⟨g20, 0, none⟩) fs.length fs.length, .slice sI27 il.length cI28, .slice sO29 ol.length cO30]) (L' := (.obj g32 (.cells #[.slice (some ⟨g20, 0, none⟩) fs.length fs.length, .slice sI27 il.length cI28, .slice sO29 ol.length cO30] 37) :: .row 88 2 (.slice (some ⟨g20, 0, none⟩) fs.length fs.length) fs.length ((cellsF gs)) :: .row BY 1 (.slice sI27 il.length cI28) il.length ((Lib.byteCells il)) :: .row BY 1 (.slice sO29 ol.length cO30) ol.length ((Lib.byteCells ol)) :: .obj g4 (.cells #[.slice none 0 0, .slice none 0 0, .slice none 0 0] 37) :: .obj g2 (.cells #[.slice sF fs.length cF_, .slice sI il.length cI, .slice sO ol.length cO] 37) :: D)) hA hM rfl rfl (m_store rfl rfl rfl (by kernel_rfl) hM 0 rfl rfl rfl) 0 rfl rfl rfl ?_
       intro w34 hM
       refine seq_end ?_
       refine hK19 _ _ ?_
       refine wp_seq_k (fun K35 hK35 => ?_)
       refine wp_region_lit ?_
       refine seq_do (v := .pointer (some ⟨g2, 1, none⟩)) hA rfl rfl rfl (does_field Wf_fld_37_1 rfl rfl) ?_
       intro a hA
       refine seq_do hA rfl rfl rfl (m_load1 hM Wf_is1_24 rfl 5 rfl rfl) ?_
       intro a hA
       refine seq_do hA rfl rfl rfl (does_move rfl) ?_
       intro a hA
       obtain ⟨an, han⟩ : ∃ an : Nat, z = ((an : Nat) : Int) := ⟨z.toNat, by omega⟩
       have hzn : z.toNat = an := by omega
       refine seq_do (v := .slice ((dropA sI cI an)) ((il.drop an).length) ((cI - an))) hA rfl rfl rfl (does_fromq Try.underlying24 (by kernel_rfl) rfl rfl han (by omega) (List.length_drop).symm) ?_
       intro a hA
       refine seq_call hA rfl rfl rfl (enters_func rfl rfl (fun w => by kernel_rfl)) (clone_any ((hI.drop cI an hcI).below hM.bel) (by rw [List.length_drop]; omega)) ?_
       rintro _ w40 ⟨v36, rfl, hM37⟩
       obtain ⟨so38, ca39, rfl⟩ := owns_sliceE (hM37.has 0 rfl)
       replace hM : Mg w w40 (.row BY 1 (.slice so38 ((il.drop an).length) ca39) ((il.drop an).length) ((Lib.byteCells (il.drop an))) :: .obj g32 (.cells #[.slice (some ⟨g20, 0, none⟩) fs.length fs.length, .slice sI27 il.length cI28, .slice sO29 ol.length cO30] 37) :: .row 88 2 (.slice (some ⟨g20, 0, none⟩) fs.length fs.length) fs.length ((cellsF gs)) :: .row BY 1 (.slice sI27 il.length cI28) il.length ((Lib.byteCells il)) :: .row BY 1 (.slice sO29 ol.length cO30) ol.length ((Lib.byteCells ol)) :: .obj g4 (.cells #[.slice none 0 0, .slice none 0 0, .slice none 0 0] 37) :: .obj g2 (.cells #[.slice sF fs.length cF_, .slice sI il.length cI, .slice sO ol.length cO] 37) :: D) := (hM.both hM37 (noBld_cons (by simp) (noBld_cons (by simp) (noBld_cons (by simp) (noBld_cons (by simp) (noBld_cons (by simp) (noBld_cons (by simp) hnD)))))) (noBld_cons (by simp) (noBld_quiet quietL_nil)))
       refine ⟨_, rfl, ?_⟩
       intro a hA
       refine seq_do (v := .pointer (some ⟨g32, 1, none⟩)) hA rfl rfl rfl (does_field Wf_fld_37_1 rfl rfl) ?_
       intro a hA
       refine s_store (us := [.slice (some ⟨g20, 0, none⟩) fs.length fs.length, .slice so38 ((il.drop an).length) ca39, .slice sO29 ol.length cO30]) (L' := (.row BY 1 (.slice so38 ((il.drop an).length) ca39) ((il.drop an).length) ((Lib.byteCells (il.drop an))) :: .obj g32 (.cells #[.slice (some ⟨g20, 0, none⟩) fs.length fs.length, .slice so38 ((il.drop an).length) ca39, .slice sO29 ol.length cO30] 37) :: .row 88 2 (.slice (some ⟨g20, 0, none⟩) fs.length fs.length) fs.length ((cellsF gs)) :: .row BY 1 (.slice sI27 il.length cI28) il.length ((Lib.byteCells il)) :: .row BY 1 (.slice sO29 ol.length cO30) ol.length ((Lib.byteCells ol)) :: .obj g4 (.cells #[.slice none 0 0, .slice none 0 0, .slice none 0 0] 37) :: .obj g2 (.cells #[.slice sF fs.length cF_, .slice sI il.length cI, .slice sO ol.length cO] 37) :: D)) hA hM rfl rfl (m_store rfl rfl rfl (by kernel_rfl) hM 1 rfl rfl rfl) 1 rfl rfl rfl ?_
       intro w41 hM
       refine seq_end ?_
       refine hK35 _ _ ?_
       refine wp_seq_k (fun K42 hK42 => ?_)
       refine wp_draw (S := fun w1 => Mg w w1 (.obj g32 (.cells #[.slice (some ⟨g20, 0, none⟩) fs.length fs.length, .slice so38 ((il.drop an).length) ca39, .slice sO29 ol.length cO30] 37) :: .obj g2 (.cells #[.slice sF fs.length cF_, .slice sI il.length cI, .slice sO ol.length cO] 37) :: [])) (by kernel_rfl) ?_
       replace hM := hM.drew
       refine any_tk (v := .pointer (some ⟨g2, 1, none⟩)) hA 0 rfl rfl rfl rfl hP (hM.sub (.cons _ (.cons_cons _ (.cons _ (.cons _ (.cons _ (.cons _ (.cons_cons _ (List.nil_sublist _))))))))) (fun w1 hM => does_field Wf_fld_37_1 rfl rfl) ?_
       intro a hA
       refine any_tk hA 1 rfl rfl rfl rfl hP (hM.sub (.cons _ (.cons_cons _ (.cons _ (.cons _ (.cons _ (.cons _ (.cons_cons _ (List.nil_sublist _))))))))) (fun w1 hM => m_load1 hM Wf_is1_24 rfl 1 rfl rfl) ?_
       intro a hA
       refine any_tk hA 2 rfl rfl rfl rfl hP (hM.sub (.cons _ (.cons_cons _ (.cons _ (.cons _ (.cons _ (.cons _ (.cons_cons _ (List.nil_sublist _))))))))) (fun w1 hM => does_move rfl) ?_
       intro a hA
       refine any_tk (v := .slice sI ((il.take an).length) cI) hA 3 rfl rfl rfl rfl hP (hM.sub (.cons _ (.cons_cons _ (.cons _ (.cons _ (.cons _ (.cons _ (.cons_cons _ (List.nil_sublist _))))))))) (fun w1 hM => does_upto (sz := 1) (hi := (il.take an).length) Try.underlying24 (by kernel_rfl) rfl rfl (by rw [List.length_take]; omega) (by rw [List.length_take]; omega)) ?_
       intro a hA
       refine any_tk hA 5 rfl rfl rfl rfl hP (hM.sub (.cons _ (.cons_cons _ (.cons _ (.cons _ (.cons _ (.cons _ (.cons_cons _ (List.nil_sublist _))))))))) (fun w1 hM => m_loadS hM Wf_isS_37 rfl 0 rfl (cs := [.slice (some ⟨g20, 0, none⟩) fs.length fs.length, .slice so38 ((il.drop an).length) ca39, .slice sO29 ol.length cO30]) rfl rfl) ?_
       intro a hA
       refine any_one (by kernel_rfl) (op_call hA 4 rfl rfl rfl rfl (enters_func rfl rfl (fun w => by kernel_rfl)) (clone_any ((hI.take an).below hM.bel) (by rw [List.length_take]; omega)) ?_)
       rintro _ w47 ⟨v43, rfl, hM44⟩
       obtain ⟨so45, ca46, rfl⟩ := owns_sliceE (hM44.has 0 rfl)
       replace hM : Mg w w47 (.row BY 1 (.slice so45 ((il.take an).length) ca46) ((il.take an).length) ((Lib.byteCells (il.take an))) :: .row BY 1 (.slice so38 ((il.drop an).length) ca39) ((il.drop an).length) ((Lib.byteCells (il.drop an))) :: .obj g32 (.cells #[.slice (some ⟨g20, 0, none⟩) fs.length fs.length, .slice so38 ((il.drop an).length) ca39, .slice sO29 ol.length cO30] 37) :: .row 88 2 (.slice (some ⟨g20, 0, none⟩) fs.length fs.length) fs.length ((cellsF gs)) :: .row BY 1 (.slice sI27 il.length cI28) il.length ((Lib.byteCells il)) :: .row BY 1 (.slice sO29 ol.length cO30) ol.length ((Lib.byteCells ol)) :: .obj g4 (.cells #[.slice none 0 0, .slice none 0 0, .slice none 0 0] 37) :: .obj g2 (.cells #[.slice sF fs.length cF_, .slice sI il.length cI, .slice sO ol.length cO] 37) :: D) := (hM.both hM44 (noBld_cons (by simp) (noBld_cons (by simp) (noBld_cons (by simp) (noBld_cons (by simp) (noBld_cons (by simp) (noBld_cons (by simp) (noBld_cons (by simp) hnD))))))) (noBld_cons (by simp) (noBld_quiet quietL_nil)))
       refine ⟨_, rfl, (hM.sub (.cons _ (.cons _ (.cons_cons _ (.cons _ (.cons _ (.cons _ (.cons _ (.cons_cons _ (List.nil_sublist _)))))))))), ?_⟩
       intro a hA
       refine any_tk hA 6 rfl rfl rfl rfl hP (hM.sub (.cons _ (.cons _ (.cons_cons _ (.cons _ (.cons _ (.cons _ (.cons _ (.cons_cons _ (List.nil_sublist _)))))))))) (fun w1 hM => does_assign rfl) ?_
       intro a hA
       refine any_one (by kernel_rfl) (g_store (us := [.slice (some ⟨g20, 0, none⟩) fs.length fs.length, .slice so38 ((il.drop an).length) ca39, .slice sO29 ol.length cO30]) (L' := (.row BY 1 (.slice so45 ((il.take an).length) ca46) ((il.take an).length) ((Lib.byteCells (il.take an))) :: .row BY 1 (.slice so38 ((il.drop an).length) ca39) ((il.drop an).length) ((Lib.byteCells (il.drop an))) :: .obj g32 (.cells #[.slice (some ⟨g20, 0, none⟩) fs.length fs.length, .slice so38 ((il.drop an).length) ca39, .slice sO29 ol.length cO30] 37) :: .row 88 2 (.slice (some ⟨g20, 0, none⟩) fs.length fs.length) fs.length ((cellsF gs)) :: .row BY 1 (.slice sI27 il.length cI28) il.length ((Lib.byteCells il)) :: .row BY 1 (.slice sO29 ol.length cO30) ol.length ((Lib.byteCells ol)) :: .obj g4 (.cells #[.slice (some ⟨g20, 0, none⟩) fs.length fs.length, .slice so38 ((il.drop an).length) ca39, .slice sO29 ol.length cO30] 37) :: .obj g2 (.cells #[.slice sF fs.length cF_, .slice sI il.length cI, .slice sO ol.length cO] 37) :: D)) hA hM 7 rfl rfl rfl (m_store rfl rfl rfl (by kernel_rfl) hM 6 rfl rfl rfl) 6 rfl rfl rfl ?_)
       intro w48 hM
       refine ⟨(hM.sub (.cons _ (.cons _ (.cons_cons _ (.cons _ (.cons _ (.cons _ (.cons _ (.cons_cons _ (List.nil_sublist _)))))))))), ?_⟩
       refine any_tk hA 8 rfl rfl rfl rfl hP (hM.sub (.cons _ (.cons _ (.cons_cons _ (.cons _ (.cons _ (.cons _ (.cons _ (.cons_cons _ (List.nil_sublist _)))))))))) (fun w1 hM => does_assign rfl) ?_
       intro a hA
       refine any_end (by kernel_rfl) ?_
       refine hK42 _ _ ?_
       refine wp_ret ?_
       refine hret _ _ ?_
       refine ends (v := .tuple #[.slice so45 ((il.take an).length) ca46, .agg #[.slice (some ⟨g20, 0, none⟩) fs.length fs.length, .slice so38 ((il.drop an).length) ca39, .slice sO29 ol.length cO30], .int .i64 0]) hA rfl (.cons (res_tmp rfl) (.cons (res_cellS hM Wf_isS_37 rfl 6 rfl (cs := [.slice (some ⟨g20, 0, none⟩) fs.length fs.length, .slice so38 ((il.drop an).length) ca39, .slice sO29 ol.length cO30]) rfl rfl) (.cons (res_tmp rfl) .nil))) rfl ?_
       rw [show takeR z fs il ol = (il.take an, 0, fs, il.drop an, ol) from by unfold takeR; rw [if_neg (by rw [hb8]; decide), if_neg (by omega), if_neg (by omega), hzn]]
       exact ⟨_, _, _, rfl, hM, (noBld_cons (by simp) (noBld_cons (by simp) (noBld_cons (by simp) (noBld_cons (by simp) (noBld_cons (by simp) (noBld_cons (by simp) (noBld_cons (by simp) (noBld_cons (by simp) hnD)))))))), mem_at (k := 0) rfl, _, _, _, gs, rfl, mem_at (k := 3) rfl, mem_at (k := 1) rfl, mem_at (k := 5) rfl, gs_same hGD (fun c hc => (List.mem_cons_of_mem _ (List.mem_cons_of_mem _ (List.mem_cons_of_mem _ (List.mem_cons_of_mem _ (List.mem_cons_of_mem _ (List.mem_cons_of_mem _ (List.mem_cons_of_mem _ (List.mem_cons_of_mem _ hc))))))))), hgr⟩
 · refine seq_call hA rfl rfl rfl (enters_func rfl rfl (fun w => by kernel_rfl)) (sound_as (hF.below hM.bel) hn hb8) ?_
   rintro _ w50 ⟨rfl, hb49⟩
   replace hM := hM.call hb49
   refine ⟨_, rfl, ?_⟩
   intro a hA
   refine seq_do (v := .bool true) hA rfl rfl rfl (does_un rfl un_not) ?_
   intro a hA
   refine seq_do hA rfl rfl rfl (does_assign rfl) ?_
   intro a hA
   refine seq_end ?_
   refine hK7 _ _ ?_
   refine wp_cond_true (hA.ev rfl) ?_
   refine wp_seq_k (fun K51 hK51 => ?_)
   refine wp_region_lit ?_
   refine seq_do (v := .agg #[.slice none 0 0, .slice none 0 0, .slice none 0 0]) hA rfl rfl rfl (does_build rfl (fun w => by kernel_rfl)) ?_
   intro a hA
   refine seq_do hA rfl rfl rfl (does_assign rfl) ?_
   intro a hA
   refine s_store (us := [.slice none 0 0, .slice none 0 0, .slice none 0 0]) (L' := (.obj g4 (.cells #[.slice none 0 0, .slice none 0 0, .slice none 0 0] 37) :: .obj g2 (.cells #[.slice sF fs.length cF_, .slice sI il.length cI, .slice sO ol.length cO] 37) :: [])) hA hM rfl rfl (m_store rfl rfl rfl (by kernel_rfl) hM 0 rfl rfl rfl) 0 rfl rfl rfl ?_
   intro w52 hM
   refine seq_do hA rfl rfl rfl (does_assign rfl) ?_
   intro a hA
   refine seq_end ?_
   refine hK51 _ _ ?_
   refine wp_ret ?_
   refine hret _ _ ?_
   refine ends (v := .tuple #[.slice none 0 0, .agg #[.slice none 0 0, .slice none 0 0, .slice none 0 0], .int .i64 2]) hA rfl (.cons (res_tmp rfl) (.cons (res_cellS hM Wf_isS_37 rfl 0 rfl (cs := [.slice none 0 0, .slice none 0 0, .slice none 0 0]) rfl rfl) (.cons (res_tmp rfl) .nil))) rfl ?_
   rw [show takeR z fs il ol = ([], 2, [], [], []) from by unfold takeR; rw [if_pos hb8]]
   exact zeroT hM
theorem say_any {w : World} {sF sI sO : Option Addr} {cF_ cI cO : Nat} {fs : List Fl} {il ol : List UInt8} {so : Option Addr} {cd : Nat} {d : List UInt8} (hF : Rf w sF fs) (hI : Rb w sI il) (hO : Rb w sO ol) (hn : fs.length ≤ 4398046511104) (hb : Rb w so d) (hbl : d.length ≤ 140737488351232) : Calls Try.prog 25 #[.agg #[.slice sF fs.length cF_, .slice sI il.length cI, .slice sO ol.length cO], .slice so d.length cd] w fun e w' => RetW w e w' (sayR d fs il ol) := by
 have hM : Mg w w ([]) := Mg.start w
 refine walk_of (l := [(0, .agg #[.slice sF fs.length cF_, .slice sI il.length cI, .slice sO ol.length cO]), (1, .slice so d.length cd)]) Try.func25 rfl Try.ntmps25 rfl rfl ?_
 intro Q hret hnorm hP a hA
 refine wp_seq_k (fun K1 hK1 => ?_)
 refine wp_region_lit ?_
 refine s_new (vs := [.slice sF fs.length cF_, .slice sI il.length cI, .slice sO ol.length cO]) (t := 37) hA hM rfl rfl rfl (fun g => .pointer (some ⟨g, 0, none⟩)) (does_box rfl rfl) (by decide) ?_
 intro g2 w3 hM a hA
 refine s_new (vs := [.slice none 0 0, .slice none 0 0, .slice none 0 0]) (t := 37) hA hM rfl rfl rfl (fun g => .pointer (some ⟨g, 0, none⟩)) (does_alloc (z := .agg #[.slice none 0 0, .slice none 0 0, .slice none 0 0]) (by kernel_rfl) rfl) (by decide) ?_
 intro g4 w5 hM a hA
 refine seq_do hA rfl rfl rfl (does_assign rfl) ?_
 intro a hA
 refine seq_end ?_
 refine hK1 _ _ ?_
 refine wp_seq_k (fun K6 hK6 => ?_)
 refine wp_block ?_
 refine wp_seq_k (fun K7 hK7 => ?_)
 refine wp_region_lit ?_
 refine seq_do hA rfl rfl rfl (m_loadS hM Wf_isS_37 rfl 1 rfl (cs := [.slice sF fs.length cF_, .slice sI il.length cI, .slice sO ol.length cO]) rfl rfl) ?_
 intro a hA
 rcases Bool.eq_false_or_eq_true (soundS fs il ol) with hb8 | hb8
 · refine seq_call hA rfl rfl rfl (enters_func rfl rfl (fun w => by kernel_rfl)) (sound_as (hF.below hM.bel) hn hb8) ?_
   rintro _ w10 ⟨rfl, hb9⟩
   replace hM := hM.call hb9
   refine ⟨_, rfl, ?_⟩
   intro a hA
   refine seq_do (v := .bool false) hA rfl rfl rfl (does_un rfl un_not) ?_
   intro a hA
   refine seq_do hA rfl rfl rfl (does_assign rfl) ?_
   intro a hA
   refine seq_end ?_
   refine hK7 _ _ ?_
   refine wp_cond_false (hA.ev rfl) ?_
   refine wp_seq_k (fun K11 hK11 => ?_)
   have hsp := sound_parts hb8
   refine wp_region_lit ?_
   refine seq_do hA rfl rfl rfl (does_move rfl) ?_
   intro a hA
   refine seq_do (v := .int .i64 (((d.length : Nat) : Int))) hA rfl rfl rfl (does_len Try.underlying24 rfl) ?_
   intro a hA
   refine seq_do (v := .pointer (some ⟨g2, 2, none⟩)) hA rfl rfl rfl (does_field Wf_fld_37_2 rfl rfl) ?_
   intro a hA
   refine seq_do hA rfl rfl rfl (m_load1 hM Wf_is1_24 rfl 1 rfl rfl) ?_
   intro a hA
   refine seq_do (v := .int .i64 (((ol.length : Nat) : Int))) hA rfl rfl rfl (does_len Try.underlying24 rfl) ?_
   intro a hA
   refine seq_do (v := .int .i64 (65536 - ((ol.length : Nat) : Int))) hA rfl rfl rfl (does_bin rfl rfl (ar_sub (in_i64 (by omega) (by omega)))) ?_
   intro a hA
   rcases Bool.eq_false_or_eq_true (decide (65536 - ((ol.length : Nat) : Int) < ((d.length : Nat) : Int))) with hb12 | hb12
   · have hb12' := of_decide_eq_true hb12
     refine seq_do (v := .bool true) hA rfl rfl rfl (does_bin rfl rfl (fun w => (bin_gtr w).trans (by rw [hb12]))) ?_
     intro a hA
     refine seq_do hA rfl rfl rfl (does_assign rfl) ?_
     intro a hA
     refine seq_end ?_
     refine hK11 _ _ ?_
     refine wp_cond_true (hA.ev rfl) ?_
     refine wp_seq_k (fun K13 hK13 => ?_)
     refine wp_region_lit ?_
     refine seq_do (v := .agg #[.slice none 0 0, .slice none 0 0, .slice none 0 0]) hA rfl rfl rfl (does_build rfl (fun w => by kernel_rfl)) ?_
     intro a hA
     refine s_store (us := [.slice none 0 0, .slice none 0 0, .slice none 0 0]) (L' := (.obj g4 (.cells #[.slice none 0 0, .slice none 0 0, .slice none 0 0] 37) :: .obj g2 (.cells #[.slice sF fs.length cF_, .slice sI il.length cI, .slice sO ol.length cO] 37) :: [])) hA hM rfl rfl (m_store rfl rfl rfl (by kernel_rfl) hM 0 rfl rfl rfl) 0 rfl rfl rfl ?_
     intro w14 hM
     refine seq_do hA rfl rfl rfl (does_assign rfl) ?_
     intro a hA
     refine seq_end ?_
     refine hK13 _ _ ?_
     refine wp_ret ?_
     refine hret _ _ ?_
     refine ends (v := .tuple #[.agg #[.slice none 0 0, .slice none 0 0, .slice none 0 0], .int .i64 4]) hA rfl (.cons (res_cellS hM Wf_isS_37 rfl 0 rfl (cs := [.slice none 0 0, .slice none 0 0, .slice none 0 0]) rfl rfl) (.cons (res_tmp rfl) .nil)) rfl ?_
     rw [show sayR d fs il ol = (4, [], [], []) from by unfold sayR; rw [if_neg (by rw [hb8]; decide), if_pos (by omega)]]
     exact ret_zero hM
   · have hb12' := of_decide_eq_false hb12
     refine seq_do (v := .bool false) hA rfl rfl rfl (does_bin rfl rfl (fun w => (bin_gtr w).trans (by rw [hb12]))) ?_
     intro a hA
     refine seq_do hA rfl rfl rfl (does_assign rfl) ?_
     intro a hA
     refine seq_end ?_
     refine hK11 _ _ ?_
     refine wp_cond_false (hA.ev rfl) ?_
     refine wp_skip ?_
     refine hK6 _ _ ?_
     refine wp_seq_k (fun K15 hK15 => ?_)
     refine wp_region_lit ?_
     refine seq_do hA rfl rfl rfl (m_loadS hM Wf_isS_37 rfl 1 rfl (cs := [.slice sF fs.length cF_, .slice sI il.length cI, .slice sO ol.length cO]) rfl rfl) ?_
     intro a hA
     refine seq_call hA rfl rfl rfl (enters_func rfl rfl (fun w => by kernel_rfl)) (copied_any (cF_ := cF_) (cI := cI) (cO := cO) (hF.below hM.bel) (hI.below hM.bel) (hO.below hM.bel) hb8) ?_
     rintro _ w27 ⟨g16, vI17, vO18, rfl, hOw19⟩
     obtain ⟨gs, D, hM22, hGD, hgr, hnD⟩ := hOw19
     obtain ⟨sI23, cI24, rfl⟩ := owns_sliceE (hM22.has 1 rfl)
     obtain ⟨sO25, cO26, rfl⟩ := owns_sliceE (hM22.has 2 rfl)
     have hgl : gs.length = fs.length := by rw [← hgr, readF_len]
     replace hM : Mg w w27 (.row 88 2 (.slice (some ⟨g16, 0, none⟩) fs.length fs.length) fs.length ((cellsF gs)) :: .row BY 1 (.slice sI23 il.length cI24) il.length ((Lib.byteCells il)) :: .row BY 1 (.slice sO25 ol.length cO26) ol.length ((Lib.byteCells ol)) :: .obj g4 (.cells #[.slice none 0 0, .slice none 0 0, .slice none 0 0] 37) :: .obj g2 (.cells #[.slice sF fs.length cF_, .slice sI il.length cI, .slice sO ol.length cO] 37) :: D) := ((hM.both hM22 (noBld_cons (by simp) (noBld_cons (by simp) (noBld_quiet quietL_nil))) (noBld_cons (by simp) (noBld_cons (by simp) (noBld_cons (by simp) hnD)))).perm (perm_own _ _ _ _ _))
     refine ⟨_, rfl, ?_⟩
     intro a hA
     refine s_new (vs := [.slice none 0 0, .slice none 0 0, .slice none 0 0]) (t := 37) hA hM rfl rfl rfl (fun g => .pointer (some ⟨g, 0, none⟩)) (does_alloc (z := .agg #[.slice none 0 0, .slice none 0 0, .slice none 0 0]) (by kernel_rfl) rfl) (by decide) ?_
     intro g28 w29 hM a hA
     refine s_store (us := [.slice (some ⟨g16, 0, none⟩) fs.length fs.length, .slice sI23 il.length cI24, .slice sO25 ol.length cO26]) (L' := (.obj g28 (.cells #[.slice (some ⟨g16, 0, none⟩) fs.length fs.length, .slice sI23 il.length cI24, .slice sO25 ol.length cO26] 37) :: .row 88 2 (.slice (some ⟨g16, 0, none⟩) fs.length fs.length) fs.length ((cellsF gs)) :: .row BY 1 (.slice sI23 il.length cI24) il.length ((Lib.byteCells il)) :: .row BY 1 (.slice sO25 ol.length cO26) ol.length ((Lib.byteCells ol)) :: .obj g4 (.cells #[.slice none 0 0, .slice none 0 0, .slice none 0 0] 37) :: .obj g2 (.cells #[.slice sF fs.length cF_, .slice sI il.length cI, .slice sO ol.length cO] 37) :: D)) hA hM rfl rfl (m_store rfl rfl rfl (by kernel_rfl) hM 0 rfl rfl rfl) 0 rfl rfl rfl ?_
     intro w30 hM
     refine seq_end ?_
     refine hK15 _ _ ?_
     refine wp_seq_k (fun K31 hK31 => ?_)
     refine wp_region_lit ?_
     refine seq_do (v := .pointer (some ⟨g2, 2, none⟩)) hA rfl rfl rfl (does_field Wf_fld_37_2 rfl rfl) ?_
     intro a hA
     refine seq_do hA rfl rfl rfl (m_load1 hM Wf_is1_24 rfl 5 rfl rfl) ?_
     intro a hA
     refine seq_do hA rfl rfl rfl (does_move rfl) ?_
     intro a hA
     refine s_litE (e := 24) (sz := 1) (m := 2) (vs := [.slice sO ol.length cO, .slice so d.length cd]) hA hM rfl rfl rfl (does_buildSlice rfl (by kernel_rfl)) rfl rfl (.inl (by decide)) ?_
     intro g32 w33 hM a hA
     refine seq_call hA rfl rfl rfl (enters_func rfl rfl (fun w => by kernel_rfl)) (concat2_any (noBld_cons (by simp) (noBld_cons (by simp) (noBld_cons (by simp) (noBld_cons (by simp) (noBld_cons (by simp) (noBld_cons (by simp) hnD)))))) hO hb (by omega) hM) ?_
     rintro _ w38 ⟨v34, rfl, hM35⟩
     obtain ⟨so36, ca37, rfl⟩ := owns_sliceE (hM35.has 0 rfl)
     replace hM : Mg w w38 (.row BY 1 (.slice so36 ((ol ++ d).length) ca37) ((ol ++ d).length) ((Lib.byteCells (ol ++ d))) :: .obj g28 (.cells #[.slice (some ⟨g16, 0, none⟩) fs.length fs.length, .slice sI23 il.length cI24, .slice sO25 ol.length cO26] 37) :: .row 88 2 (.slice (some ⟨g16, 0, none⟩) fs.length fs.length) fs.length ((cellsF gs)) :: .row BY 1 (.slice sI23 il.length cI24) il.length ((Lib.byteCells il)) :: .row BY 1 (.slice sO25 ol.length cO26) ol.length ((Lib.byteCells ol)) :: .obj g4 (.cells #[.slice none 0 0, .slice none 0 0, .slice none 0 0] 37) :: .obj g2 (.cells #[.slice sF fs.length cF_, .slice sI il.length cI, .slice sO ol.length cO] 37) :: D) := hM35
     refine ⟨_, rfl, ?_⟩
     intro a hA
     refine seq_do (v := .pointer (some ⟨g28, 2, none⟩)) hA rfl rfl rfl (does_field Wf_fld_37_2 rfl rfl) ?_
     intro a hA
     refine s_store (us := [.slice (some ⟨g16, 0, none⟩) fs.length fs.length, .slice sI23 il.length cI24, .slice so36 ((ol ++ d).length) ca37]) (L' := (.row BY 1 (.slice so36 ((ol ++ d).length) ca37) ((ol ++ d).length) ((Lib.byteCells (ol ++ d))) :: .obj g28 (.cells #[.slice (some ⟨g16, 0, none⟩) fs.length fs.length, .slice sI23 il.length cI24, .slice so36 ((ol ++ d).length) ca37] 37) :: .row 88 2 (.slice (some ⟨g16, 0, none⟩) fs.length fs.length) fs.length ((cellsF gs)) :: .row BY 1 (.slice sI23 il.length cI24) il.length ((Lib.byteCells il)) :: .row BY 1 (.slice sO25 ol.length cO26) ol.length ((Lib.byteCells ol)) :: .obj g4 (.cells #[.slice none 0 0, .slice none 0 0, .slice none 0 0] 37) :: .obj g2 (.cells #[.slice sF fs.length cF_, .slice sI il.length cI, .slice sO ol.length cO] 37) :: D)) hA hM rfl rfl (m_store rfl rfl rfl (by kernel_rfl) hM 1 rfl rfl rfl) 1 rfl rfl rfl ?_
     intro w39 hM
     refine seq_end ?_
     refine hK31 _ _ ?_
     refine wp_seq_k (fun K40 hK40 => ?_)
     refine wp_region_lit ?_
     refine seq_do hA rfl rfl rfl (m_loadS hM Wf_isS_37 rfl 1 rfl (cs := [.slice (some ⟨g16, 0, none⟩) fs.length fs.length, .slice sI23 il.length cI24, .slice so36 ((ol ++ d).length) ca37]) rfl rfl) ?_
     intro a hA
     refine s_store (us := [.slice (some ⟨g16, 0, none⟩) fs.length fs.length, .slice sI23 il.length cI24, .slice so36 ((ol ++ d).length) ca37]) (L' := (.row BY 1 (.slice so36 ((ol ++ d).length) ca37) ((ol ++ d).length) ((Lib.byteCells (ol ++ d))) :: .obj g28 (.cells #[.slice (some ⟨g16, 0, none⟩) fs.length fs.length, .slice sI23 il.length cI24, .slice so36 ((ol ++ d).length) ca37] 37) :: .row 88 2 (.slice (some ⟨g16, 0, none⟩) fs.length fs.length) fs.length ((cellsF gs)) :: .row BY 1 (.slice sI23 il.length cI24) il.length ((Lib.byteCells il)) :: .row BY 1 (.slice sO25 ol.length cO26) ol.length ((Lib.byteCells ol)) :: .obj g4 (.cells #[.slice (some ⟨g16, 0, none⟩) fs.length fs.length, .slice sI23 il.length cI24, .slice so36 ((ol ++ d).length) ca37] 37) :: .obj g2 (.cells #[.slice sF fs.length cF_, .slice sI il.length cI, .slice sO ol.length cO] 37) :: D)) hA hM rfl rfl (m_store rfl rfl rfl (by kernel_rfl) hM 5 rfl rfl rfl) 5 rfl rfl rfl ?_
     intro w41 hM
     refine seq_do hA rfl rfl rfl (does_assign rfl) ?_
     intro a hA
     refine seq_end ?_
     refine hK40 _ _ ?_
     refine wp_ret ?_
     refine hret _ _ ?_
     refine ends (v := .tuple #[.agg #[.slice (some ⟨g16, 0, none⟩) fs.length fs.length, .slice sI23 il.length cI24, .slice so36 ((ol ++ d).length) ca37], .int .i64 0]) hA rfl (.cons (res_cellS hM Wf_isS_37 rfl 5 rfl (cs := [.slice (some ⟨g16, 0, none⟩) fs.length fs.length, .slice sI23 il.length cI24, .slice so36 ((ol ++ d).length) ca37]) rfl rfl) (.cons (res_tmp rfl) .nil)) rfl ?_
     rw [show sayR d fs il ol = (0, fs, il, ol ++ d) from by unfold sayR; rw [if_neg (by rw [hb8]; decide), if_neg (by omega)]]
     exact ret_own hM (noBld_cons (by simp) (noBld_cons (by simp) (noBld_cons (by simp) (noBld_cons (by simp) (noBld_cons (by simp) (noBld_cons (by simp) (noBld_cons (by simp) hnD))))))) (mem_at (k := 2) rfl) (mem_at (k := 3) rfl) (mem_at (k := 0) rfl) (gs_same hGD (fun c hc => (List.mem_cons_of_mem _ (List.mem_cons_of_mem _ (List.mem_cons_of_mem _ (List.mem_cons_of_mem _ (List.mem_cons_of_mem _ (List.mem_cons_of_mem _ (List.mem_cons_of_mem _ hc))))))))) hgr rfl
 · refine seq_call hA rfl rfl rfl (enters_func rfl rfl (fun w => by kernel_rfl)) (sound_as (hF.below hM.bel) hn hb8) ?_
   rintro _ w43 ⟨rfl, hb42⟩
   replace hM := hM.call hb42
   refine ⟨_, rfl, ?_⟩
   intro a hA
   refine seq_do (v := .bool true) hA rfl rfl rfl (does_un rfl un_not) ?_
   intro a hA
   refine seq_do hA rfl rfl rfl (does_assign rfl) ?_
   intro a hA
   refine seq_end ?_
   refine hK7 _ _ ?_
   refine wp_cond_true (hA.ev rfl) ?_
   refine wp_seq_k (fun K44 hK44 => ?_)
   refine wp_region_lit ?_
   refine seq_do (v := .agg #[.slice none 0 0, .slice none 0 0, .slice none 0 0]) hA rfl rfl rfl (does_build rfl (fun w => by kernel_rfl)) ?_
   intro a hA
   refine s_store (us := [.slice none 0 0, .slice none 0 0, .slice none 0 0]) (L' := (.obj g4 (.cells #[.slice none 0 0, .slice none 0 0, .slice none 0 0] 37) :: .obj g2 (.cells #[.slice sF fs.length cF_, .slice sI il.length cI, .slice sO ol.length cO] 37) :: [])) hA hM rfl rfl (m_store rfl rfl rfl (by kernel_rfl) hM 0 rfl rfl rfl) 0 rfl rfl rfl ?_
   intro w45 hM
   refine seq_do hA rfl rfl rfl (does_assign rfl) ?_
   intro a hA
   refine seq_end ?_
   refine hK44 _ _ ?_
   refine wp_ret ?_
   refine hret _ _ ?_
   refine ends (v := .tuple #[.agg #[.slice none 0 0, .slice none 0 0, .slice none 0 0], .int .i64 2]) hA rfl (.cons (res_cellS hM Wf_isS_37 rfl 0 rfl (cs := [.slice none 0 0, .slice none 0 0, .slice none 0 0]) rfl rfl) (.cons (res_tmp rfl) .nil)) rfl ?_
   rw [show sayR d fs il ol = (2, [], [], []) from by unfold sayR; rw [if_pos hb8]]
   exact ret_zero hM
end Go.Proofs.Ytcjgjbaadmohbaa
