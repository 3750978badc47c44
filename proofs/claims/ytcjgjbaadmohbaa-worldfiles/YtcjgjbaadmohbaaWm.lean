/- What the laws of world ask: worlds that are pieces, and their sizes; awake. -/
import Derived.Test.YtcjgjbaadmohbaaWl
import Derived.Lib.SlBytesConst
namespace Go.Proofs.Ytcjgjbaadmohbaa
open Go.RowKit
set_option linter.unusedVariables false
set_option linter.unusedSimpArgs false
set_option maxRecDepth 100000
theorem Wm_isS_37 : IsS Try.prog 37 3 := ⟨⟨_, Try.underlying37⟩, by kernel_rfl⟩
open Go.Lib
theorem RwD.facts {w0 w : World} {L : List Ck} (hM : Mg w0 w L) {sF sI sO : Option Addr} {nF nI nO cF cI cO : Nat} {fs : List Fl} {il ol : List UInt8} (h : RwD L (.agg #[.slice sF nF cF, .slice sI nI cI, .slice sO nO cO]) fs il ol) : Rf w sF fs ∧ Rb w sI il ∧ Rb w sO ol ∧ il.length ≤ cI := by
  obtain ⟨_, _, _, _, _, _, hV, h1, h2, h3, h4, _⟩ := RwD.open_ hM h
  cases hV
  exact ⟨h1, h2, h3, h4⟩
theorem rb_of {w0 w : World} {L : List Ck} (hM : Mg w0 w L) {so : Option Addr} {n cap : Nat} {bs : List UInt8} (h : Ck.row BY 1 (.slice so n cap) bs.length (Lib.byteCells bs) ∈ L) : Rb w so bs := by
  obtain ⟨_, _, hV, h1, _⟩ := rb_mem hM h
  cases hV
  exact h1
theorem rb_nil {w : World} : Rb w none [] := ⟨fun k => absurd rfl k⟩
theorem grow {w0 w w' : World} (X : List Ck) {D L9 : List Ck} (hM : Mg w0 w (X ++ D)) (h : Mg w w' L9) (hn : noBld (X ++ D)) (hn9 : noBld L9) : ∃ D2, Mg w0 w' (X ++ D2) ∧ noBld D2 ∧ (∀ c ∈ D, c ∈ D2) ∧ ∀ c ∈ L9, c ∈ D2 := by
  refine ⟨D ++ L9, ?_, fun c hc => ?_, fun c hc => List.mem_append_left _ hc, fun c hc => List.mem_append_right _ hc⟩
  · rw [← List.append_assoc]; exact (hM.both h hn hn9).perm List.perm_append_comm
  · rcases List.mem_append.1 hc with hc | hc
    · exact hn c (List.mem_append_right _ hc)
    · exact hn9 c hc
theorem growZ {w0 w : World} (X : List Ck) {D : List Ck} (hM : Mg w0 w (X ++ D)) (hn : noBld (X ++ D)) : ∃ D2, Mg w0 w (X ++ D2) ∧ noBld D2 ∧ (∀ c ∈ D, c ∈ D2) ∧ RwD D2 (.agg #[.slice none 0 0, .slice none 0 0, .slice none 0 0]) [] [] [] := by
  obtain ⟨L, h1, h2, h3⟩ := zeroW (Mg.start w)
  obtain ⟨D2, g1, g2, g3, g4⟩ := grow X hM h1 hn h2
  exact ⟨D2, g1, g2, g3, h3.mono g4⟩
theorem OwnW.rwd {w w' : World} {fs : List Fl} {il ol : List UInt8} {vF vI vO : Value} (h : OwnW w w' fs il ol vF vI vO) : ∃ L, Mg w w' L ∧ noBld L ∧ RwD L (.agg #[vF, vI, vO]) fs il ol := by
  obtain ⟨gs, D, h1, h2, h3, h4⟩ := h
  exact ⟨_, h1, noBld_cons (by simp) (noBld_cons (by simp) (noBld_cons (by simp) h4)), vF, vI, vO, gs, rfl, mem_at (k := 0) rfl, mem_at (k := 1) rfl, mem_at (k := 2) rfl, fun q hq => List.mem_cons_of_mem _ (List.mem_cons_of_mem _ (List.mem_cons_of_mem _ (h2 q hq))), h3⟩
theorem putF_mem {n : ByteArray} {d : List UInt8} {f : Fl} : ∀ {fs : List Fl}, f ∈ putF n d fs → f = (n, d) ∨ f ∈ fs
  | [], h => by simp [putF] at h; exact .inl h
  | g :: fs, h => by
    unfold putF at h
    split at h
    · rcases List.mem_cons.1 h with h | h
      · exact .inr (by rw [h]; exact List.mem_cons_self)
      · rcases putF_mem h with h | h
        · exact .inl h
        · exact .inr (List.mem_cons_of_mem _ h)
    · split at h
      · rcases List.mem_cons.1 h with h | h
        · exact .inl h
        · exact .inr (List.mem_cons_of_mem _ h)
      · rcases List.mem_cons.1 h with h | h
        · exact .inl h
        · exact .inr h
theorem putF_le {n : ByteArray} {d : List UInt8} : ∀ (fs : List Fl), (putF n d fs).length ≤ fs.length + 1
  | [] => by simp [putF]
  | g :: fs => by
    unfold putF
    split
    · have := putF_le (n := n) (d := d) fs
      simp only [List.length_cons]; omega
    · split <;> simp only [List.length_cons] <;> omega
theorem lookF_mem {n : ByteArray} {d : List UInt8} : ∀ {fs : List Fl}, lookF n fs = some d → ∃ f ∈ fs, f.2 = d
  | [], h => by cases h
  | g :: fs, h => by
    unfold lookF at h
    split at h
    · cases h; exact ⟨g, List.mem_cons_self, rfl⟩
    · obtain ⟨f, h1, h2⟩ := lookF_mem h
      exact ⟨f, List.mem_cons_of_mem _ h1, h2⟩
theorem sound_mem {fs : List Fl} {il ol : List UInt8} (h : soundS fs il ol = true) {f : Fl} (hf : f ∈ fs) : f.2.length ≤ 65536 := by
  obtain ⟨i, hi⟩ := List.mem_iff_getElem?.1 hf
  exact (sound_file h (fn := f.1) (fd := f.2) hi).2.2
theorem Bd.put {nm : ByteArray} {d : List UInt8} {fs : List Fl} {il ol : List UInt8} (h : soundS fs il ol = true) (hd : d.length ≤ 65536) : Bd (putF nm d fs) il ol := by
  have h1 := sound_parts h
  have h2 := putF_le (n := nm) (d := d) fs
  refine ⟨by omega, by omega, by omega, fun f hf => ?_⟩
  rcases putF_mem hf with rfl | hf
  · show d.length ≤ _; omega
  · have := sound_mem h hf; omega
def BdR (R : WS) : Prop := Bd R.2.1 R.2.2.1 R.2.2.2
theorem not_f {b : Bool} (h : ¬ b = false) : b = true := by cases b <;> simp at h ⊢
theorem bd_put {nm : ByteArray} {d : List UInt8} {fs : List Fl} {il ol : List UInt8} : BdR (putR nm d fs il ol) := by
  unfold putR
  split
  · exact Bd.zero
  · split
    · exact Bd.zero
    · split
      · exact Bd.zero
      · split
        · exact Bd.zero
        · exact Bd.put (not_f (by assumption)) (by omega)
theorem bd_del {nm : ByteArray} {fs : List Fl} {il ol : List UInt8} : BdR (delR nm fs il ol) := by
  unfold delR
  split
  · exact Bd.zero
  · split
    · exact Bd.zero
    · have hs := not_f (by assumption)
      have h1 := sound_parts hs
      have h2 : (delF nm fs).length ≤ fs.length := List.length_filter_le _ _
      refine ⟨?_, ?_, ?_, fun f hf => ?_⟩
      · show (delF nm fs).length * 40 ≤ _; omega
      · show il.length ≤ _; omega
      · show ol.length ≤ _; omega
      · have := sound_mem hs (List.mem_filter.1 hf).1; omega
theorem bd_wr {nm : ByteArray} {z : Int} {d : List UInt8} {fs : List Fl} {il ol : List UInt8} : BdR (wrR nm z d fs il ol) := by
  unfold wrR
  split
  · exact Bd.zero
  · split
    · exact Bd.zero
    · rename_i hs _ fd hl
      split
      · exact Bd.zero
      · split
        · exact Bd.zero
        · have hs := not_f hs
          obtain ⟨f, hf, rfl⟩ := lookF_mem hl
          have := sound_mem hs hf
          refine Bd.put hs ?_
          unfold wrD
          rw [List.length_append, List.length_append, List.length_take, List.length_drop]
          omega
theorem bd_take {z : Int} {fs : List Fl} {il ol : List UInt8} : BdR (takeR z fs il ol).2 := by
  unfold takeR
  split
  · exact Bd.zero
  · split
    · exact Bd.zero
    · split
      · exact Bd.zero
      · have hs := not_f (by assumption)
        have h1 := Bd.sound hs
        refine ⟨h1.1, ?_, h1.2.2.1, h1.2.2.2⟩
        have := h1.2.1
        show (il.drop z.toNat).length ≤ _
        rw [List.length_drop]; omega
theorem bd_taken {z : Int} {fs : List Fl} {il ol : List UInt8} : (takeR z fs il ol).1.length ≤ 140737488351232 := by
  unfold takeR
  split
  · exact Nat.zero_le _
  · split
    · exact Nat.zero_le _
    · split
      · exact Nat.zero_le _
      · have h1 := (Bd.sound (not_f (by assumption))).2.1
        show (il.take z.toNat).length ≤ _
        rw [List.length_take]; omega
theorem bd_say {d : List UInt8} {fs : List Fl} {il ol : List UInt8} : BdR (sayR d fs il ol) := by
  unfold sayR
  split
  · exact Bd.zero
  · split
    · exact Bd.zero
    · have h1 := Bd.sound (not_f (by assumption))
      refine ⟨h1.1, h1.2.1, ?_, h1.2.2.2⟩
      show (ol ++ d).length ≤ _
      rw [List.length_append]; omega
theorem bd_got {nm : ByteArray} {fs : List Fl} {il ol : List UInt8} (h : Bd fs il ol) : (getR nm fs il ol).2.length ≤ 140737488351232 := by
  unfold getR
  split
  · exact Nat.zero_le _
  · split
    · exact Nat.zero_le _
    · rename_i fd hl
      obtain ⟨f, hf, rfl⟩ := lookF_mem hl
      exact h.2.2.2 f hf
/-- A step: its kind, a number, a name, bytes. -/
abbrev Op4 := Int × Int × ByteArray × List UInt8
/-- A slice of steps reads as these. -/
structure Ro (w : World) (so : Option Addr) (os : List Op4) : Prop where
  pos : ∀ j q, os[j]? = some q → ∃ b off sj cj, so = some ⟨b, off, none⟩ ∧ b < w.heap.size ∧ w.cell? ⟨b, off + j * 4, none⟩ = some (.int .i64 q.1) ∧ w.cell? ⟨b, off + j * 4 + 1, none⟩ = some (.int .i64 q.2.1) ∧ w.cell? ⟨b, off + j * 4 + 2, none⟩ = some (.string q.2.2.1) ∧ w.cell? ⟨b, off + j * 4 + 3, none⟩ = some (.slice sj q.2.2.2.length cj) ∧ Rb w sj q.2.2.2 ∧ q.2.2.2.length ≤ 140737488351232
theorem op_get {os : List Op4} {i : Nat} (h : i < os.length) : ∃ kd nn nm d, os[i]? = some (kd, nn, nm, d) := ⟨_, _, _, _, List.getElem?_eq_getElem h⟩
section
variable {P : Program} {w0 w w' : World} {v : Value} {L : List Ck} {l : List (Nat × Value)} {dst : Option Tmp} {ty : TypeId} {pos : String} {after : Array Edge} {guard : Option (Nat × Bool)}
theorem m_loadR4 (hM : Mg w0 w L) {b o : Nat} (hlt : b < w0.heap.size) {u v y z : Value} (h0 : w0.cell? ⟨b, o, none⟩ = some u) (h1 : w0.cell? ⟨b, o + 1, none⟩ = some v) (h2 : w0.cell? ⟨b, o + 2, none⟩ = some y) (h3 : w0.cell? ⟨b, o + 3, none⟩ = some z) {t : TypeId} (ht : IsS P t 4) {x : Operand} (hx : ev l x = some (.pointer (some ⟨b, o, none⟩))) : Does P l ⟨dst, .load t x, ty, pos, after, guard⟩ w (.agg #[u, v, y, z]) w :=
  does_load hx (run_loadS ht [u, v, y, z] rfl (fun j k hj => by
    match j, hj with
    | 0, hj => cases hj; exact (hM.bel.cell hlt).trans h0
    | 1, hj => cases hj; exact (hM.bel.cell hlt).trans h1
    | 2, hj => cases hj; exact (hM.bel.cell hlt).trans h2
    | 3, hj => cases hj; exact (hM.bel.cell hlt).trans h3
    | j + 4, hj => simp at hj))
theorem does_convC {s d : TypeId} {x : Operand} {u : Value} (hx : ev l x = some u) (hr : (convert s d u).run P w = .ok v w') : Does P l ⟨dst, .convert s d x, ty, pos, after, guard⟩ w v w' := fun ρ h => by
  simp only [execOp, h x _ hx, Sem.run_bind, hr, Result.andThen_ok, Sem.run_pure]
end
theorem rb_xy {w : World} : Rb (w.alloc (.cells #[.int .u8 120, .int .u8 121] BY (2, 3))) (some ⟨w.heap.size, 0, none⟩) [120, 121] := by
  refine ⟨fun _ => ⟨w.heap.size, 0, rfl, (Array.getElem?_eq_some_iff.1 (heap_alloc_new w _)).1, fun j hj => ?_⟩⟩
  rw [cell_of_row _ _ _ _ _ _ (heap_alloc_new w _), Nat.zero_add]
  match j, hj with
  | 0, _ => rfl
  | 1, _ => rfl
theorem awake_put : putR ⟨#[97]⟩ [120, 121] [] [] [] = (0, [(⟨#[97]⟩, [120, 121])], [], []) := by decide
theorem awake_get : getR ⟨#[97]⟩ [(⟨#[97]⟩, [120, 121])] [] [] = (0, [120, 121]) := by decide
theorem awake_any {w : World} : Calls Try.prog 15 #[] w fun e w' => e = .returned (.bool true) ∧ Below w.heap.size w w' := by
 have hM : Mg w w ([]) := Mg.start w
 refine walk_of (l := []) Try.func15 rfl Try.ntmps15 rfl rfl ?_
 intro Q hret hnorm hP a hA
 refine wp_seq_k (fun K1 hK1 => ?_)
 refine wp_region_lit ?_
 refine seq_do hA rfl rfl rfl (does_assign rfl) ?_
 intro a hA
 refine seq_end ?_
 refine hK1 _ _ ?_
 refine wp_seq_k (fun K2 hK2 => ?_)
 refine wp_region_lit ?_
 refine seq_do (v := .agg #[.slice none 0 0, .slice none 0 0, .slice none 0 0]) hA rfl rfl rfl (does_build rfl (fun w => by kernel_rfl)) ?_
 intro a hA
 refine seq_do (v := .slice (some ⟨w.heap.size, 0, none⟩) 2 2) hA rfl rfl rfl (does_buildSlice (w' := w.alloc (.cells #[.int .u8 120, .int .u8 121] BY)) rfl (by kernel_rfl)) ?_
 intro a hA
 refine seq_do (v := .slice (some ⟨w.heap.size, 0, none⟩) 2 2) hA rfl rfl rfl (does_convC rfl (Lib.run_convert_bytes_const w 24 BY #[.int .u8 120, .int .u8 121] 2 2 Try.underlying24 Try.underlying5)) ?_
 intro a hA
 replace hM : Mg w (w.alloc (.cells #[.int .u8 120, .int .u8 121] BY (2, 3))) [] := hM.call ((Below.refl _ w).alloc (Nat.le_refl _) _)
 refine seq_call hA rfl rfl rfl (enters_func rfl rfl (fun w => by kernel_rfl)) ((show Calls Try.prog 17 _ _ (fun e w' => RetW _ e w' (0, [(⟨#[97]⟩, [120, 121])], [], [])) from awake_put ▸ put_any (d := [120, 121]) (cd := 2) (cF_ := 0) (cI := 0) (cO := 0) (fs := []) (il := []) (ol := []) (nm := ⟨#[97]⟩) (Rf.nil _ none) rb_nil rb_nil (by decide) rb_xy)) ?_
 rintro _ w11 ⟨V3, D, rfl, hM4, hnD, hR9⟩
 obtain ⟨sF5, cF6, sI7, cI8, sO9, cO10, rfl, _⟩ := RwD.open_ hM4 hR9
 replace hM : Mg w w11 (D) := (hM.both hM4 (noBld_quiet quietL_nil) hnD).perm (by simp)
 refine ⟨_, rfl, ?_⟩
 intro a hA
 refine seq_do hA rfl rfl rfl (does_move rfl) ?_
 intro a hA
 refine seq_do (v := .agg #[.slice sF5 1 cF6, .slice sI7 0 cI8, .slice sO9 0 cO10]) hA rfl rfl rfl (does_extract (vs := [.agg #[.slice sF5 1 cF6, .slice sI7 0 cI8, .slice sO9 0 cO10], .int .i64 0]) rfl rfl) ?_
 intro a hA
 refine seq_do (v := .int .i64 0) hA rfl rfl rfl (does_extract (vs := [.agg #[.slice sF5 1 cF6, .slice sI7 0 cI8, .slice sO9 0 cO10], .int .i64 0]) rfl rfl) ?_
 intro a hA
 refine s_new (vs := [.slice none 0 0, .slice none 0 0, .slice none 0 0]) (t := 37) hA hM rfl rfl rfl (fun g => .pointer (some ⟨g, 0, none⟩)) (does_alloc (z := .agg #[.slice none 0 0, .slice none 0 0, .slice none 0 0]) (by kernel_rfl) rfl) (by decide) ?_
 intro g12 w13 hM a hA
 refine s_store (us := [.slice sF5 1 cF6, .slice sI7 0 cI8, .slice sO9 0 cO10]) (L' := (.obj g12 (.cells #[.slice sF5 1 cF6, .slice sI7 0 cI8, .slice sO9 0 cO10] 37) :: D)) hA hM rfl rfl (m_store rfl rfl rfl (by kernel_rfl) hM 0 rfl rfl rfl) 0 rfl rfl rfl ?_
 intro w14 hM
 refine seq_do hA rfl rfl rfl (does_assign rfl) ?_
 intro a hA
 refine seq_end ?_
 refine hK2 _ _ ?_
 refine wp_seq_k (fun K15 hK15 => ?_)
 refine wp_seq_k (fun K16 hK16 => ?_)
 refine wp_region_lit ?_
 refine seq_do hA rfl rfl rfl (does_move rfl) ?_
 intro a hA
 refine seq_do (v := .bool false) hA rfl rfl rfl (does_bin rfl rfl (fun w => by kernel_rfl)) ?_
 intro a hA
 refine seq_end ?_
 refine hK16 _ _ ?_
 refine wp_cond_false (hA.ev rfl) ?_
 refine wp_skip ?_
 refine hK15 _ _ ?_
 refine wp_seq_k (fun K17 hK17 => ?_)
 refine wp_region_lit ?_
 refine seq_do hA rfl rfl rfl (m_loadS hM Wm_isS_37 rfl 0 rfl (cs := [.slice sF5 1 cF6, .slice sI7 0 cI8, .slice sO9 0 cO10]) rfl rfl) ?_
 intro a hA
 refine seq_call hA rfl rfl rfl (enters_func rfl rfl (fun w => by kernel_rfl)) ((show Calls Try.prog 27 _ _ (fun e w' => ∃ v, e = .returned (.tuple #[v, .int .i64 0]) ∧ Mg _ w' [.row BY 1 v 2 (Lib.byteCells ([120, 121] : List UInt8))]) from (by have h7 := RwD.facts hM (hR9.mono (fun c hc => (List.mem_cons_of_mem _ hc))); have h8 := get_any (fs := [(⟨#[97]⟩, [120, 121])]) (il := []) (ol := []) (nm := ⟨#[97]⟩) (cF_ := cF6) (cI := cI8) (cO := cO10) h7.1 h7.2.1 h7.2.2.1 (by decide); rw [awake_get] at h8; exact h8))) ?_
 rintro _ w25 ⟨v18, rfl, hM19⟩
 obtain ⟨so20, ca21, rfl⟩ := owns_sliceE (hM19.has 0 rfl)
 replace hM : Mg w w25 (.row BY 1 (.slice so20 2 ca21) 2 ((Lib.byteCells ([120, 121] : List UInt8))) :: .obj g12 (.cells #[.slice sF5 1 cF6, .slice sI7 0 cI8, .slice sO9 0 cO10] 37) :: D) := (hM.both hM19 (noBld_cons (by simp) hnD) (noBld_cons (by simp) (noBld_quiet quietL_nil)))
 refine ⟨_, rfl, ?_⟩
 intro a hA
 refine seq_do hA rfl rfl rfl (does_move rfl) ?_
 intro a hA
 refine seq_do (v := .slice so20 2 ca21) hA rfl rfl rfl (does_extract (vs := [.slice so20 2 ca21, .int .i64 0]) rfl rfl) ?_
 intro a hA
 refine seq_do (v := .int .i64 0) hA rfl rfl rfl (does_extract (vs := [.slice so20 2 ca21, .int .i64 0]) rfl rfl) ?_
 intro a hA
 refine seq_do hA rfl rfl rfl (does_assign rfl) ?_
 intro a hA
 refine seq_do hA rfl rfl rfl (does_assign rfl) ?_
 intro a hA
 refine seq_end ?_
 refine hK17 _ _ ?_
 refine wp_seq_k (fun K26 hK26 => ?_)
 refine wp_region_lit ?_
 refine seq_do hA rfl rfl rfl (does_move rfl) ?_
 intro a hA
 refine seq_do (v := .bool true) hA rfl rfl rfl (does_bin rfl rfl (fun w => by kernel_rfl)) ?_
 intro a hA
 refine seq_do hA rfl rfl rfl (does_move rfl) ?_
 intro a hA
 refine seq_do hA rfl rfl rfl (does_move rfl) ?_
 intro a hA
 refine seq_do (v := .string (⟨#[120, 121]⟩)) hA rfl rfl rfl (does_convC rfl (conv_bytes Try.underlying24 Try.underlying5 Try.underlying9 (rb_row hM 0 rfl).1 ca21)) ?_
 intro a hA
 refine seq_do (v := .bool true) hA rfl rfl rfl (does_bin rfl rfl (fun w => by kernel_rfl)) ?_
 intro a hA
 refine seq_do (v := .bool true) hA rfl rfl rfl (does_pick rfl rfl rfl rfl) ?_
 intro a hA
 refine seq_do hA rfl rfl rfl (does_assign rfl) ?_
 intro a hA
 refine seq_end ?_
 refine hK26 _ _ ?_
 refine wp_ret ?_
 refine hret _ _ ?_
 refine ends (v := .bool true) hA rfl (.cons (res_tmp rfl) .nil) rfl ?_
 exact ⟨rfl, hM.bel⟩
end Go.Proofs.Ytcjgjbaadmohbaa
