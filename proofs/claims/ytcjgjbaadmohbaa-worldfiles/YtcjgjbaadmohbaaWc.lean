/- Walks of copies. -/
import Derived.Test.YtcjgjbaadmohbaaWb
import Derived.Lib.LazyBuf
namespace Go.Proofs.Ytcjgjbaadmohbaa
open Go.RowKit
set_option linter.unusedVariables false
set_option linter.unusedSimpArgs false
set_option maxRecDepth 100000
theorem Wc_is1_24 : Is1 Try.prog 24 := ⟨⟨_, Try.underlying24, rfl⟩, by kernel_rfl⟩
theorem Wc_is1_35 : Is1 Try.prog 35 := ⟨⟨_, Try.underlying35, rfl⟩, by kernel_rfl⟩
theorem Wc_is1_9 : Is1 Try.prog 9 := ⟨⟨_, Try.underlying9, rfl⟩, by kernel_rfl⟩
theorem Wc_fld_37_0 : FieldAt Try.prog 37 0 0 := ⟨_, _, Try.underlying37, rfl, rfl, by kernel_rfl⟩
theorem Wc_fld_37_1 : FieldAt Try.prog 37 1 1 := ⟨_, _, Try.underlying37, rfl, rfl, by kernel_rfl⟩
theorem Wc_fld_37_2 : FieldAt Try.prog 37 2 2 := ⟨_, _, Try.underlying37, rfl, rfl, by kernel_rfl⟩
theorem Wc_fld_88_0 : FieldAt Try.prog 88 0 0 := ⟨_, _, Try.underlying88, rfl, rfl, by kernel_rfl⟩
theorem Wc_fld_88_1 : FieldAt Try.prog 88 1 1 := ⟨_, _, Try.underlying88, rfl, rfl, by kernel_rfl⟩
theorem Wc_isS_37 : IsS Try.prog 37 3 := ⟨⟨_, Try.underlying37⟩, by kernel_rfl⟩
theorem Wc_isS_88 : IsS Try.prog 88 2 := ⟨⟨_, Try.underlying88⟩, by kernel_rfl⟩
open Go.Lib
theorem bin_eqlNil {P : Program} {t e : TypeId} {x y : Operand} {so : Option Addr} {n c : Nat} (hu : P.underlying t = some (.slice e)) : ∀ w, (do eqGuard .eql t x y (.slice so n c) (.slice none 0 0); binOp .eql t (.slice so n c) (.slice none 0 0) : Sem Value).run P w = .ok (.bool so.isNone) w := fun w => by
  have h := Lib.run_eql_slice_nil (P := P) w t e so n c 0 0 hu
  have g : (eqGuard .eql t x y (.slice so n c) (.slice none 0 0)).run P w = .ok () w := by simp [eqGuard]
  rw [Sem.run_bind, g, Result.andThen_ok, h]
theorem rb_none {w : World} {so : Option Addr} {l : List UInt8} (h : Rb w so l) (hn : so.isNone = true) : l = [] := by
  apply Classical.byContradiction
  intro k
  obtain ⟨b, off, rfl, _⟩ := h.pos k
  cases hn
theorem nil_row {w0 w : World} {L : List Ck} (h : Mg w0 w L) : Mg w0 w [.row BY 1 (.slice none 0 0) 0 []] := Mg.addNil (h.sub (List.nil_sublist _)) (by intro c hc; cases hc)
theorem owns_sliceE {w : World} {B : Nat} {e : TypeId} {sz : Nat} {v : Value} {n : Nat} {xs : List Value} (h : w.ownsRow B e sz v n xs) : ∃ so cap, v = .slice so n cap := by
  rcases h.2 with ⟨rfl, rfl⟩ | ⟨g, cap, cur, rfl, _⟩
  · exact ⟨none, 0, rfl⟩
  · exact ⟨_, cap, rfl⟩
theorem row_addr {w0 w : World} {L : List Ck} (hM : Mg w0 w L) (k : Nat) {e : TypeId} {sz n cap : Nat} {so : Option Addr} {xs : List Value} (hk : L[k]? = some (.row e sz (.slice so n cap) n xs)) (hn : 0 < n) : ∃ g, so = some ⟨g, 0, none⟩ := by
  rcases (hM.has k hk).2 with ⟨_, h0⟩ | ⟨g, cap', cur, he, _⟩
  · omega
  · cases he; exact ⟨g, rfl⟩
theorem sound_parts {fs : List Fl} {il ol : List UInt8} (h : soundS fs il ol = true) : fs.length ≤ 64 ∧ il.length ≤ 65536 ∧ ol.length ≤ 65536 ∧ risesF ⟨#[]⟩ fs = true := by
  unfold soundS at h
  simp only [Bool.and_eq_true, decide_eq_true_eq] at h
  exact ⟨h.1.1, h.1.2.1, h.1.2.2, h.2⟩
theorem sound_file {fs : List Fl} {il ol : List UInt8} (h : soundS fs il ol = true) {i : Nat} {fn : ByteArray} {fd : List UInt8} (hf : fs[i]? = some (fn, fd)) : 1 ≤ fn.size ∧ fn.size ≤ 255 ∧ fd.length ≤ 65536 := by
  have := ((rises_all fs _ (sound_parts h).2.2.2).1 _ (List.mem_of_getElem? hf)).2
  unfold okF namedB at this
  simp only [Bool.and_eq_true, decide_eq_true_eq] at this
  exact ⟨this.1.1, this.1.2, this.2⟩
theorem made_step {gs : List Gf} {mz : List Value} {i n : Nat} {q : Gf} (hg : gs.length = i) (hi : i < n) (hm : mz.length = n * 2) : over (cellsF gs ++ mz.drop (i * 2)) (i * 2) [.string q.1, q.2.1] = cellsF (gs ++ [q]) ++ mz.drop ((i + 1) * 2) := by
  have hl : (cellsF gs).length = i * 2 := by rw [cellsF_len, hg]
  rw [over_eq (by rw [List.length_append, List.length_drop, hl]; simp only [List.length_cons, List.length_nil]; omega)]
  rw [List.take_append_of_le_length (by omega), List.take_of_length_le (by omega), List.drop_append, List.drop_eq_nil_of_le (by omega), List.nil_append, List.drop_drop, cellsF_append]
  have e : i * 2 + (i * 2 + [Value.string q.1, q.2.1].length - (cellsF gs).length) = (i + 1) * 2 := by
    rw [hl]; simp only [List.length_cons, List.length_nil]; omega
  rw [e]
  rfl
theorem made_len (z : Value) (hz : z.cells.size = 2) (n : Nat) : (madeCells z.cells (n * 2)).toList.length = n * 2 := by
  rw [Array.length_toList, size_madeCells]
theorem gs_snoc {gs : List Gf} {D : List Ck} (h : GsD gs D) {fn : ByteArray} {v : Value} {fd : List UInt8} : GsD (gs ++ [(fn, v, fd)]) (.row BY 1 v fd.length (Lib.byteCells fd) :: D) := by
  intro q hq
  rcases List.mem_append.1 hq with hq | hq
  · exact List.mem_cons_of_mem _ (h q hq)
  · rw [List.mem_singleton] at hq
    subst hq
    exact List.mem_cons_self
theorem read_snoc {gs : List Gf} {fs : List Fl} {i : Nat} {fn : ByteArray} {v : Value} {fd : List UInt8} (h : readF gs = fs.take i) (hf : fs[i]? = some (fn, fd)) : readF (gs ++ [(fn, v, fd)]) = fs.take (i + 1) := by
  unfold readF at *
  rw [List.map_append, h, List.take_add_one, hf]
  rfl
theorem perm_rev3 (a b c : Ck) (D : List Ck) : (a :: b :: c :: D).Perm (c :: b :: a :: D) :=
  ((List.Perm.swap b a (c :: D)).trans ((List.Perm.swap c a D).cons b)).trans (List.Perm.swap c b (a :: D))
/-- Each word of a world of the call's own, and the bytes of its files. -/
def OwnW (w w' : World) (fs : List Fl) (il ol : List UInt8) (vF vI vO : Value) : Prop := ∃ (gs : List Gf) (D : List Ck), Mg w w' (.row 88 2 vF fs.length (cellsF gs) :: .row BY 1 vI il.length (Lib.byteCells il) :: .row BY 1 vO ol.length (Lib.byteCells ol) :: D) ∧ GsD gs D ∧ readF gs = fs ∧ noBld D
theorem clone_any {w : World} {so : Option Addr} {cap : Nat} {l : List UInt8} (hb : Rb w so l) (hl : l.length ≤ 140737488351232) : Calls Try.prog 63 #[.slice so l.length cap] w fun e w' => ∃ v, e = .returned v ∧ Mg w w' [.row BY 1 v l.length (Lib.byteCells l)] := by
 have hM : Mg w w ([]) := Mg.start w
 refine walk_of (l := [(0, .slice so l.length cap)]) Try.func63 rfl Try.ntmps63 rfl rfl ?_
 intro Q hret hnorm hP a hA
 refine wp_seq_k (fun K1 hK1 => ?_)
 refine wp_region_lit ?_
 refine seq_do hA rfl rfl rfl (does_assign rfl) ?_
 intro a hA
 refine seq_end ?_
 refine hK1 _ _ ?_
 refine wp_seq_k (fun K2 hK2 => ?_)
 refine wp_seq_k (fun K3 hK3 => ?_)
 refine wp_region_lit ?_
 refine seq_do hA rfl rfl rfl (does_move rfl) ?_
 intro a hA
 rcases Bool.eq_false_or_eq_true (so.isNone) with hb4 | hb4
 · refine seq_do (v := .bool true) hA rfl rfl rfl (does_bin rfl rfl (fun w => (bin_eqlNil Try.underlying24 w).trans (by rw [hb4]))) ?_
   intro a hA
   refine seq_end ?_
   refine hK3 _ _ ?_
   refine wp_cond_true (hA.ev rfl) ?_
   refine wp_seq_k (fun K5 hK5 => ?_)
   refine wp_region_lit ?_
   refine seq_do hA rfl rfl rfl (does_assign rfl) ?_
   intro a hA
   refine seq_end ?_
   refine hK5 _ _ ?_
   refine wp_ret ?_
   refine hret _ _ ?_
   refine ends (v := .slice none 0 0) hA rfl (.cons (res_tmp rfl) .nil) rfl ?_
   obtain rfl := rb_none hb hb4
   exact ⟨_, rfl, nil_row hM⟩
 · refine seq_do (v := .bool false) hA rfl rfl rfl (does_bin rfl rfl (fun w => (bin_eqlNil Try.underlying24 w).trans (by rw [hb4]))) ?_
   intro a hA
   refine seq_end ?_
   refine hK3 _ _ ?_
   refine wp_cond_false (hA.ev rfl) ?_
   refine wp_skip ?_
   refine hK2 _ _ ?_
   refine wp_seq_k (fun K6 hK6 => ?_)
   refine wp_region_lit ?_
   refine s_lit (vs := []) hA hM rfl rfl rfl (does_buildSlice rfl (by kernel_rfl)) rfl rfl (noBld_quiet quietL_nil) ?_
   intro g7 w8 hM a hA
   refine seq_do hA rfl rfl rfl (does_move rfl) ?_
   intro a hA
   refine s_append (k := 0) (q := 0) (m := l.length) (xs := []) (news := Lib.byteCells l) (L' := fun v9 => (.row BY 1 (v9) (0 + l.length) (([] ++ Lib.byteCells l)) :: [])) hA rfl rfl rfl (m_appendA Try.underlying24 (by kernel_rfl) hM 0 rfl rfl (hb.below hM.bel) rfl (by first | omega | (simp only [List.length_nil]; omega))) (fun _ => rfl) ?_
   intro v9 w10 hM a hA
   refine seq_do hA rfl rfl rfl (does_assign rfl) ?_
   intro a hA
   refine seq_end ?_
   refine hK6 _ _ ?_
   refine wp_ret ?_
   refine hret _ _ ?_
   refine ends (v := v9) hA rfl (.cons (res_tmp rfl) .nil) rfl ?_
   rw [Nat.zero_add, List.nil_append] at hM
   exact ⟨_, rfl, hM⟩
theorem sclone_any {w : World} {nm : ByteArray} (hn : nm.size ≤ 281474976710656) : Calls Try.prog 79 #[.string nm] w fun e w' => e = .returned (.string nm) ∧ Below w.heap.size w w' := by
 have hM : Mg w w ([]) := Mg.start w
 refine walk_of (l := [(0, .string nm)]) Try.func79 rfl Try.ntmps79 rfl rfl ?_
 intro Q hret hnorm hP a hA
 refine wp_seq_k (fun K1 hK1 => ?_)
 refine wp_region_lit ?_
 refine seq_do hA rfl rfl rfl (does_assign rfl) ?_
 intro a hA
 refine seq_end ?_
 refine hK1 _ _ ?_
 refine wp_seq_k (fun K2 hK2 => ?_)
 refine wp_region_lit ?_
 refine seq_do hA rfl rfl rfl (does_move rfl) ?_
 intro a hA
 refine seq_call hA rfl rfl rfl (enters_func rfl rfl (fun w => by kernel_rfl)) (Try.stringslite_Clone nm _ hn) ?_
 rintro _ w4 ⟨rfl, hb3⟩
 replace hM := hM.call hb3
 refine ⟨_, rfl, ?_⟩
 intro a hA
 refine seq_do hA rfl rfl rfl (does_assign rfl) ?_
 intro a hA
 refine seq_end ?_
 refine hK2 _ _ ?_
 refine wp_ret ?_
 refine hret _ _ ?_
 refine ends (v := .string nm) hA rfl (.cons (res_tmp rfl) .nil) rfl ?_
 exact ⟨rfl, hM.bel⟩
theorem newFile_any {w : World} {nm : ByteArray} {so : Option Addr} {cap : Nat} {l : List UInt8} (hn : nm.size ≤ 281474976710656) (hb : Rb w so l) (hl : l.length ≤ 140737488351232) : Calls Try.prog 56 #[.string nm, .slice so l.length cap] w fun e w' => ∃ v, e = .returned (.agg #[.string nm, v]) ∧ Mg w w' [.row BY 1 v l.length (Lib.byteCells l)] := by
 have hM : Mg w w ([]) := Mg.start w
 refine walk_of (l := [(0, .string nm), (1, .slice so l.length cap)]) Try.func56 rfl Try.ntmps56 rfl rfl ?_
 intro Q hret hnorm hP a hA
 refine wp_seq_k (fun K1 hK1 => ?_)
 refine wp_region_lit ?_
 refine s_new (vs := [.string (⟨#[]⟩), .slice none 0 0]) (t := 88) hA hM rfl rfl rfl (fun g => .pointer (some ⟨g, 0, none⟩)) (does_alloc (z := .agg #[.string (⟨#[]⟩), .slice none 0 0]) (by kernel_rfl) rfl) (by decide) ?_
 intro g2 w3 hM a hA
 refine seq_end ?_
 refine hK1 _ _ ?_
 refine wp_seq_k (fun K4 hK4 => ?_)
 refine wp_region_lit ?_
 refine seq_do hA rfl rfl rfl (does_move rfl) ?_
 intro a hA
 refine seq_call hA rfl rfl rfl (enters_func rfl rfl (fun w => by kernel_rfl)) (sclone_any hn) ?_
 rintro _ w6 ⟨rfl, hb5⟩
 replace hM := hM.call hb5
 refine ⟨_, rfl, ?_⟩
 intro a hA
 refine seq_do hA rfl rfl rfl (does_move rfl) ?_
 intro a hA
 refine seq_call hA rfl rfl rfl (enters_func rfl rfl (fun w => by kernel_rfl)) (clone_any (hb.below hM.bel) hl) ?_
 rintro _ w11 ⟨v7, rfl, hM8⟩
 obtain ⟨so9, ca10, rfl⟩ := owns_sliceE (hM8.has 0 rfl)
 replace hM : Mg w w11 (.row BY 1 (.slice so9 l.length ca10) l.length ((Lib.byteCells l)) :: .obj g2 (.cells #[.string (⟨#[]⟩), .slice none 0 0] 88) :: []) := (hM.both hM8 (noBld_cons (by simp) (noBld_quiet quietL_nil)) (noBld_cons (by simp) (noBld_quiet quietL_nil)))
 refine ⟨_, rfl, ?_⟩
 intro a hA
 refine seq_do (v := .agg #[.string nm, .slice so9 l.length ca10]) hA rfl rfl rfl (does_build rfl (fun w => by kernel_rfl)) ?_
 intro a hA
 refine s_store (us := [.string nm, .slice so9 l.length ca10]) (L' := (.row BY 1 (.slice so9 l.length ca10) l.length ((Lib.byteCells l)) :: .obj g2 (.cells #[.string nm, .slice so9 l.length ca10] 88) :: [])) hA hM rfl rfl (m_store rfl rfl rfl (by kernel_rfl) hM 1 rfl rfl rfl) 1 rfl rfl rfl ?_
 intro w12 hM
 refine seq_end ?_
 refine hK4 _ _ ?_
 refine wp_ret ?_
 refine hret _ _ ?_
 refine ends (v := .agg #[.string nm, .slice so9 l.length ca10]) hA rfl (.cons (res_cellS hM Wc_isS_88 rfl 1 rfl (cs := [.string nm, .slice so9 l.length ca10]) rfl rfl) .nil) rfl ?_
 exact ⟨_, rfl, hM.sub (.cons_cons _ (.cons _ (.refl _)))⟩
theorem does_indexX {P : Program} {w : World} {l : List (Nat × Value)} {dst : Option Tmp} {ty : TypeId} {pos : String} {after : Array Edge} {guard : Option (Nat × Bool)} {t e : TypeId} {sz : Nat} (hu : P.underlying t = some (.slice e)) (he : (P.info? e).map (·.size) = some sz) {x i : Operand} {so : Option Addr} {g n c k : Nat} {z : Int} (hx : ev l x = some (.slice so n c)) (hi : ev l i = some (.int .i64 z)) (hz : z = (k : Nat)) (hso : so = some ⟨g, 0, none⟩) (hk : k < n) :
    Does P l ⟨dst, .indexAddr t x i, ty, pos, after, guard⟩ w (.pointer (some ⟨g, k * sz, none⟩)) w := by
  subst hso
  exact does_indexE hu he hx hi hz hk
theorem copied_any {w : World} {sF sI sO : Option Addr} {cF_ cI cO : Nat} {fs : List Fl} {il ol : List UInt8} (hF : Rf w sF fs) (hI : Rb w sI il) (hO : Rb w sO ol) (hs : soundS fs il ol = true) : Calls Try.prog 54 #[.agg #[.slice sF fs.length cF_, .slice sI il.length cI, .slice sO ol.length cO]] w fun e w' => ∃ g vI vO, e = .returned (.agg #[.slice (some ⟨g, 0, none⟩) fs.length fs.length, vI, vO]) ∧ OwnW w w' fs il ol (.slice (some ⟨g, 0, none⟩) fs.length fs.length) vI vO := by
 have hsp := sound_parts hs
 have hM : Mg w w ([]) := Mg.start w
 refine walk_of (l := [(0, .agg #[.slice sF fs.length cF_, .slice sI il.length cI, .slice sO ol.length cO])]) Try.func54 rfl Try.ntmps54 rfl rfl ?_
 intro Q hret hnorm hP a hA
 refine wp_seq_k (fun K1 hK1 => ?_)
 refine wp_region_lit ?_
 refine s_new (vs := [.slice sF fs.length cF_, .slice sI il.length cI, .slice sO ol.length cO]) (t := 37) hA hM rfl rfl rfl (fun g => .pointer (some ⟨g, 0, none⟩)) (does_box rfl rfl) (by decide) ?_
 intro g2 w3 hM a hA
 refine s_new (vs := [.slice none 0 0, .slice none 0 0, .slice none 0 0]) (t := 37) hA hM rfl rfl rfl (fun g => .pointer (some ⟨g, 0, none⟩)) (does_alloc (z := .agg #[.slice none 0 0, .slice none 0 0, .slice none 0 0]) (by kernel_rfl) rfl) (by decide) ?_
 intro g4 w5 hM a hA
 refine seq_end ?_
 refine hK1 _ _ ?_
 refine wp_seq_k (fun K6 hK6 => ?_)
 refine wp_region_lit ?_
 refine seq_do (v := .pointer (some ⟨g2, 0, none⟩)) hA rfl rfl rfl (does_field Wc_fld_37_0 rfl rfl) ?_
 intro a hA
 refine seq_do hA rfl rfl rfl (m_load1 hM Wc_is1_35 rfl 1 rfl rfl) ?_
 intro a hA
 refine seq_do (v := .int .i64 (((fs.length : Nat) : Int))) hA rfl rfl rfl (does_len Try.underlying35 rfl) ?_
 intro a hA
 refine s_makeE (z := .agg #[.string ⟨#[]⟩, .slice none 0 0]) (sz := 2) (by_ := 40) (m := fs.length) hA hM Try.underlying35 (by kernel_rfl) rfl rfl rfl rfl rfl rfl (by omega) (by omega) (.inl (by decide)) ?_
 intro g7 w8 hM a hA
 obtain ⟨mz, hmz⟩ : ∃ mz, (madeCells (.agg #[.string ⟨#[]⟩, .slice none 0 0] : Value).cells (fs.length * 2)).toList = mz := ⟨_, rfl⟩
 rw [hmz] at hM
 have hml : mz.length = fs.length * 2 := hmz ▸ made_len _ rfl fs.length
 refine seq_do hA rfl rfl rfl (does_assign rfl) ?_
 intro a hA
 refine seq_end ?_
 refine hK6 _ _ ?_
 refine wp_seq_k (fun K9 hK9 => ?_)
 refine wp_seq_k (fun K10 hK10 => ?_)
 refine wp_region_lit ?_
 refine seq_do (v := .pointer (some ⟨g2, 0, none⟩)) hA rfl rfl rfl (does_field Wc_fld_37_0 rfl rfl) ?_
 intro a hA
 refine seq_do hA rfl rfl rfl (m_load1 hM Wc_is1_35 rfl 2 rfl rfl) ?_
 intro a hA
 refine seq_do (v := .int .i64 (((fs.length : Nat) : Int))) hA rfl rfl rfl (does_len Try.underlying35 rfl) ?_
 intro a hA
 refine seq_do hA rfl rfl rfl (does_move rfl) ?_
 intro a hA
 refine seq_end ?_
 refine hK10 _ _ ?_
 refine wp_block ?_
 refine wp_loop_n (fun m_ a w1 => ∃ (i : Nat) (gs : List Gf) (D : List Ck), m_ = fs.length - i ∧ (GsD gs D ∧ readF gs = fs.take i ∧ gs.length = i ∧ noBld D ∧ i ≤ fs.length) ∧ Sl a 35 [(0, .agg #[.slice sF fs.length cF_, .slice sI il.length cI, .slice sO ol.length cO]), (1, .pointer (some ⟨g2, 0, none⟩)), (2, .pointer (some ⟨g4, 0, none⟩)), (3, .slice (some ⟨g7, 0, none⟩) fs.length fs.length), (6, .pointer (some ⟨g2, 0, none⟩)), (7, .slice sF fs.length cF_), (8, .int .i64 (((fs.length : Nat) : Int))), (9, .slice (some ⟨g7, 0, none⟩) fs.length fs.length), (10, .pointer (some ⟨g2, 0, none⟩)), (11, .slice sF fs.length cF_), (12, .int .i64 (((fs.length : Nat) : Int))), (13, .int .i64 (((i : Nat) : Int)))] ∧ Mg w w1 (.row 88 2 (.slice (some ⟨g7, 0, none⟩) fs.length fs.length) fs.length ((cellsF gs ++ mz.drop (i * 2))) :: .obj g4 (.cells #[.slice none 0 0, .slice none 0 0, .slice none 0 0] 37) :: .obj g2 (.cells #[.slice sF fs.length cF_, .slice sI il.length cI, .slice sO ol.length cO] 37) :: D)) _ ⟨0, [], [], rfl, ⟨(by intro q hq; cases hq), rfl, rfl, noBld_quiet quietL_nil, Nat.zero_le _⟩, hA.keep _ ⟨rfl, rfl, rfl, rfl, rfl, rfl, rfl, rfl, rfl, rfl, rfl, rfl, trivial⟩, hM⟩ ?_
 clear hM hA
 rintro m_ a w11 ⟨i, gs, D, rfl, hinv13, hA, hM⟩ K12 hK12
 obtain ⟨hGD, hgr, hgl, hnD, hi9⟩ := hinv13
 refine wp_seq_k (fun K14 hK14 => ?_)
 refine wp_region_lit ?_
 rcases Bool.eq_false_or_eq_true (decide (((i : Nat) : Int) < ((fs.length : Nat) : Int))) with hb15 | hb15
 · have hb15' := of_decide_eq_true hb15
   refine seq_do (v := .bool true) hA rfl rfl rfl (does_bin rfl rfl (fun w => (bin_lss w).trans (by rw [hb15]))) ?_
   intro a hA
   refine seq_end ?_
   refine hK14 _ _ ?_
   refine wp_seq_k (fun K16 hK16 => ?_)
   refine wp_cond_true (hA.ev rfl) ?_
   refine wp_skip ?_
   refine hK16 _ _ ?_
   refine wp_seq_k (fun K17 hK17 => ?_)
   refine wp_block ?_
   refine wp_seq_k (fun K18 hK18 => ?_)
   refine wp_region_lit ?_
   refine seq_do hA rfl rfl rfl (does_move rfl) ?_
   intro a hA
   obtain ⟨fn19, fd20, hf25⟩ := file_get (fs := fs) (i := i) (by omega)
   obtain ⟨bf21, of22, sj23, cj24, hf26, hf27, hf28, hf29, hf30, hf31⟩ := hF.pos _ _ hf25
   refine seq_do (v := .pointer (some ⟨bf21, of22 + i * 2, none⟩)) hA rfl rfl rfl (does_indexA Try.underlying35 (by kernel_rfl) rfl rfl rfl hf26 (show i < fs.length by omega)) ?_
   intro a hA
   refine seq_do (v := .agg #[.string fn19, .slice sj23 fd20.length cj24]) hA rfl rfl rfl (m_loadR2 hM hf27 hf28 hf29 Wc_isS_88 rfl) ?_
   intro a hA
   refine s_new (vs := [.string (⟨#[]⟩), .slice none 0 0]) (t := 88) hA hM rfl rfl rfl (fun g => .pointer (some ⟨g, 0, none⟩)) (does_alloc (z := .agg #[.string (⟨#[]⟩), .slice none 0 0]) (by kernel_rfl) rfl) (by decide) ?_
   intro g32 w33 hM a hA
   refine seq_do hA rfl rfl rfl (does_assign rfl) ?_
   intro a hA
   refine s_store (us := [.string fn19, .slice sj23 fd20.length cj24]) (L' := (.obj g32 (.cells #[.string fn19, .slice sj23 fd20.length cj24] 88) :: .row 88 2 (.slice (some ⟨g7, 0, none⟩) fs.length fs.length) fs.length ((cellsF gs ++ mz.drop (i * 2))) :: .obj g4 (.cells #[.slice none 0 0, .slice none 0 0, .slice none 0 0] 37) :: .obj g2 (.cells #[.slice sF fs.length cF_, .slice sI il.length cI, .slice sO ol.length cO] 37) :: D)) hA hM rfl rfl (m_store rfl rfl rfl (by kernel_rfl) hM 0 rfl rfl rfl) 0 rfl rfl rfl ?_
   intro w34 hM
   refine seq_end ?_
   refine hK18 _ _ ?_
   refine wp_region_lit ?_
   refine seq_do hA rfl rfl rfl (does_move rfl) ?_
   intro a hA
   refine seq_do hA rfl rfl rfl (does_move rfl) ?_
   intro a hA
   refine seq_do (v := .pointer (some ⟨g32, 0, none⟩)) hA rfl rfl rfl (does_field Wc_fld_88_0 rfl rfl) ?_
   intro a hA
   refine seq_do hA rfl rfl rfl (m_load1 hM Wc_is1_9 rfl 0 rfl rfl) ?_
   intro a hA
   refine seq_do (v := .pointer (some ⟨g32, 1, none⟩)) hA rfl rfl rfl (does_field Wc_fld_88_1 rfl rfl) ?_
   intro a hA
   refine seq_do hA rfl rfl rfl (m_load1 hM Wc_is1_24 rfl 0 rfl rfl) ?_
   intro a hA
   have hsf9 := sound_file hs hf25
   refine seq_call hA rfl rfl rfl (enters_func rfl rfl (fun w => by kernel_rfl)) (newFile_any (by omega) (hf30.below hM.bel) (by omega)) ?_
   rintro _ w39 ⟨v35, rfl, hM36⟩
   obtain ⟨so37, ca38, rfl⟩ := owns_sliceE (hM36.has 0 rfl)
   replace hM : Mg w w39 (.row BY 1 (.slice so37 fd20.length ca38) fd20.length ((Lib.byteCells fd20)) :: .obj g32 (.cells #[.string fn19, .slice sj23 fd20.length cj24] 88) :: .row 88 2 (.slice (some ⟨g7, 0, none⟩) fs.length fs.length) fs.length ((cellsF gs ++ mz.drop (i * 2))) :: .obj g4 (.cells #[.slice none 0 0, .slice none 0 0, .slice none 0 0] 37) :: .obj g2 (.cells #[.slice sF fs.length cF_, .slice sI il.length cI, .slice sO ol.length cO] 37) :: D) := (hM.both hM36 (noBld_cons (by simp) (noBld_cons (by simp) (noBld_cons (by simp) (noBld_cons (by simp) hnD)))) (noBld_cons (by simp) (noBld_quiet quietL_nil)))
   refine ⟨_, rfl, ?_⟩
   intro a hA
   refine seq_do (v := .pointer (some ⟨g7, i * 2, none⟩)) hA rfl rfl rfl (does_indexX Try.underlying35 (by kernel_rfl) rfl rfl rfl rfl (show i < fs.length by omega)) ?_
   intro a hA
   refine s_storeE (cs := [.string fn19, .slice so37 fd20.length ca38]) (L' := (.row BY 1 (.slice so37 fd20.length ca38) fd20.length ((Lib.byteCells fd20)) :: .obj g32 (.cells #[.string fn19, .slice sj23 fd20.length cj24] 88) :: .row 88 2 (.slice (some ⟨g7, 0, none⟩) fs.length fs.length) fs.length ((over (cellsF gs ++ mz.drop (i * 2)) (i * 2) [.string fn19, .slice so37 fd20.length ca38])) :: .obj g4 (.cells #[.slice none 0 0, .slice none 0 0, .slice none 0 0] 37) :: .obj g2 (.cells #[.slice sF fs.length cF_, .slice sI il.length cI, .slice sO ol.length cO] 37) :: D)) (us := []) hA hM rfl rfl (m_storeE rfl rfl rfl (by kernel_rfl) hM 2 rfl (show i * 2 + 2 ≤ fs.length * 2 by omega) rfl) 2 rfl rfl ?_
   intro w40 hM
   refine seq_end ?_
   refine hK17 _ _ ?_
   refine wp_region_lit ?_
   refine seq_do (v := .int .i64 (((i + 1 : Nat) : Int))) hA rfl rfl rfl (does_bin rfl rfl (ar_add ((in_i64 (by omega) (by omega)).trans (by omega)))) ?_
   intro a hA
   refine seq_do hA rfl rfl rfl (does_move rfl) ?_
   intro a hA
   refine seq_end ?_
   replace hM : Mg w w40 (.row 88 2 (.slice (some ⟨g7, 0, none⟩) fs.length fs.length) fs.length ((cellsF (gs ++ [(fn19, .slice so37 fd20.length ca38, fd20)]) ++ mz.drop ((i + 1) * 2))) :: .obj g4 (.cells #[.slice none 0 0, .slice none 0 0, .slice none 0 0] 37) :: .obj g2 (.cells #[.slice sF fs.length cF_, .slice sI il.length cI, .slice sO ol.length cO] 37) :: (.row BY 1 (.slice so37 fd20.length ca38) fd20.length (Lib.byteCells fd20) :: D)) := by
     have h9 := hM.sub (.cons_cons _ (.cons _ (.cons_cons _ (.cons_cons _ (.cons_cons _ (.refl _))))))
     rw [made_step (q := (fn19, .slice so37 fd20.length ca38, fd20)) hgl (by omega) hml] at h9
     exact h9.perm (List.perm_middle (l₁ := [_, _, _])).symm
   refine hK12 _ _ _ (by omega) ⟨i + 1, gs ++ [(fn19, .slice so37 fd20.length ca38, fd20)], (.row BY 1 (.slice so37 fd20.length ca38) fd20.length (Lib.byteCells fd20) :: D), rfl, ⟨gs_snoc hGD, read_snoc hgr hf25, by rw [List.length_append, hgl]; rfl, noBld_cons (by simp) hnD, by omega⟩, hA.keep _ ⟨rfl, rfl, rfl, rfl, rfl, rfl, rfl, rfl, rfl, rfl, rfl, rfl, trivial⟩, hM⟩
 · have hb15' := of_decide_eq_false hb15
   refine seq_do (v := .bool false) hA rfl rfl rfl (does_bin rfl rfl (fun w => (bin_lss w).trans (by rw [hb15]))) ?_
   intro a hA
   refine seq_end ?_
   refine hK14 _ _ ?_
   refine wp_seq_k (fun K41 hK41 => ?_)
   refine wp_cond_false (hA.ev rfl) ?_
   refine wp_exit ?_
   refine hK9 _ _ ?_
   refine wp_seq_k (fun K42 hK42 => ?_)
   refine wp_draw (S := fun w1 => Mg w w1 (.obj g2 (.cells #[.slice sF fs.length cF_, .slice sI il.length cI, .slice sO ol.length cO] 37) :: [])) (by kernel_rfl) ?_
   replace hM := hM.drew
   refine any_tk hA 0 rfl rfl rfl rfl hP (hM.sub (.cons _ (.cons _ (.cons_cons _ (List.nil_sublist _))))) (fun w1 hM => does_move rfl) ?_
   intro a hA
   refine any_tk (v := .pointer (some ⟨g2, 1, none⟩)) hA 1 rfl rfl rfl rfl hP (hM.sub (.cons _ (.cons _ (.cons_cons _ (List.nil_sublist _))))) (fun w1 hM => does_field Wc_fld_37_1 rfl rfl) ?_
   intro a hA
   refine any_tk hA 2 rfl rfl rfl rfl hP (hM.sub (.cons _ (.cons _ (.cons_cons _ (List.nil_sublist _))))) (fun w1 hM => m_load1 hM Wc_is1_24 rfl 0 rfl rfl) ?_
   intro a hA
   refine any_tk (v := .pointer (some ⟨g2, 2, none⟩)) hA 4 rfl rfl rfl rfl hP (hM.sub (.cons _ (.cons _ (.cons_cons _ (List.nil_sublist _))))) (fun w1 hM => does_field Wc_fld_37_2 rfl rfl) ?_
   intro a hA
   refine any_tk hA 5 rfl rfl rfl rfl hP (hM.sub (.cons _ (.cons _ (.cons_cons _ (List.nil_sublist _))))) (fun w1 hM => m_load1 hM Wc_is1_24 rfl 0 rfl rfl) ?_
   intro a hA
   refine any_one (by kernel_rfl) (op_call hA 3 rfl rfl rfl rfl (enters_func rfl rfl (fun w => by kernel_rfl)) (clone_any (hI.below hM.bel) (by omega)) ?_)
   rintro _ w47 ⟨v43, rfl, hM44⟩
   obtain ⟨so45, ca46, rfl⟩ := owns_sliceE (hM44.has 0 rfl)
   replace hM : Mg w w47 (.row BY 1 (.slice so45 il.length ca46) il.length ((Lib.byteCells il)) :: .row 88 2 (.slice (some ⟨g7, 0, none⟩) fs.length fs.length) fs.length ((cellsF gs ++ mz.drop (i * 2))) :: .obj g4 (.cells #[.slice none 0 0, .slice none 0 0, .slice none 0 0] 37) :: .obj g2 (.cells #[.slice sF fs.length cF_, .slice sI il.length cI, .slice sO ol.length cO] 37) :: D) := (hM.both hM44 (noBld_cons (by simp) (noBld_cons (by simp) (noBld_cons (by simp) hnD))) (noBld_cons (by simp) (noBld_quiet quietL_nil)))
   refine ⟨_, rfl, (hM.sub (.cons _ (.cons _ (.cons _ (.cons_cons _ (List.nil_sublist _)))))), ?_⟩
   intro a hA
   refine any_one (by kernel_rfl) (op_call hA 6 rfl rfl rfl rfl (enters_func rfl rfl (fun w => by kernel_rfl)) (clone_any (hO.below hM.bel) (by omega)) ?_)
   rintro _ w52 ⟨v48, rfl, hM49⟩
   obtain ⟨so50, ca51, rfl⟩ := owns_sliceE (hM49.has 0 rfl)
   replace hM : Mg w w52 (.row BY 1 (.slice so50 ol.length ca51) ol.length ((Lib.byteCells ol)) :: .row BY 1 (.slice so45 il.length ca46) il.length ((Lib.byteCells il)) :: .row 88 2 (.slice (some ⟨g7, 0, none⟩) fs.length fs.length) fs.length ((cellsF gs ++ mz.drop (i * 2))) :: .obj g4 (.cells #[.slice none 0 0, .slice none 0 0, .slice none 0 0] 37) :: .obj g2 (.cells #[.slice sF fs.length cF_, .slice sI il.length cI, .slice sO ol.length cO] 37) :: D) := (hM.both hM49 (noBld_cons (by simp) (noBld_cons (by simp) (noBld_cons (by simp) (noBld_cons (by simp) hnD)))) (noBld_cons (by simp) (noBld_quiet quietL_nil)))
   refine ⟨_, rfl, (hM.sub (.cons _ (.cons _ (.cons _ (.cons _ (.cons_cons _ (List.nil_sublist _))))))), ?_⟩
   intro a hA
   refine any_tk (v := .agg #[.slice (some ⟨g7, 0, none⟩) fs.length fs.length, .slice so45 il.length ca46, .slice so50 ol.length ca51]) hA 7 rfl rfl rfl rfl hP (hM.sub (.cons _ (.cons _ (.cons _ (.cons _ (.cons_cons _ (List.nil_sublist _))))))) (fun w1 hM => does_build rfl (fun w => by kernel_rfl)) ?_
   intro a hA
   refine any_one (by kernel_rfl) (g_store (us := [.slice (some ⟨g7, 0, none⟩) fs.length fs.length, .slice so45 il.length ca46, .slice so50 ol.length ca51]) (L' := (.row BY 1 (.slice so50 ol.length ca51) ol.length ((Lib.byteCells ol)) :: .row BY 1 (.slice so45 il.length ca46) il.length ((Lib.byteCells il)) :: .row 88 2 (.slice (some ⟨g7, 0, none⟩) fs.length fs.length) fs.length ((cellsF gs ++ mz.drop (i * 2))) :: .obj g4 (.cells #[.slice (some ⟨g7, 0, none⟩) fs.length fs.length, .slice so45 il.length ca46, .slice so50 ol.length ca51] 37) :: .obj g2 (.cells #[.slice sF fs.length cF_, .slice sI il.length cI, .slice sO ol.length cO] 37) :: D)) hA hM 8 rfl rfl rfl (m_store rfl rfl rfl (by kernel_rfl) hM 3 rfl rfl rfl) 3 rfl rfl rfl ?_)
   intro w53 hM
   refine ⟨(hM.sub (.cons _ (.cons _ (.cons _ (.cons _ (.cons_cons _ (List.nil_sublist _))))))), ?_⟩
   refine any_end (by kernel_rfl) ?_
   refine hK42 _ _ ?_
   refine wp_ret ?_
   refine hret _ _ ?_
   refine ends (v := .agg #[.slice (some ⟨g7, 0, none⟩) fs.length fs.length, .slice so45 il.length ca46, .slice so50 ol.length ca51]) hA rfl (.cons (res_cellS hM Wc_isS_37 rfl 3 rfl (cs := [.slice (some ⟨g7, 0, none⟩) fs.length fs.length, .slice so45 il.length ca46, .slice so50 ol.length ca51]) rfl rfl) .nil) rfl ?_
   have h9 := (hM.sub (.cons_cons _ (.cons_cons _ (.cons_cons _ (.cons _ (.cons _ (.refl _))))))).perm (perm_rev3 _ _ _ _)
   rw [List.drop_eq_nil_of_le (by omega), List.append_nil] at h9
   rw [List.take_of_length_le (by omega)] at hgr
   exact ⟨_, _, _, rfl, gs, D, h9, hGD, hgr, hnD⟩
end Go.Proofs.Ytcjgjbaadmohbaa
