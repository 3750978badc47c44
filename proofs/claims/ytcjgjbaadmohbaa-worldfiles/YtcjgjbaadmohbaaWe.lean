/- Walks of the calls of world. -/
import Derived.Test.YtcjgjbaadmohbaaWd
namespace Go.Proofs.Ytcjgjbaadmohbaa
open Go.RowKit
set_option linter.unusedVariables false
set_option linter.unusedSimpArgs false
set_option maxRecDepth 100000
theorem We_is1_24 : Is1 Try.prog 24 := ⟨⟨_, Try.underlying24, rfl⟩, by kernel_rfl⟩
theorem We_is1_35 : Is1 Try.prog 35 := ⟨⟨_, Try.underlying35, rfl⟩, by kernel_rfl⟩
theorem We_fld_37_0 : FieldAt Try.prog 37 0 0 := ⟨_, _, Try.underlying37, rfl, rfl, by kernel_rfl⟩
theorem We_fld_88_1 : FieldAt Try.prog 88 1 1 := ⟨_, _, Try.underlying88, rfl, rfl, by kernel_rfl⟩
theorem We_isS_37 : IsS Try.prog 37 3 := ⟨⟨_, Try.underlying37⟩, by kernel_rfl⟩
open Go.Lib
theorem mem_at {L : List Ck} {k : Nat} {c : Ck} (h : L[k]? = some c) : c ∈ L := List.mem_of_getElem? h
/-- A world whose memory are pieces of a list. -/
def RwD (L : List Ck) (V : Value) (fs : List Fl) (il ol : List UInt8) : Prop := ∃ (vF vI vO : Value) (gs : List Gf), V = .agg #[vF, vI, vO] ∧ Ck.row 88 2 vF fs.length (cellsF gs) ∈ L ∧ Ck.row BY 1 vI il.length (Lib.byteCells il) ∈ L ∧ Ck.row BY 1 vO ol.length (Lib.byteCells ol) ∈ L ∧ GsD gs L ∧ readF gs = fs
theorem RwD.mono {L L' : List Ck} {V : Value} {fs : List Fl} {il ol : List UInt8} (h : RwD L V fs il ol) (hs : ∀ c ∈ L, c ∈ L') : RwD L' V fs il ol := by
  obtain ⟨vF, vI, vO, gs, h1, h2, h3, h4, h5, h6⟩ := h
  exact ⟨vF, vI, vO, gs, h1, hs _ h2, hs _ h3, hs _ h4, fun q hq => hs _ (h5 q hq), h6⟩
theorem RwD.open_ {w0 w : World} {L : List Ck} (hM : Mg w0 w L) {V : Value} {fs : List Fl} {il ol : List UInt8} (h : RwD L V fs il ol) : ∃ sF cF sI cI sO cO, V = .agg #[.slice sF fs.length cF, .slice sI il.length cI, .slice sO ol.length cO] ∧ Rf w sF fs ∧ Rb w sI il ∧ Rb w sO ol ∧ il.length ≤ cI ∧ ol.length ≤ cO := by
  obtain ⟨vF, vI, vO, gs, rfl, h2, h3, h4, h5, h6⟩ := h
  obtain ⟨k, hk⟩ := List.mem_iff_getElem?.1 h2
  obtain ⟨sF, cF, rfl⟩ := owns_sliceE (hM.has k hk)
  obtain ⟨sI, cI, rfl, i1, i2⟩ := rb_mem hM h3
  obtain ⟨sO, cO, rfl, o1, o2⟩ := rb_mem hM h4
  exact ⟨sF, cF, sI, cI, sO, cO, rfl, h6 ▸ rf_own hM k hk h5, i1, o1, i2, o2⟩
/-- A result: the error's number, and the world. -/
abbrev WS := Int × List Fl × List UInt8 × List UInt8
def RetW (w : World) (e : Ending) (w' : World) (R : WS) : Prop := ∃ V L, e = .returned (.tuple #[V, .int .i64 R.1]) ∧ Mg w w' L ∧ noBld L ∧ RwD L V R.2.1 R.2.2.1 R.2.2.2
theorem zeroW {w w' : World} {L : List Ck} (h : Mg w w' L) : ∃ L, Mg w w' L ∧ noBld L ∧ RwD L (.agg #[.slice none 0 0, .slice none 0 0, .slice none 0 0]) [] [] [] := by
  have h1 := nil_row h
  have h2 : Mg w w' [.row 88 2 (.slice none 0 0) 0 [], .row BY 1 (.slice none 0 0) 0 []] := h1.add (Below.refl _ _) (c := .row 88 2 (.slice none 0 0) 0 []) ⟨rfl, .inl ⟨rfl, rfl⟩⟩ (fun k e => by cases e) (.inr (.inl ⟨_, _, _, _, _, rfl, .inl (by decide)⟩))
  refine ⟨_, h2, noBld_cons (by simp) (noBld_cons (by simp) (noBld_quiet quietL_nil)), .slice none 0 0, .slice none 0 0, .slice none 0 0, [], rfl, mem_at (k := 0) rfl, mem_at (k := 1) rfl, mem_at (k := 1) rfl, ?_, rfl⟩
  intro q hq
  cases hq
theorem ret_zero {w w' : World} {L : List Ck} {x : Int} (h : Mg w w' L) : RetW w (.returned (.tuple #[.agg #[.slice none 0 0, .slice none 0 0, .slice none 0 0], .int .i64 x])) w' (x, [], [], []) := by
  obtain ⟨L2, h1, h2, h3⟩ := zeroW h
  exact ⟨_, L2, rfl, h1, h2, h3⟩
theorem ret_own {w w' : World} {L : List Ck} (hM : Mg w w' L) (hnb : noBld L) {vF vI vO : Value} {gs : List Gf} {n : Nat} {fs : List Fl} {il ol : List UInt8} {x : Int} (h1 : Ck.row 88 2 vF n (cellsF gs) ∈ L) (h2 : Ck.row BY 1 vI il.length (Lib.byteCells il) ∈ L) (h3 : Ck.row BY 1 vO ol.length (Lib.byteCells ol) ∈ L) (hG : GsD gs L) (hr : readF gs = fs) (hn : n = fs.length) : RetW w (.returned (.tuple #[.agg #[vF, vI, vO], .int .i64 x])) w' (x, fs, il, ol) :=
  ⟨_, L, rfl, hM, hnb, vF, vI, vO, gs, rfl, hn ▸ h1, h2, h3, hG, hr⟩
theorem perm_own (a b c : Ck) (D X : List Ck) : ((a :: b :: c :: D) ++ X).Perm (a :: b :: c :: (X ++ D)) := (((List.perm_append_comm : (D ++ X).Perm (X ++ D)).cons c).cons b).cons a
theorem gs_put {gs : List Gf} {D L : List Ck} {i j : Nat} {nm : ByteArray} {v : Value} {d : List UInt8} (hG : GsD gs D) (hs : ∀ c ∈ D, c ∈ L) (hn : Ck.row BY 1 v d.length (Lib.byteCells d) ∈ L) : GsD (gs.take i ++ (nm, v, d) :: gs.drop j) L := by
  intro q hq
  rcases List.mem_append.1 hq with hq | hq
  · exact hs _ (hG q (List.mem_of_mem_take hq))
  · rcases List.mem_cons.1 hq with rfl | hq
    · exact hn
    · exact hs _ (hG q (List.mem_of_mem_drop hq))
theorem gs_cut {gs : List Gf} {D L : List Ck} {i j : Nat} (hG : GsD gs D) (hs : ∀ c ∈ D, c ∈ L) : GsD (gs.take i ++ gs.drop j) L := by
  intro q hq
  rcases List.mem_append.1 hq with hq | hq
  · exact hs _ (hG q (List.mem_of_mem_take hq))
  · exact hs _ (hG q (List.mem_of_mem_drop hq))
theorem read_put {gs : List Gf} {fs : List Fl} {i j : Nat} {nm : ByteArray} {v : Value} {d : List UInt8} (hr : readF gs = fs) : readF (gs.take i ++ (nm, v, d) :: gs.drop j) = fs.take i ++ (nm, d) :: fs.drop j := by
  subst hr
  unfold readF
  rw [List.map_append, List.map_cons, List.map_take, List.map_drop]
theorem read_cut {gs : List Gf} {fs : List Fl} {i j : Nat} (hr : readF gs = fs) : readF (gs.take i ++ gs.drop j) = fs.take i ++ fs.drop j := by
  subst hr
  unfold readF
  rw [List.map_append, List.map_take, List.map_drop]
theorem put_new {gs : List Gf} {i : Nat} {nm : ByteArray} {v a b : Value} {d : List UInt8} (hi : i ≤ gs.length) : over ((cellsF gs).take (i * 2) ++ [a, b] ++ (cellsF gs).drop (i * 2)) (i * 2) [.string nm, v] = cellsF (gs.take i ++ (nm, v, d) :: gs.drop i) := by
  have hl : ((cellsF gs).take (i * 2)).length = i * 2 := by rw [List.length_take, cellsF_len]; omega
  have hl2 : ((cellsF gs).take (i * 2) ++ [a, b]).length = i * 2 + 2 := by rw [List.length_append, hl]; rfl
  have e1 : ((cellsF gs).take (i * 2) ++ [a, b] ++ (cellsF gs).drop (i * 2)).take (i * 2) = (cellsF gs).take (i * 2) := by rw [List.append_assoc, List.take_append_of_le_length (by omega), List.take_of_length_le (by omega)]
  have e2 : ((cellsF gs).take (i * 2) ++ [a, b] ++ (cellsF gs).drop (i * 2)).drop (i * 2 + [Value.string nm, v].length) = (cellsF gs).drop (i * 2) := by
    rw [show i * 2 + [Value.string nm, v].length = ((cellsF gs).take (i * 2) ++ [a, b]).length from hl2.symm]
    exact List.drop_left
  rw [over_eq (by rw [List.length_append, hl2]; simp only [List.length_cons, List.length_nil]; omega), e1, e2, cellsF_append, cellsF_cons, cellsF_take, cellsF_drop, List.append_assoc]
  rfl
theorem put_old {gs : List Gf} {i : Nat} {nm : ByteArray} {v : Value} {d : List UInt8} (hi : i < gs.length) : over (cellsF gs) (i * 2) [.string nm, v] = cellsF (gs.take i ++ (nm, v, d) :: gs.drop (i + 1)) := by
  rw [over_eq (by rw [cellsF_len]; simp only [List.length_cons, List.length_nil]; omega), cellsF_append, cellsF_cons, cellsF_take]
  rw [show i * 2 + [Value.string nm, v].length = (i + 1) * 2 from by simp only [List.length_cons, List.length_nil]; omega, cellsF_drop, List.append_assoc]
  rfl
theorem cut_cells {gs : List Gf} {i : Nat} : (cellsF gs).take (i * 2) ++ (cellsF gs).drop ((i + 1) * 2) = cellsF (gs.take i ++ gs.drop (i + 1)) := by
  rw [cellsF_take, cellsF_drop, cellsF_append]
theorem one_own {w0 w : World} {L D : List Ck} {gs : List Gf} (hM : Mg w0 w L) (hs : ∀ c ∈ D, c ∈ L) (hG : GsD gs D) : ∀ u ∈ cellsF gs, u.oneCell' = true := by
  have h := cellsF_one gs (fun q hq => by
    obtain ⟨so, cap, e, _⟩ := rb_mem hM (hs _ (hG q hq))
    rw [e]
    rfl)
  exact fun u hu => List.all_eq_true.1 h u hu
/-! What the calls answer -/
def putR (nm : ByteArray) (d : List UInt8) (fs : List Fl) (il ol : List UInt8) : WS :=
  if soundS fs il ol = false then (2, [], [], []) else if namedB nm = false then (1, [], [], []) else if 65536 < d.length then (4, [], [], []) else if (lookF nm fs).isNone = true ∧ fs.length = 64 then (9, [], [], []) else (0, putF nm d fs, il, ol)
def delR (nm : ByteArray) (fs : List Fl) (il ol : List UInt8) : WS :=
  if soundS fs il ol = false then (2, [], [], []) else if (lookF nm fs).isNone = true then (7, [], [], []) else (0, delF nm fs, il, ol)
def getR (nm : ByteArray) (fs : List Fl) (il ol : List UInt8) : Int × List UInt8 :=
  if soundS fs il ol = false then (2, []) else match lookF nm fs with | none => (7, []) | some d => (0, d)
def wrD (at_ : Nat) (d fd : List UInt8) : List UInt8 := fd.take at_ ++ d ++ fd.drop (at_ + d.length)
def wrR (nm : ByteArray) (z : Int) (d : List UInt8) (fs : List Fl) (il ol : List UInt8) : WS :=
  if soundS fs il ol = false then (2, [], [], []) else match lookF nm fs with
    | none => (7, [], [], [])
    | some fd => if z < 0 ∨ (fd.length : Int) < z then (1, [], [], []) else if 65536 < z + d.length then (4, [], [], []) else (0, putF nm (wrD z.toNat d fd) fs, il, ol)
def takeR (z : Int) (fs : List Fl) (il ol : List UInt8) : List UInt8 × WS :=
  if soundS fs il ol = false then ([], 2, [], [], []) else if z < 0 then ([], 1, [], [], []) else if (il.length : Int) < z then ([], 11, [], [], []) else (il.take z.toNat, 0, fs, il.drop z.toNat, ol)
def sayR (d : List UInt8) (fs : List Fl) (il ol : List UInt8) : WS :=
  if soundS fs il ol = false then (2, [], [], []) else if 65536 < ol.length + d.length then (4, [], [], []) else (0, fs, il, ol ++ d)
theorem place_as {w : World} {nm : ByteArray} {sF : Option Addr} {cF_ : Nat} {fs : List Fl} {b : Bool} (hF : Rf w sF fs) (hn : fs.length ≤ 4398046511104) (h : plB nm fs = b) : Calls Try.prog 52 #[.slice sF fs.length cF_, .string nm] w fun e w' => e = .returned (.tuple #[.int .i64 ((plI nm fs : Nat) : Int), .bool b]) ∧ Below w.heap.size w w' := h ▸ place_any hF hn
theorem look_there {nm : ByteArray} {fs : List Fl} (hr : risesF ⟨#[]⟩ fs = true) : (lookF nm fs).isNone = !(plB nm fs) := by
  obtain ⟨_, h1, h2⟩ := place_facts (n := nm) hr
  cases hb : plB nm fs with
  | true => obtain ⟨d0, _, h, _⟩ := h1 hb; rw [h]; rfl
  | false => rw [(h2 hb).1]; rfl
def fndE (nm : ByteArray) (fs : List Fl) (il ol : List UInt8) : Int := if soundS fs il ol = true then (if plB nm fs = true then 0 else 7) else 2
def fndI (nm : ByteArray) (fs : List Fl) (il ol : List UInt8) : Int := if soundS fs il ol = true then (if plB nm fs = true then ((plI nm fs : Nat) : Int) else 0) else 0
theorem found_any {w : World} {sF sI sO : Option Addr} {cF_ cI cO : Nat} {fs : List Fl} {il ol : List UInt8} {nm : ByteArray} (hF : Rf w sF fs) (hn : fs.length ≤ 4398046511104) : Calls Try.prog 60 #[.agg #[.slice sF fs.length cF_, .slice sI il.length cI, .slice sO ol.length cO], .string nm] w fun e w' => e = .returned (.tuple #[.int .i64 (fndI nm fs il ol), .int .i64 (fndE nm fs il ol)]) ∧ Below w.heap.size w w' := by
 have hM : Mg w w ([]) := Mg.start w
 refine walk_of (l := [(0, .agg #[.slice sF fs.length cF_, .slice sI il.length cI, .slice sO ol.length cO]), (1, .string nm)]) Try.func60 rfl Try.ntmps60 rfl rfl ?_
 intro Q hret hnorm hP a hA
 refine wp_seq_k (fun K1 hK1 => ?_)
 refine wp_region_lit ?_
 refine s_new (vs := [.slice sF fs.length cF_, .slice sI il.length cI, .slice sO ol.length cO]) (t := 37) hA hM rfl rfl rfl (fun g => .pointer (some ⟨g, 0, none⟩)) (does_box rfl rfl) (by decide) ?_
 intro g2 w3 hM a hA
 refine seq_do hA rfl rfl rfl (does_assign rfl) ?_
 intro a hA
 refine seq_do hA rfl rfl rfl (does_assign rfl) ?_
 intro a hA
 refine seq_end ?_
 refine hK1 _ _ ?_
 refine wp_seq_k (fun K4 hK4 => ?_)
 refine wp_seq_k (fun K5 hK5 => ?_)
 refine wp_region_lit ?_
 refine seq_do hA rfl rfl rfl (m_loadS hM We_isS_37 rfl 0 rfl (cs := [.slice sF fs.length cF_, .slice sI il.length cI, .slice sO ol.length cO]) rfl rfl) ?_
 intro a hA
 rcases Bool.eq_false_or_eq_true (soundS fs il ol) with hb6 | hb6
 · refine seq_call hA rfl rfl rfl (enters_func rfl rfl (fun w => by kernel_rfl)) (sound_as (hF.below hM.bel) hn hb6) ?_
   rintro _ w8 ⟨rfl, hb7⟩
   replace hM := hM.call hb7
   refine ⟨_, rfl, ?_⟩
   intro a hA
   refine seq_do (v := .bool false) hA rfl rfl rfl (does_un rfl un_not) ?_
   intro a hA
   refine seq_end ?_
   refine hK5 _ _ ?_
   refine wp_cond_false (hA.ev rfl) ?_
   refine wp_skip ?_
   refine hK4 _ _ ?_
   refine wp_seq_k (fun K9 hK9 => ?_)
   refine wp_region_lit ?_
   refine seq_do (v := .pointer (some ⟨g2, 0, none⟩)) hA rfl rfl rfl (does_field We_fld_37_0 rfl rfl) ?_
   intro a hA
   refine seq_do hA rfl rfl rfl (m_load1 hM We_is1_35 rfl 0 rfl rfl) ?_
   intro a hA
   refine seq_do hA rfl rfl rfl (does_move rfl) ?_
   intro a hA
   rcases Bool.eq_false_or_eq_true (plB nm fs) with hb10 | hb10
   · refine seq_call hA rfl rfl rfl (enters_func rfl rfl (fun w => by kernel_rfl)) (place_as (hF.below hM.bel) hn hb10) ?_
     rintro _ w12 ⟨rfl, hb11⟩
     replace hM := hM.call hb11
     refine ⟨_, rfl, ?_⟩
     intro a hA
     refine seq_do hA rfl rfl rfl (does_move rfl) ?_
     intro a hA
     refine seq_do (v := .int .i64 (((plI nm fs : Nat) : Int))) hA rfl rfl rfl (does_extract (vs := [.int .i64 (((plI nm fs : Nat) : Int)), .bool true]) rfl rfl) ?_
     intro a hA
     refine seq_do (v := .bool true) hA rfl rfl rfl (does_extract (vs := [.int .i64 (((plI nm fs : Nat) : Int)), .bool true]) rfl rfl) ?_
     intro a hA
     refine seq_do hA rfl rfl rfl (does_assign rfl) ?_
     intro a hA
     refine seq_do hA rfl rfl rfl (does_assign rfl) ?_
     intro a hA
     refine seq_end ?_
     refine hK9 _ _ ?_
     refine wp_seq_k (fun K13 hK13 => ?_)
     refine wp_seq_k (fun K14 hK14 => ?_)
     refine wp_region_lit ?_
     refine seq_do hA rfl rfl rfl (does_move rfl) ?_
     intro a hA
     refine seq_do (v := .bool false) hA rfl rfl rfl (does_un rfl un_not) ?_
     intro a hA
     refine seq_end ?_
     refine hK14 _ _ ?_
     refine wp_cond_false (hA.ev rfl) ?_
     refine wp_skip ?_
     refine hK13 _ _ ?_
     refine wp_seq_k (fun K15 hK15 => ?_)
     refine wp_region_lit ?_
     refine seq_do hA rfl rfl rfl (does_move rfl) ?_
     intro a hA
     refine seq_do hA rfl rfl rfl (does_assign rfl) ?_
     intro a hA
     refine seq_do hA rfl rfl rfl (does_assign rfl) ?_
     intro a hA
     refine seq_end ?_
     refine hK15 _ _ ?_
     refine wp_ret ?_
     refine hret _ _ ?_
     refine ends (v := .tuple #[.int .i64 (((plI nm fs : Nat) : Int)), .int .i64 0]) hA rfl (.cons (res_tmp rfl) (.cons (res_tmp rfl) .nil)) rfl ?_
     exact ⟨by unfold fndI fndE; rw [hb6, hb10]; rfl, hM.bel⟩
   · refine seq_call hA rfl rfl rfl (enters_func rfl rfl (fun w => by kernel_rfl)) (place_as (hF.below hM.bel) hn hb10) ?_
     rintro _ w17 ⟨rfl, hb16⟩
     replace hM := hM.call hb16
     refine ⟨_, rfl, ?_⟩
     intro a hA
     refine seq_do hA rfl rfl rfl (does_move rfl) ?_
     intro a hA
     refine seq_do (v := .int .i64 (((plI nm fs : Nat) : Int))) hA rfl rfl rfl (does_extract (vs := [.int .i64 (((plI nm fs : Nat) : Int)), .bool false]) rfl rfl) ?_
     intro a hA
     refine seq_do (v := .bool false) hA rfl rfl rfl (does_extract (vs := [.int .i64 (((plI nm fs : Nat) : Int)), .bool false]) rfl rfl) ?_
     intro a hA
     refine seq_do hA rfl rfl rfl (does_assign rfl) ?_
     intro a hA
     refine seq_do hA rfl rfl rfl (does_assign rfl) ?_
     intro a hA
     refine seq_end ?_
     refine hK9 _ _ ?_
     refine wp_seq_k (fun K18 hK18 => ?_)
     refine wp_seq_k (fun K19 hK19 => ?_)
     refine wp_region_lit ?_
     refine seq_do hA rfl rfl rfl (does_move rfl) ?_
     intro a hA
     refine seq_do (v := .bool true) hA rfl rfl rfl (does_un rfl un_not) ?_
     intro a hA
     refine seq_end ?_
     refine hK19 _ _ ?_
     refine wp_cond_true (hA.ev rfl) ?_
     refine wp_seq_k (fun K20 hK20 => ?_)
     refine wp_region_lit ?_
     refine seq_do hA rfl rfl rfl (does_assign rfl) ?_
     intro a hA
     refine seq_do hA rfl rfl rfl (does_assign rfl) ?_
     intro a hA
     refine seq_end ?_
     refine hK20 _ _ ?_
     refine wp_ret ?_
     refine hret _ _ ?_
     refine ends (v := .tuple #[.int .i64 0, .int .i64 7]) hA rfl (.cons (res_tmp rfl) (.cons (res_tmp rfl) .nil)) rfl ?_
     exact ⟨by unfold fndI fndE; rw [hb6, hb10]; rfl, hM.bel⟩
 · refine seq_call hA rfl rfl rfl (enters_func rfl rfl (fun w => by kernel_rfl)) (sound_as (hF.below hM.bel) hn hb6) ?_
   rintro _ w22 ⟨rfl, hb21⟩
   replace hM := hM.call hb21
   refine ⟨_, rfl, ?_⟩
   intro a hA
   refine seq_do (v := .bool true) hA rfl rfl rfl (does_un rfl un_not) ?_
   intro a hA
   refine seq_end ?_
   refine hK5 _ _ ?_
   refine wp_cond_true (hA.ev rfl) ?_
   refine wp_seq_k (fun K23 hK23 => ?_)
   refine wp_region_lit ?_
   refine seq_do hA rfl rfl rfl (does_assign rfl) ?_
   intro a hA
   refine seq_do hA rfl rfl rfl (does_assign rfl) ?_
   intro a hA
   refine seq_end ?_
   refine hK23 _ _ ?_
   refine wp_ret ?_
   refine hret _ _ ?_
   refine ends (v := .tuple #[.int .i64 0, .int .i64 2]) hA rfl (.cons (res_tmp rfl) (.cons (res_tmp rfl) .nil)) rfl ?_
   exact ⟨by unfold fndI fndE; rw [hb6]; rfl, hM.bel⟩
theorem put_any {w : World} {sF sI sO : Option Addr} {cF_ cI cO : Nat} {fs : List Fl} {il ol : List UInt8} {nm : ByteArray} {so : Option Addr} {cd : Nat} {d : List UInt8} (hF : Rf w sF fs) (hI : Rb w sI il) (hO : Rb w sO ol) (hn : fs.length ≤ 4398046511104) (hb : Rb w so d) : Calls Try.prog 17 #[.agg #[.slice sF fs.length cF_, .slice sI il.length cI, .slice sO ol.length cO], .string nm, .slice so d.length cd] w fun e w' => RetW w e w' (putR nm d fs il ol) := by
 have hM : Mg w w ([]) := Mg.start w
 refine walk_of (l := [(0, .agg #[.slice sF fs.length cF_, .slice sI il.length cI, .slice sO ol.length cO]), (1, .string nm), (2, .slice so d.length cd)]) Try.func17 rfl Try.ntmps17 rfl rfl ?_
 intro Q hret hnorm hP a hA
 refine wp_seq_k (fun K1 hK1 => ?_)
 refine wp_region_lit ?_
 refine s_new (vs := [.slice sF fs.length cF_, .slice sI il.length cI, .slice sO ol.length cO]) (t := 37) hA hM rfl rfl rfl (fun g => .pointer (some ⟨g, 0, none⟩)) (does_box rfl rfl) (by decide) ?_
 intro g2 w3 hM a hA
 refine s_new (vs := [.slice none 0 0, .slice none 0 0, .slice none 0 0]) (t := 37) hA hM rfl rfl rfl (fun g => .pointer (some ⟨g, 0, none⟩)) (does_alloc (z := .agg #[.slice none 0 0, .slice none 0 0, .slice none 0 0]) (by kernel_rfl) rfl) (by decide) ?_
 intro g4 w5 hM a hA
 refine seq_do hA rfl rfl rfl (does_assign rfl) ?_
 intro a hA
 refine seq_end ?_
 refine hK1 _ _ ?_
 refine wp_seq_k (fun K6 hK6 => ?_)
 refine wp_region_lit ?_
 refine seq_do (v := .pointer (some ⟨g2, 0, none⟩)) hA rfl rfl rfl (does_field We_fld_37_0 rfl rfl) ?_
 intro a hA
 refine seq_do hA rfl rfl rfl (m_load1 hM We_is1_35 rfl 1 rfl rfl) ?_
 intro a hA
 refine seq_do hA rfl rfl rfl (does_move rfl) ?_
 intro a hA
 rcases Bool.eq_false_or_eq_true (plB nm fs) with hb7 | hb7
 · refine seq_call hA rfl rfl rfl (enters_func rfl rfl (fun w => by kernel_rfl)) (place_as (hF.below hM.bel) hn hb7) ?_
   rintro _ w9 ⟨rfl, hb8⟩
   replace hM := hM.call hb8
   refine ⟨_, rfl, ?_⟩
   intro a hA
   refine seq_do hA rfl rfl rfl (does_move rfl) ?_
   intro a hA
   refine seq_do (v := .int .i64 (((plI nm fs : Nat) : Int))) hA rfl rfl rfl (does_extract (vs := [.int .i64 (((plI nm fs : Nat) : Int)), .bool true]) rfl rfl) ?_
   intro a hA
   refine seq_do (v := .bool true) hA rfl rfl rfl (does_extract (vs := [.int .i64 (((plI nm fs : Nat) : Int)), .bool true]) rfl rfl) ?_
   intro a hA
   refine seq_do hA rfl rfl rfl (does_assign rfl) ?_
   intro a hA
   refine seq_do hA rfl rfl rfl (does_assign rfl) ?_
   intro a hA
   refine seq_end ?_
   refine hK6 _ _ ?_
   refine wp_seq_k (fun K10 hK10 => ?_)
   refine wp_block ?_
   refine wp_seq_k (fun K11 hK11 => ?_)
   refine wp_region_lit ?_
   refine seq_do hA rfl rfl rfl (m_loadS hM We_isS_37 rfl 1 rfl (cs := [.slice sF fs.length cF_, .slice sI il.length cI, .slice sO ol.length cO]) rfl rfl) ?_
   intro a hA
   rcases Bool.eq_false_or_eq_true (soundS fs il ol) with hb12 | hb12
   · refine seq_call hA rfl rfl rfl (enters_func rfl rfl (fun w => by kernel_rfl)) (sound_as (hF.below hM.bel) hn hb12) ?_
     rintro _ w14 ⟨rfl, hb13⟩
     replace hM := hM.call hb13
     refine ⟨_, rfl, ?_⟩
     intro a hA
     refine seq_do (v := .bool false) hA rfl rfl rfl (does_un rfl un_not) ?_
     intro a hA
     refine seq_do hA rfl rfl rfl (does_assign rfl) ?_
     intro a hA
     refine seq_end ?_
     refine hK11 _ _ ?_
     refine wp_cond_false (hA.ev rfl) ?_
     refine wp_seq_k (fun K15 hK15 => ?_)
     have hsp := sound_parts hb12
     obtain ⟨hpl, hpt, hpf⟩ := place_facts (n := nm) hsp.2.2.2
     have hlk := look_there (nm := nm) hsp.2.2.2
     obtain ⟨d0, hd0, hlo, hpu, hde⟩ := hpt hb7
     have hpi : plI nm fs < fs.length := (List.getElem?_eq_some_iff.1 hd0).1
     refine wp_region_lit ?_
     refine seq_do hA rfl rfl rfl (does_move rfl) ?_
     intro a hA
     rcases Bool.eq_false_or_eq_true (namedB nm) with hb16 | hb16
     · refine seq_call hA rfl rfl rfl (enters_func rfl rfl (fun w => by kernel_rfl)) (allowed_as hb16) ?_
       rintro _ w18 ⟨rfl, hb17⟩
       replace hM := hM.call hb17
       refine ⟨_, rfl, ?_⟩
       intro a hA
       refine seq_do (v := .bool false) hA rfl rfl rfl (does_un rfl un_not) ?_
       intro a hA
       refine seq_do hA rfl rfl rfl (does_assign rfl) ?_
       intro a hA
       refine seq_end ?_
       refine hK15 _ _ ?_
       refine wp_cond_false (hA.ev rfl) ?_
       refine wp_seq_k (fun K19 hK19 => ?_)
       refine wp_region_lit ?_
       refine seq_do hA rfl rfl rfl (does_move rfl) ?_
       intro a hA
       refine seq_do (v := .int .i64 (((d.length : Nat) : Int))) hA rfl rfl rfl (does_len Try.underlying24 rfl) ?_
       intro a hA
       rcases Bool.eq_false_or_eq_true (decide (65536 < ((d.length : Nat) : Int))) with hb20 | hb20
       · have hb20' := of_decide_eq_true hb20
         refine seq_do (v := .bool true) hA rfl rfl rfl (does_bin rfl rfl (fun w => (bin_gtr w).trans (by rw [hb20]))) ?_
         intro a hA
         refine seq_do hA rfl rfl rfl (does_assign rfl) ?_
         intro a hA
         refine seq_end ?_
         refine hK19 _ _ ?_
         refine wp_cond_true (hA.ev rfl) ?_
         refine wp_seq_k (fun K21 hK21 => ?_)
         refine wp_region_lit ?_
         refine seq_do (v := .agg #[.slice none 0 0, .slice none 0 0, .slice none 0 0]) hA rfl rfl rfl (does_build rfl (fun w => by kernel_rfl)) ?_
         intro a hA
         refine s_store (us := [.slice none 0 0, .slice none 0 0, .slice none 0 0]) (L' := (.obj g4 (.cells #[.slice none 0 0, .slice none 0 0, .slice none 0 0] 37) :: .obj g2 (.cells #[.slice sF fs.length cF_, .slice sI il.length cI, .slice sO ol.length cO] 37) :: [])) hA hM rfl rfl (m_store rfl rfl rfl (by kernel_rfl) hM 0 rfl rfl rfl) 0 rfl rfl rfl ?_
         intro w22 hM
         refine seq_do hA rfl rfl rfl (does_assign rfl) ?_
         intro a hA
         refine seq_end ?_
         refine hK21 _ _ ?_
         refine wp_ret ?_
         refine hret _ _ ?_
         refine ends (v := .tuple #[.agg #[.slice none 0 0, .slice none 0 0, .slice none 0 0], .int .i64 4]) hA rfl (.cons (res_cellS hM We_isS_37 rfl 0 rfl (cs := [.slice none 0 0, .slice none 0 0, .slice none 0 0]) rfl rfl) (.cons (res_tmp rfl) .nil)) rfl ?_
         rw [show putR nm d fs il ol = (4, [], [], []) from by unfold putR; rw [if_neg (by rw [hb12]; decide), if_neg (by rw [hb16]; decide), if_pos (by omega)]]
         exact ret_zero hM
       · have hb20' := of_decide_eq_false hb20
         refine seq_do (v := .bool false) hA rfl rfl rfl (does_bin rfl rfl (fun w => (bin_gtr w).trans (by rw [hb20]))) ?_
         intro a hA
         refine seq_do hA rfl rfl rfl (does_assign rfl) ?_
         intro a hA
         refine seq_end ?_
         refine hK19 _ _ ?_
         refine wp_cond_false (hA.ev rfl) ?_
         refine wp_seq_k (fun K23 hK23 => ?_)
         refine wp_region_lit ?_
         refine seq_do hA rfl rfl rfl (does_move rfl) ?_
         intro a hA
         refine seq_do (v := .bool false) hA rfl rfl rfl (does_un rfl un_not) ?_
         intro a hA
         refine seq_do hA rfl rfl rfl (does_move rfl) ?_
         intro a hA
         refine seq_skip hA rfl rfl rfl ?_
         intro a hA
         refine seq_skip hA rfl rfl rfl ?_
         intro a hA
         refine seq_skip hA rfl rfl rfl ?_
         intro a hA
         refine seq_skip hA rfl rfl rfl ?_
         intro a hA
         refine seq_do (v := .bool false) hA rfl rfl rfl (does_pick rfl rfl rfl rfl) ?_
         intro a hA
         refine seq_do hA rfl rfl rfl (does_assign rfl) ?_
         intro a hA
         refine seq_end ?_
         refine hK23 _ _ ?_
         refine wp_cond_false (hA.ev rfl) ?_
         refine wp_skip ?_
         refine hK10 _ _ ?_
         refine wp_seq_k (fun K24 hK24 => ?_)
         refine wp_region_lit ?_
         refine seq_do hA rfl rfl rfl (m_loadS hM We_isS_37 rfl 1 rfl (cs := [.slice sF fs.length cF_, .slice sI il.length cI, .slice sO ol.length cO]) rfl rfl) ?_
         intro a hA
         refine seq_call hA rfl rfl rfl (enters_func rfl rfl (fun w => by kernel_rfl)) (copied_any (cF_ := cF_) (cI := cI) (cO := cO) (hF.below hM.bel) (hI.below hM.bel) (hO.below hM.bel) hb12) ?_
         rintro _ w36 ⟨g25, vI26, vO27, rfl, hOw28⟩
         obtain ⟨gs, D, hM31, hGD, hgr, hnD⟩ := hOw28
         obtain ⟨sI32, cI33, rfl⟩ := owns_sliceE (hM31.has 1 rfl)
         obtain ⟨sO34, cO35, rfl⟩ := owns_sliceE (hM31.has 2 rfl)
         have hgl : gs.length = fs.length := by rw [← hgr, readF_len]
         replace hM : Mg w w36 (.row 88 2 (.slice (some ⟨g25, 0, none⟩) fs.length fs.length) fs.length ((cellsF gs)) :: .row BY 1 (.slice sI32 il.length cI33) il.length ((Lib.byteCells il)) :: .row BY 1 (.slice sO34 ol.length cO35) ol.length ((Lib.byteCells ol)) :: .obj g4 (.cells #[.slice none 0 0, .slice none 0 0, .slice none 0 0] 37) :: .obj g2 (.cells #[.slice sF fs.length cF_, .slice sI il.length cI, .slice sO ol.length cO] 37) :: D) := ((hM.both hM31 (noBld_cons (by simp) (noBld_cons (by simp) (noBld_quiet quietL_nil))) (noBld_cons (by simp) (noBld_cons (by simp) (noBld_cons (by simp) hnD)))).perm (perm_own _ _ _ _ _))
         refine ⟨_, rfl, ?_⟩
         intro a hA
         refine s_new (vs := [.slice none 0 0, .slice none 0 0, .slice none 0 0]) (t := 37) hA hM rfl rfl rfl (fun g => .pointer (some ⟨g, 0, none⟩)) (does_alloc (z := .agg #[.slice none 0 0, .slice none 0 0, .slice none 0 0]) (by kernel_rfl) rfl) (by decide) ?_
         intro g37 w38 hM a hA
         refine s_store (us := [.slice (some ⟨g25, 0, none⟩) fs.length fs.length, .slice sI32 il.length cI33, .slice sO34 ol.length cO35]) (L' := (.obj g37 (.cells #[.slice (some ⟨g25, 0, none⟩) fs.length fs.length, .slice sI32 il.length cI33, .slice sO34 ol.length cO35] 37) :: .row 88 2 (.slice (some ⟨g25, 0, none⟩) fs.length fs.length) fs.length ((cellsF gs)) :: .row BY 1 (.slice sI32 il.length cI33) il.length ((Lib.byteCells il)) :: .row BY 1 (.slice sO34 ol.length cO35) ol.length ((Lib.byteCells ol)) :: .obj g4 (.cells #[.slice none 0 0, .slice none 0 0, .slice none 0 0] 37) :: .obj g2 (.cells #[.slice sF fs.length cF_, .slice sI il.length cI, .slice sO ol.length cO] 37) :: D)) hA hM rfl rfl (m_store rfl rfl rfl (by kernel_rfl) hM 0 rfl rfl rfl) 0 rfl rfl rfl ?_
         intro w39 hM
         refine seq_end ?_
         refine hK24 _ _ ?_
         refine wp_seq_k (fun K40 hK40 => ?_)
         refine wp_seq_k (fun K41 hK41 => ?_)
         refine wp_region_lit ?_
         refine seq_do hA rfl rfl rfl (does_move rfl) ?_
         intro a hA
         refine seq_do (v := .bool false) hA rfl rfl rfl (does_un rfl un_not) ?_
         intro a hA
         refine seq_end ?_
         refine hK41 _ _ ?_
         refine wp_cond_false (hA.ev rfl) ?_
         refine wp_skip ?_
         refine hK40 _ _ ?_
         refine wp_seq_k (fun K42 hK42 => ?_)
         refine wp_draw (S := fun w1 => Mg w w1 (.obj g37 (.cells #[.slice (some ⟨g25, 0, none⟩) fs.length fs.length, .slice sI32 il.length cI33, .slice sO34 ol.length cO35] 37) :: [])) (by kernel_rfl) ?_
         replace hM := hM.drew
         refine any_tk (v := .pointer (some ⟨g37, 0, none⟩)) hA 0 rfl rfl rfl rfl hP (hM.sub (.cons_cons _ (.cons _ (.cons _ (.cons _ (.cons _ (.cons _ (List.nil_sublist _)))))))) (fun w1 hM => does_field We_fld_37_0 rfl rfl) ?_
         intro a hA
         refine any_tk hA 1 rfl rfl rfl rfl hP (hM.sub (.cons_cons _ (.cons _ (.cons _ (.cons _ (.cons _ (.cons _ (List.nil_sublist _)))))))) (fun w1 hM => m_load1 hM We_is1_35 rfl 0 rfl rfl) ?_
         intro a hA
         refine any_tk hA 2 rfl rfl rfl rfl hP (hM.sub (.cons_cons _ (.cons _ (.cons _ (.cons _ (.cons _ (.cons _ (List.nil_sublist _)))))))) (fun w1 hM => does_move rfl) ?_
         intro a hA
         refine any_tk hA 3 rfl rfl rfl rfl hP (hM.sub (.cons_cons _ (.cons _ (.cons _ (.cons _ (.cons _ (.cons _ (List.nil_sublist _)))))))) (fun w1 hM => does_move rfl) ?_
         intro a hA
         refine any_tk hA 4 rfl rfl rfl rfl hP (hM.sub (.cons_cons _ (.cons _ (.cons _ (.cons _ (.cons _ (.cons _ (List.nil_sublist _)))))))) (fun w1 hM => does_move rfl) ?_
         intro a hA
         refine any_one (by kernel_rfl) (op_call hA 5 rfl rfl rfl rfl (enters_func rfl rfl (fun w => by kernel_rfl)) (newFile_any (by have h7 := of_decide_eq_true (show decide (1 ≤ nm.size ∧ nm.size ≤ 255) = true from hb16); omega) (hb.below hM.bel) (by omega)) ?_)
         rintro _ w47 ⟨v43, rfl, hM44⟩
         obtain ⟨so45, ca46, rfl⟩ := owns_sliceE (hM44.has 0 rfl)
         replace hM : Mg w w47 (.row BY 1 (.slice so45 d.length ca46) d.length ((Lib.byteCells d)) :: .obj g37 (.cells #[.slice (some ⟨g25, 0, none⟩) fs.length fs.length, .slice sI32 il.length cI33, .slice sO34 ol.length cO35] 37) :: .row 88 2 (.slice (some ⟨g25, 0, none⟩) fs.length fs.length) fs.length ((cellsF gs)) :: .row BY 1 (.slice sI32 il.length cI33) il.length ((Lib.byteCells il)) :: .row BY 1 (.slice sO34 ol.length cO35) ol.length ((Lib.byteCells ol)) :: .obj g4 (.cells #[.slice none 0 0, .slice none 0 0, .slice none 0 0] 37) :: .obj g2 (.cells #[.slice sF fs.length cF_, .slice sI il.length cI, .slice sO ol.length cO] 37) :: D) := (hM.both hM44 (noBld_cons (by simp) (noBld_cons (by simp) (noBld_cons (by simp) (noBld_cons (by simp) (noBld_cons (by simp) (noBld_cons (by simp) hnD)))))) (noBld_cons (by simp) (noBld_quiet quietL_nil)))
         refine ⟨_, rfl, (hM.sub (.cons _ (.cons_cons _ (.cons _ (.cons _ (.cons _ (.cons _ (.cons _ (List.nil_sublist _))))))))), ?_⟩
         intro a hA
         refine any_tk (v := .pointer (some ⟨g25, (plI nm fs) * 2, none⟩)) hA 6 rfl rfl rfl rfl hP (hM.sub (.cons _ (.cons_cons _ (.cons _ (.cons _ (.cons _ (.cons _ (.cons _ (List.nil_sublist _))))))))) (fun w1 hM => does_indexX Try.underlying35 (by kernel_rfl) rfl rfl rfl rfl (show plI nm fs < fs.length by omega)) ?_
         intro a hA
         refine any_one (by kernel_rfl) (g_storeE (cs := [.string nm, .slice so45 d.length ca46]) (L' := (.row BY 1 (.slice so45 d.length ca46) d.length ((Lib.byteCells d)) :: .obj g37 (.cells #[.slice (some ⟨g25, 0, none⟩) fs.length fs.length, .slice sI32 il.length cI33, .slice sO34 ol.length cO35] 37) :: .row 88 2 (.slice (some ⟨g25, 0, none⟩) fs.length fs.length) fs.length ((over (cellsF gs) ((plI nm fs) * 2) [.string nm, .slice so45 d.length ca46])) :: .row BY 1 (.slice sI32 il.length cI33) il.length ((Lib.byteCells il)) :: .row BY 1 (.slice sO34 ol.length cO35) ol.length ((Lib.byteCells ol)) :: .obj g4 (.cells #[.slice none 0 0, .slice none 0 0, .slice none 0 0] 37) :: .obj g2 (.cells #[.slice sF fs.length cF_, .slice sI il.length cI, .slice sO ol.length cO] 37) :: D)) (us := []) hA hM 7 rfl rfl rfl (m_storeE rfl rfl rfl (by kernel_rfl) hM 2 rfl (show (plI nm fs) * 2 + 2 ≤ fs.length * 2 by omega) rfl) 2 rfl rfl ?_)
         intro w48 hM
         refine ⟨(hM.sub (.cons _ (.cons_cons _ (.cons _ (.cons _ (.cons _ (.cons _ (.cons _ (List.nil_sublist _))))))))), ?_⟩
         refine any_end (by kernel_rfl) ?_
         refine hK42 _ _ ?_
         refine wp_seq_k (fun K49 hK49 => ?_)
         refine wp_region_lit ?_
         refine seq_do hA rfl rfl rfl (m_loadS hM We_isS_37 rfl 1 rfl (cs := [.slice (some ⟨g25, 0, none⟩) fs.length fs.length, .slice sI32 il.length cI33, .slice sO34 ol.length cO35]) rfl rfl) ?_
         intro a hA
         refine s_store (us := [.slice (some ⟨g25, 0, none⟩) fs.length fs.length, .slice sI32 il.length cI33, .slice sO34 ol.length cO35]) (L' := (.row BY 1 (.slice so45 d.length ca46) d.length ((Lib.byteCells d)) :: .obj g37 (.cells #[.slice (some ⟨g25, 0, none⟩) fs.length fs.length, .slice sI32 il.length cI33, .slice sO34 ol.length cO35] 37) :: .row 88 2 (.slice (some ⟨g25, 0, none⟩) fs.length fs.length) fs.length ((over (cellsF gs) ((plI nm fs) * 2) [.string nm, .slice so45 d.length ca46])) :: .row BY 1 (.slice sI32 il.length cI33) il.length ((Lib.byteCells il)) :: .row BY 1 (.slice sO34 ol.length cO35) ol.length ((Lib.byteCells ol)) :: .obj g4 (.cells #[.slice (some ⟨g25, 0, none⟩) fs.length fs.length, .slice sI32 il.length cI33, .slice sO34 ol.length cO35] 37) :: .obj g2 (.cells #[.slice sF fs.length cF_, .slice sI il.length cI, .slice sO ol.length cO] 37) :: D)) hA hM rfl rfl (m_store rfl rfl rfl (by kernel_rfl) hM 5 rfl rfl rfl) 5 rfl rfl rfl ?_
         intro w50 hM
         refine seq_do hA rfl rfl rfl (does_assign rfl) ?_
         intro a hA
         refine seq_end ?_
         refine hK49 _ _ ?_
         refine wp_ret ?_
         refine hret _ _ ?_
         refine ends (v := .tuple #[.agg #[.slice (some ⟨g25, 0, none⟩) fs.length fs.length, .slice sI32 il.length cI33, .slice sO34 ol.length cO35], .int .i64 0]) hA rfl (.cons (res_cellS hM We_isS_37 rfl 5 rfl (cs := [.slice (some ⟨g25, 0, none⟩) fs.length fs.length, .slice sI32 il.length cI33, .slice sO34 ol.length cO35]) rfl rfl) (.cons (res_tmp rfl) .nil)) rfl ?_
         rw [put_old (nm := nm) (v := .slice so45 d.length ca46) (d := d) (by omega)] at hM
         rw [show putR nm d fs il ol = (0, putF nm d fs, il, ol) from by unfold putR; rw [if_neg (by rw [hb12]; decide), if_neg (by rw [hb16]; decide), if_neg (by omega), if_neg (fun k9 => by have k8 := k9.1; rw [hlk, hb7] at k8; cases k8)]]
         have hrp : readF (gs.take (plI nm fs) ++ (nm, .slice so45 d.length ca46, d) :: gs.drop (plI nm fs + 1)) = putF nm d fs := by rw [read_put hgr, hpu]
         exact ret_own hM (noBld_cons (by simp) (noBld_cons (by simp) (noBld_cons (by simp) (noBld_cons (by simp) (noBld_cons (by simp) (noBld_cons (by simp) (noBld_cons (by simp) hnD))))))) (mem_at (k := 2) rfl) (mem_at (k := 3) rfl) (mem_at (k := 4) rfl) (gs_put hGD (fun c hc => (List.mem_cons_of_mem _ (List.mem_cons_of_mem _ (List.mem_cons_of_mem _ (List.mem_cons_of_mem _ (List.mem_cons_of_mem _ (List.mem_cons_of_mem _ (List.mem_cons_of_mem _ hc)))))))) (mem_at (k := 0) rfl)) hrp (by rw [hpu, List.length_append, List.length_cons, List.length_take, List.length_drop]; omega)
     · refine seq_call hA rfl rfl rfl (enters_func rfl rfl (fun w => by kernel_rfl)) (allowed_as hb16) ?_
       rintro _ w52 ⟨rfl, hb51⟩
       replace hM := hM.call hb51
       refine ⟨_, rfl, ?_⟩
       intro a hA
       refine seq_do (v := .bool true) hA rfl rfl rfl (does_un rfl un_not) ?_
       intro a hA
       refine seq_do hA rfl rfl rfl (does_assign rfl) ?_
       intro a hA
       refine seq_end ?_
       refine hK15 _ _ ?_
       refine wp_cond_true (hA.ev rfl) ?_
       refine wp_seq_k (fun K53 hK53 => ?_)
       refine wp_region_lit ?_
       refine seq_do (v := .agg #[.slice none 0 0, .slice none 0 0, .slice none 0 0]) hA rfl rfl rfl (does_build rfl (fun w => by kernel_rfl)) ?_
       intro a hA
       refine s_store (us := [.slice none 0 0, .slice none 0 0, .slice none 0 0]) (L' := (.obj g4 (.cells #[.slice none 0 0, .slice none 0 0, .slice none 0 0] 37) :: .obj g2 (.cells #[.slice sF fs.length cF_, .slice sI il.length cI, .slice sO ol.length cO] 37) :: [])) hA hM rfl rfl (m_store rfl rfl rfl (by kernel_rfl) hM 0 rfl rfl rfl) 0 rfl rfl rfl ?_
       intro w54 hM
       refine seq_do hA rfl rfl rfl (does_assign rfl) ?_
       intro a hA
       refine seq_end ?_
       refine hK53 _ _ ?_
       refine wp_ret ?_
       refine hret _ _ ?_
       refine ends (v := .tuple #[.agg #[.slice none 0 0, .slice none 0 0, .slice none 0 0], .int .i64 1]) hA rfl (.cons (res_cellS hM We_isS_37 rfl 0 rfl (cs := [.slice none 0 0, .slice none 0 0, .slice none 0 0]) rfl rfl) (.cons (res_tmp rfl) .nil)) rfl ?_
       rw [show putR nm d fs il ol = (1, [], [], []) from by unfold putR; rw [if_neg (by rw [hb12]; decide), if_pos hb16]]
       exact ret_zero hM
   · refine seq_call hA rfl rfl rfl (enters_func rfl rfl (fun w => by kernel_rfl)) (sound_as (hF.below hM.bel) hn hb12) ?_
     rintro _ w56 ⟨rfl, hb55⟩
     replace hM := hM.call hb55
     refine ⟨_, rfl, ?_⟩
     intro a hA
     refine seq_do (v := .bool true) hA rfl rfl rfl (does_un rfl un_not) ?_
     intro a hA
     refine seq_do hA rfl rfl rfl (does_assign rfl) ?_
     intro a hA
     refine seq_end ?_
     refine hK11 _ _ ?_
     refine wp_cond_true (hA.ev rfl) ?_
     refine wp_seq_k (fun K57 hK57 => ?_)
     refine wp_region_lit ?_
     refine seq_do (v := .agg #[.slice none 0 0, .slice none 0 0, .slice none 0 0]) hA rfl rfl rfl (does_build rfl (fun w => by kernel_rfl)) ?_
     intro a hA
     refine s_store (us := [.slice none 0 0, .slice none 0 0, .slice none 0 0]) (L' := (.obj g4 (.cells #[.slice none 0 0, .slice none 0 0, .slice none 0 0] 37) :: .obj g2 (.cells #[.slice sF fs.length cF_, .slice sI il.length cI, .slice sO ol.length cO] 37) :: [])) hA hM rfl rfl (m_store rfl rfl rfl (by kernel_rfl) hM 0 rfl rfl rfl) 0 rfl rfl rfl ?_
     intro w58 hM
     refine seq_do hA rfl rfl rfl (does_assign rfl) ?_
     intro a hA
     refine seq_end ?_
     refine hK57 _ _ ?_
     refine wp_ret ?_
     refine hret _ _ ?_
     refine ends (v := .tuple #[.agg #[.slice none 0 0, .slice none 0 0, .slice none 0 0], .int .i64 2]) hA rfl (.cons (res_cellS hM We_isS_37 rfl 0 rfl (cs := [.slice none 0 0, .slice none 0 0, .slice none 0 0]) rfl rfl) (.cons (res_tmp rfl) .nil)) rfl ?_
     rw [show putR nm d fs il ol = (2, [], [], []) from by unfold putR; rw [if_pos hb12]]
     exact ret_zero hM
 · refine seq_call hA rfl rfl rfl (enters_func rfl rfl (fun w => by kernel_rfl)) (place_as (hF.below hM.bel) hn hb7) ?_
   rintro _ w60 ⟨rfl, hb59⟩
   replace hM := hM.call hb59
   refine ⟨_, rfl, ?_⟩
   intro a hA
   refine seq_do hA rfl rfl rfl (does_move rfl) ?_
   intro a hA
   refine seq_do (v := .int .i64 (((plI nm fs : Nat) : Int))) hA rfl rfl rfl (does_extract (vs := [.int .i64 (((plI nm fs : Nat) : Int)), .bool false]) rfl rfl) ?_
   intro a hA
   refine seq_do (v := .bool false) hA rfl rfl rfl (does_extract (vs := [.int .i64 (((plI nm fs : Nat) : Int)), .bool false]) rfl rfl) ?_
   intro a hA
   refine seq_do hA rfl rfl rfl (does_assign rfl) ?_
   intro a hA
   refine seq_do hA rfl rfl rfl (does_assign rfl) ?_
   intro a hA
   refine seq_end ?_
   refine hK6 _ _ ?_
   refine wp_seq_k (fun K61 hK61 => ?_)
   refine wp_block ?_
   refine wp_seq_k (fun K62 hK62 => ?_)
   refine wp_region_lit ?_
   refine seq_do hA rfl rfl rfl (m_loadS hM We_isS_37 rfl 1 rfl (cs := [.slice sF fs.length cF_, .slice sI il.length cI, .slice sO ol.length cO]) rfl rfl) ?_
   intro a hA
   rcases Bool.eq_false_or_eq_true (soundS fs il ol) with hb63 | hb63
   · refine seq_call hA rfl rfl rfl (enters_func rfl rfl (fun w => by kernel_rfl)) (sound_as (hF.below hM.bel) hn hb63) ?_
     rintro _ w65 ⟨rfl, hb64⟩
     replace hM := hM.call hb64
     refine ⟨_, rfl, ?_⟩
     intro a hA
     refine seq_do (v := .bool false) hA rfl rfl rfl (does_un rfl un_not) ?_
     intro a hA
     refine seq_do hA rfl rfl rfl (does_assign rfl) ?_
     intro a hA
     refine seq_end ?_
     refine hK62 _ _ ?_
     refine wp_cond_false (hA.ev rfl) ?_
     refine wp_seq_k (fun K66 hK66 => ?_)
     have hsp := sound_parts hb63
     obtain ⟨hpl, hpt, hpf⟩ := place_facts (n := nm) hsp.2.2.2
     have hlk := look_there (nm := nm) hsp.2.2.2
     obtain ⟨hlo, hpu, hde⟩ := hpf hb7
     refine wp_region_lit ?_
     refine seq_do hA rfl rfl rfl (does_move rfl) ?_
     intro a hA
     rcases Bool.eq_false_or_eq_true (namedB nm) with hb67 | hb67
     · refine seq_call hA rfl rfl rfl (enters_func rfl rfl (fun w => by kernel_rfl)) (allowed_as hb67) ?_
       rintro _ w69 ⟨rfl, hb68⟩
       replace hM := hM.call hb68
       refine ⟨_, rfl, ?_⟩
       intro a hA
       refine seq_do (v := .bool false) hA rfl rfl rfl (does_un rfl un_not) ?_
       intro a hA
       refine seq_do hA rfl rfl rfl (does_assign rfl) ?_
       intro a hA
       refine seq_end ?_
       refine hK66 _ _ ?_
       refine wp_cond_false (hA.ev rfl) ?_
       refine wp_seq_k (fun K70 hK70 => ?_)
       refine wp_region_lit ?_
       refine seq_do hA rfl rfl rfl (does_move rfl) ?_
       intro a hA
       refine seq_do (v := .int .i64 (((d.length : Nat) : Int))) hA rfl rfl rfl (does_len Try.underlying24 rfl) ?_
       intro a hA
       rcases Bool.eq_false_or_eq_true (decide (65536 < ((d.length : Nat) : Int))) with hb71 | hb71
       · have hb71' := of_decide_eq_true hb71
         refine seq_do (v := .bool true) hA rfl rfl rfl (does_bin rfl rfl (fun w => (bin_gtr w).trans (by rw [hb71]))) ?_
         intro a hA
         refine seq_do hA rfl rfl rfl (does_assign rfl) ?_
         intro a hA
         refine seq_end ?_
         refine hK70 _ _ ?_
         refine wp_cond_true (hA.ev rfl) ?_
         refine wp_seq_k (fun K72 hK72 => ?_)
         refine wp_region_lit ?_
         refine seq_do (v := .agg #[.slice none 0 0, .slice none 0 0, .slice none 0 0]) hA rfl rfl rfl (does_build rfl (fun w => by kernel_rfl)) ?_
         intro a hA
         refine s_store (us := [.slice none 0 0, .slice none 0 0, .slice none 0 0]) (L' := (.obj g4 (.cells #[.slice none 0 0, .slice none 0 0, .slice none 0 0] 37) :: .obj g2 (.cells #[.slice sF fs.length cF_, .slice sI il.length cI, .slice sO ol.length cO] 37) :: [])) hA hM rfl rfl (m_store rfl rfl rfl (by kernel_rfl) hM 0 rfl rfl rfl) 0 rfl rfl rfl ?_
         intro w73 hM
         refine seq_do hA rfl rfl rfl (does_assign rfl) ?_
         intro a hA
         refine seq_end ?_
         refine hK72 _ _ ?_
         refine wp_ret ?_
         refine hret _ _ ?_
         refine ends (v := .tuple #[.agg #[.slice none 0 0, .slice none 0 0, .slice none 0 0], .int .i64 4]) hA rfl (.cons (res_cellS hM We_isS_37 rfl 0 rfl (cs := [.slice none 0 0, .slice none 0 0, .slice none 0 0]) rfl rfl) (.cons (res_tmp rfl) .nil)) rfl ?_
         rw [show putR nm d fs il ol = (4, [], [], []) from by unfold putR; rw [if_neg (by rw [hb63]; decide), if_neg (by rw [hb67]; decide), if_pos (by omega)]]
         exact ret_zero hM
       · have hb71' := of_decide_eq_false hb71
         refine seq_do (v := .bool false) hA rfl rfl rfl (does_bin rfl rfl (fun w => (bin_gtr w).trans (by rw [hb71]))) ?_
         intro a hA
         refine seq_do hA rfl rfl rfl (does_assign rfl) ?_
         intro a hA
         refine seq_end ?_
         refine hK70 _ _ ?_
         refine wp_cond_false (hA.ev rfl) ?_
         refine wp_seq_k (fun K74 hK74 => ?_)
         refine wp_region_lit ?_
         refine seq_do hA rfl rfl rfl (does_move rfl) ?_
         intro a hA
         refine seq_do (v := .bool true) hA rfl rfl rfl (does_un rfl un_not) ?_
         intro a hA
         refine seq_do hA rfl rfl rfl (does_move rfl) ?_
         intro a hA
         refine seq_do (v := .pointer (some ⟨g2, 0, none⟩)) hA rfl rfl rfl (does_field We_fld_37_0 rfl rfl) ?_
         intro a hA
         refine seq_do hA rfl rfl rfl (m_load1 hM We_is1_35 rfl 1 rfl rfl) ?_
         intro a hA
         refine seq_do (v := .int .i64 (((fs.length : Nat) : Int))) hA rfl rfl rfl (does_len Try.underlying35 rfl) ?_
         intro a hA
         rcases Bool.eq_false_or_eq_true ((((fs.length : Nat) : Int) == 64)) with hb75 | hb75
         · have hb75' := eq_of_beq hb75
           refine seq_do (v := .bool true) hA rfl rfl rfl (does_bin rfl rfl (fun w => (bin_eql w).trans (by rw [hb75]))) ?_
           intro a hA
           refine seq_do (v := .bool true) hA rfl rfl rfl (does_pick rfl rfl rfl rfl) ?_
           intro a hA
           refine seq_do hA rfl rfl rfl (does_assign rfl) ?_
           intro a hA
           refine seq_end ?_
           refine hK74 _ _ ?_
           refine wp_cond_true (hA.ev rfl) ?_
           refine wp_seq_k (fun K76 hK76 => ?_)
           refine wp_region_lit ?_
           refine seq_do (v := .agg #[.slice none 0 0, .slice none 0 0, .slice none 0 0]) hA rfl rfl rfl (does_build rfl (fun w => by kernel_rfl)) ?_
           intro a hA
           refine s_store (us := [.slice none 0 0, .slice none 0 0, .slice none 0 0]) (L' := (.obj g4 (.cells #[.slice none 0 0, .slice none 0 0, .slice none 0 0] 37) :: .obj g2 (.cells #[.slice sF fs.length cF_, .slice sI il.length cI, .slice sO ol.length cO] 37) :: [])) hA hM rfl rfl (m_store rfl rfl rfl (by kernel_rfl) hM 0 rfl rfl rfl) 0 rfl rfl rfl ?_
           intro w77 hM
           refine seq_do hA rfl rfl rfl (does_assign rfl) ?_
           intro a hA
           refine seq_end ?_
           refine hK76 _ _ ?_
           refine wp_ret ?_
           refine hret _ _ ?_
           refine ends (v := .tuple #[.agg #[.slice none 0 0, .slice none 0 0, .slice none 0 0], .int .i64 9]) hA rfl (.cons (res_cellS hM We_isS_37 rfl 0 rfl (cs := [.slice none 0 0, .slice none 0 0, .slice none 0 0]) rfl rfl) (.cons (res_tmp rfl) .nil)) rfl ?_
           rw [show putR nm d fs il ol = (9, [], [], []) from by unfold putR; rw [if_neg (by rw [hb63]; decide), if_neg (by rw [hb67]; decide), if_neg (by omega), if_pos ⟨by rw [hlk, hb7]; rfl, by omega⟩]]
           exact ret_zero hM
         · have hb75' := ne_of_beq_false hb75
           refine seq_do (v := .bool false) hA rfl rfl rfl (does_bin rfl rfl (fun w => (bin_eql w).trans (by rw [hb75]))) ?_
           intro a hA
           refine seq_do (v := .bool false) hA rfl rfl rfl (does_pick rfl rfl rfl rfl) ?_
           intro a hA
           refine seq_do hA rfl rfl rfl (does_assign rfl) ?_
           intro a hA
           refine seq_end ?_
           refine hK74 _ _ ?_
           refine wp_cond_false (hA.ev rfl) ?_
           refine wp_skip ?_
           refine hK61 _ _ ?_
           refine wp_seq_k (fun K78 hK78 => ?_)
           refine wp_region_lit ?_
           refine seq_do hA rfl rfl rfl (m_loadS hM We_isS_37 rfl 1 rfl (cs := [.slice sF fs.length cF_, .slice sI il.length cI, .slice sO ol.length cO]) rfl rfl) ?_
           intro a hA
           refine seq_call hA rfl rfl rfl (enters_func rfl rfl (fun w => by kernel_rfl)) (copied_any (cF_ := cF_) (cI := cI) (cO := cO) (hF.below hM.bel) (hI.below hM.bel) (hO.below hM.bel) hb63) ?_
           rintro _ w90 ⟨g79, vI80, vO81, rfl, hOw82⟩
           obtain ⟨gs, D, hM85, hGD, hgr, hnD⟩ := hOw82
           obtain ⟨sI86, cI87, rfl⟩ := owns_sliceE (hM85.has 1 rfl)
           obtain ⟨sO88, cO89, rfl⟩ := owns_sliceE (hM85.has 2 rfl)
           have hgl : gs.length = fs.length := by rw [← hgr, readF_len]
           replace hM : Mg w w90 (.row 88 2 (.slice (some ⟨g79, 0, none⟩) fs.length fs.length) fs.length ((cellsF gs)) :: .row BY 1 (.slice sI86 il.length cI87) il.length ((Lib.byteCells il)) :: .row BY 1 (.slice sO88 ol.length cO89) ol.length ((Lib.byteCells ol)) :: .obj g4 (.cells #[.slice none 0 0, .slice none 0 0, .slice none 0 0] 37) :: .obj g2 (.cells #[.slice sF fs.length cF_, .slice sI il.length cI, .slice sO ol.length cO] 37) :: D) := ((hM.both hM85 (noBld_cons (by simp) (noBld_cons (by simp) (noBld_quiet quietL_nil))) (noBld_cons (by simp) (noBld_cons (by simp) (noBld_cons (by simp) hnD)))).perm (perm_own _ _ _ _ _))
           refine ⟨_, rfl, ?_⟩
           intro a hA
           refine s_new (vs := [.slice none 0 0, .slice none 0 0, .slice none 0 0]) (t := 37) hA hM rfl rfl rfl (fun g => .pointer (some ⟨g, 0, none⟩)) (does_alloc (z := .agg #[.slice none 0 0, .slice none 0 0, .slice none 0 0]) (by kernel_rfl) rfl) (by decide) ?_
           intro g91 w92 hM a hA
           refine s_store (us := [.slice (some ⟨g79, 0, none⟩) fs.length fs.length, .slice sI86 il.length cI87, .slice sO88 ol.length cO89]) (L' := (.obj g91 (.cells #[.slice (some ⟨g79, 0, none⟩) fs.length fs.length, .slice sI86 il.length cI87, .slice sO88 ol.length cO89] 37) :: .row 88 2 (.slice (some ⟨g79, 0, none⟩) fs.length fs.length) fs.length ((cellsF gs)) :: .row BY 1 (.slice sI86 il.length cI87) il.length ((Lib.byteCells il)) :: .row BY 1 (.slice sO88 ol.length cO89) ol.length ((Lib.byteCells ol)) :: .obj g4 (.cells #[.slice none 0 0, .slice none 0 0, .slice none 0 0] 37) :: .obj g2 (.cells #[.slice sF fs.length cF_, .slice sI il.length cI, .slice sO ol.length cO] 37) :: D)) hA hM rfl rfl (m_store rfl rfl rfl (by kernel_rfl) hM 0 rfl rfl rfl) 0 rfl rfl rfl ?_
           intro w93 hM
           refine seq_end ?_
           refine hK78 _ _ ?_
           refine wp_seq_k (fun K94 hK94 => ?_)
           refine wp_seq_k (fun K95 hK95 => ?_)
           refine wp_region_lit ?_
           refine seq_do hA rfl rfl rfl (does_move rfl) ?_
           intro a hA
           refine seq_do (v := .bool true) hA rfl rfl rfl (does_un rfl un_not) ?_
           intro a hA
           refine seq_end ?_
           refine hK95 _ _ ?_
           refine wp_cond_true (hA.ev rfl) ?_
           refine wp_region_lit ?_
           refine seq_do (v := .pointer (some ⟨g91, 0, none⟩)) hA rfl rfl rfl (does_field We_fld_37_0 rfl rfl) ?_
           intro a hA
           refine seq_do hA rfl rfl rfl (m_load1 hM We_is1_35 rfl 0 rfl rfl) ?_
           intro a hA
           refine seq_do hA rfl rfl rfl (does_move rfl) ?_
           intro a hA
           refine seq_do (v := .agg #[.string (⟨#[]⟩), .slice none 0 0]) hA rfl rfl rfl (does_build rfl (fun w => by kernel_rfl)) ?_
           intro a hA
           refine s_litE (e := 88) (sz := 2) (m := 1) (vs := [.string (⟨#[]⟩), .slice none 0 0]) hA hM rfl rfl rfl (does_buildSlice rfl (by kernel_rfl)) rfl rfl (.inl (by decide)) ?_
           intro g96 w97 hM a hA
           replace hM : Mg w w97 (.row 88 2 (.slice (some ⟨g79, 0, none⟩) fs.length fs.length) fs.length ((cellsF gs)) :: .row 88 2 (.slice (some ⟨g96, 0, none⟩) 1 1) 1 ([.string (⟨#[]⟩), .slice none 0 0]) :: .obj g91 (.cells #[.slice (some ⟨g79, 0, none⟩) fs.length fs.length, .slice sI86 il.length cI87, .slice sO88 ol.length cO89] 37) :: .row BY 1 (.slice sI86 il.length cI87) il.length ((Lib.byteCells il)) :: .row BY 1 (.slice sO88 ol.length cO89) ol.length ((Lib.byteCells ol)) :: .obj g4 (.cells #[.slice none 0 0, .slice none 0 0, .slice none 0 0] 37) :: .obj g2 (.cells #[.slice sF fs.length cF_, .slice sI il.length cI, .slice sO ol.length cO] 37) :: D) := hM.perm (List.perm_middle (l₁ := [_, _]))
           have hx1 := one_own hM (fun c hc => (List.mem_cons_of_mem _ (List.mem_cons_of_mem _ (List.mem_cons_of_mem _ (List.mem_cons_of_mem _ (List.mem_cons_of_mem _ (List.mem_cons_of_mem _ (List.mem_cons_of_mem _ hc)))))))) hGD
           refine seq_call hA rfl rfl rfl (enters_func rfl rfl (fun w => by kernel_rfl)) (insert_any (i := plI nm fs) (by omega) (by omega) hx1 hM) ?_
           rintro _ w101 ⟨g98, cp99, rfl, hM100⟩
           replace hM : Mg w w101 (.row 88 2 (.slice (some ⟨g98, 0, none⟩) ((fs.length + 1)) cp99) ((fs.length + 1)) (((cellsF gs).take ((plI nm fs) * 2) ++ [.string ⟨#[]⟩, .slice none 0 0] ++ (cellsF gs).drop ((plI nm fs) * 2))) :: .obj g91 (.cells #[.slice (some ⟨g79, 0, none⟩) fs.length fs.length, .slice sI86 il.length cI87, .slice sO88 ol.length cO89] 37) :: .row BY 1 (.slice sI86 il.length cI87) il.length ((Lib.byteCells il)) :: .row BY 1 (.slice sO88 ol.length cO89) ol.length ((Lib.byteCells ol)) :: .obj g4 (.cells #[.slice none 0 0, .slice none 0 0, .slice none 0 0] 37) :: .obj g2 (.cells #[.slice sF fs.length cF_, .slice sI il.length cI, .slice sO ol.length cO] 37) :: D) := hM100
           refine ⟨_, rfl, ?_⟩
           intro a hA
           refine seq_do (v := .pointer (some ⟨g91, 0, none⟩)) hA rfl rfl rfl (does_field We_fld_37_0 rfl rfl) ?_
           intro a hA
           refine s_store (us := [.slice (some ⟨g98, 0, none⟩) ((fs.length + 1)) cp99, .slice sI86 il.length cI87, .slice sO88 ol.length cO89]) (L' := (.row 88 2 (.slice (some ⟨g98, 0, none⟩) ((fs.length + 1)) cp99) ((fs.length + 1)) (((cellsF gs).take ((plI nm fs) * 2) ++ [.string ⟨#[]⟩, .slice none 0 0] ++ (cellsF gs).drop ((plI nm fs) * 2))) :: .obj g91 (.cells #[.slice (some ⟨g98, 0, none⟩) ((fs.length + 1)) cp99, .slice sI86 il.length cI87, .slice sO88 ol.length cO89] 37) :: .row BY 1 (.slice sI86 il.length cI87) il.length ((Lib.byteCells il)) :: .row BY 1 (.slice sO88 ol.length cO89) ol.length ((Lib.byteCells ol)) :: .obj g4 (.cells #[.slice none 0 0, .slice none 0 0, .slice none 0 0] 37) :: .obj g2 (.cells #[.slice sF fs.length cF_, .slice sI il.length cI, .slice sO ol.length cO] 37) :: D)) hA hM rfl rfl (m_store rfl rfl rfl (by kernel_rfl) hM 1 rfl rfl rfl) 1 rfl rfl rfl ?_
           intro w102 hM
           refine seq_end ?_
           refine hK94 _ _ ?_
           refine wp_seq_k (fun K103 hK103 => ?_)
           refine wp_draw (S := fun w1 => Mg w w1 (.obj g91 (.cells #[.slice (some ⟨g98, 0, none⟩) ((fs.length + 1)) cp99, .slice sI86 il.length cI87, .slice sO88 ol.length cO89] 37) :: [])) (by kernel_rfl) ?_
           replace hM := hM.drew
           refine any_tk (v := .pointer (some ⟨g91, 0, none⟩)) hA 0 rfl rfl rfl rfl hP (hM.sub (.cons _ (.cons_cons _ (.cons _ (.cons _ (.cons _ (.cons _ (List.nil_sublist _)))))))) (fun w1 hM => does_field We_fld_37_0 rfl rfl) ?_
           intro a hA
           refine any_tk hA 1 rfl rfl rfl rfl hP (hM.sub (.cons _ (.cons_cons _ (.cons _ (.cons _ (.cons _ (.cons _ (List.nil_sublist _)))))))) (fun w1 hM => m_load1 hM We_is1_35 rfl 0 rfl rfl) ?_
           intro a hA
           refine any_tk hA 2 rfl rfl rfl rfl hP (hM.sub (.cons _ (.cons_cons _ (.cons _ (.cons _ (.cons _ (.cons _ (List.nil_sublist _)))))))) (fun w1 hM => does_move rfl) ?_
           intro a hA
           refine any_tk hA 3 rfl rfl rfl rfl hP (hM.sub (.cons _ (.cons_cons _ (.cons _ (.cons _ (.cons _ (.cons _ (List.nil_sublist _)))))))) (fun w1 hM => does_move rfl) ?_
           intro a hA
           refine any_tk hA 4 rfl rfl rfl rfl hP (hM.sub (.cons _ (.cons_cons _ (.cons _ (.cons _ (.cons _ (.cons _ (List.nil_sublist _)))))))) (fun w1 hM => does_move rfl) ?_
           intro a hA
           refine any_one (by kernel_rfl) (op_call hA 5 rfl rfl rfl rfl (enters_func rfl rfl (fun w => by kernel_rfl)) (newFile_any (by have h7 := of_decide_eq_true (show decide (1 ≤ nm.size ∧ nm.size ≤ 255) = true from hb67); omega) (hb.below hM.bel) (by omega)) ?_)
           rintro _ w108 ⟨v104, rfl, hM105⟩
           obtain ⟨so106, ca107, rfl⟩ := owns_sliceE (hM105.has 0 rfl)
           replace hM : Mg w w108 (.row BY 1 (.slice so106 d.length ca107) d.length ((Lib.byteCells d)) :: .row 88 2 (.slice (some ⟨g98, 0, none⟩) ((fs.length + 1)) cp99) ((fs.length + 1)) (((cellsF gs).take ((plI nm fs) * 2) ++ [.string ⟨#[]⟩, .slice none 0 0] ++ (cellsF gs).drop ((plI nm fs) * 2))) :: .obj g91 (.cells #[.slice (some ⟨g98, 0, none⟩) ((fs.length + 1)) cp99, .slice sI86 il.length cI87, .slice sO88 ol.length cO89] 37) :: .row BY 1 (.slice sI86 il.length cI87) il.length ((Lib.byteCells il)) :: .row BY 1 (.slice sO88 ol.length cO89) ol.length ((Lib.byteCells ol)) :: .obj g4 (.cells #[.slice none 0 0, .slice none 0 0, .slice none 0 0] 37) :: .obj g2 (.cells #[.slice sF fs.length cF_, .slice sI il.length cI, .slice sO ol.length cO] 37) :: D) := (hM.both hM105 (noBld_cons (by simp) (noBld_cons (by simp) (noBld_cons (by simp) (noBld_cons (by simp) (noBld_cons (by simp) (noBld_cons (by simp) hnD)))))) (noBld_cons (by simp) (noBld_quiet quietL_nil)))
           refine ⟨_, rfl, (hM.sub (.cons _ (.cons _ (.cons_cons _ (.cons _ (.cons _ (.cons _ (.cons _ (List.nil_sublist _))))))))), ?_⟩
           intro a hA
           refine any_tk (v := .pointer (some ⟨g98, (plI nm fs) * 2, none⟩)) hA 6 rfl rfl rfl rfl hP (hM.sub (.cons _ (.cons _ (.cons_cons _ (.cons _ (.cons _ (.cons _ (.cons _ (List.nil_sublist _))))))))) (fun w1 hM => does_indexX Try.underlying35 (by kernel_rfl) rfl rfl rfl rfl (show plI nm fs < (fs.length + 1) by omega)) ?_
           intro a hA
           refine any_one (by kernel_rfl) (g_storeE (cs := [.string nm, .slice so106 d.length ca107]) (L' := (.row BY 1 (.slice so106 d.length ca107) d.length ((Lib.byteCells d)) :: .row 88 2 (.slice (some ⟨g98, 0, none⟩) ((fs.length + 1)) cp99) ((fs.length + 1)) ((over ((cellsF gs).take ((plI nm fs) * 2) ++ [.string ⟨#[]⟩, .slice none 0 0] ++ (cellsF gs).drop ((plI nm fs) * 2)) ((plI nm fs) * 2) [.string nm, .slice so106 d.length ca107])) :: .obj g91 (.cells #[.slice (some ⟨g98, 0, none⟩) ((fs.length + 1)) cp99, .slice sI86 il.length cI87, .slice sO88 ol.length cO89] 37) :: .row BY 1 (.slice sI86 il.length cI87) il.length ((Lib.byteCells il)) :: .row BY 1 (.slice sO88 ol.length cO89) ol.length ((Lib.byteCells ol)) :: .obj g4 (.cells #[.slice none 0 0, .slice none 0 0, .slice none 0 0] 37) :: .obj g2 (.cells #[.slice sF fs.length cF_, .slice sI il.length cI, .slice sO ol.length cO] 37) :: D)) (us := []) hA hM 7 rfl rfl rfl (m_storeE rfl rfl rfl (by kernel_rfl) hM 1 rfl (show (plI nm fs) * 2 + 2 ≤ ((fs.length + 1)) * 2 by omega) rfl) 1 rfl rfl ?_)
           intro w109 hM
           refine ⟨(hM.sub (.cons _ (.cons _ (.cons_cons _ (.cons _ (.cons _ (.cons _ (.cons _ (List.nil_sublist _))))))))), ?_⟩
           refine any_end (by kernel_rfl) ?_
           refine hK103 _ _ ?_
           refine wp_seq_k (fun K110 hK110 => ?_)
           refine wp_region_lit ?_
           refine seq_do hA rfl rfl rfl (m_loadS hM We_isS_37 rfl 2 rfl (cs := [.slice (some ⟨g98, 0, none⟩) ((fs.length + 1)) cp99, .slice sI86 il.length cI87, .slice sO88 ol.length cO89]) rfl rfl) ?_
           intro a hA
           refine s_store (us := [.slice (some ⟨g98, 0, none⟩) ((fs.length + 1)) cp99, .slice sI86 il.length cI87, .slice sO88 ol.length cO89]) (L' := (.row BY 1 (.slice so106 d.length ca107) d.length ((Lib.byteCells d)) :: .row 88 2 (.slice (some ⟨g98, 0, none⟩) ((fs.length + 1)) cp99) ((fs.length + 1)) ((over ((cellsF gs).take ((plI nm fs) * 2) ++ [.string ⟨#[]⟩, .slice none 0 0] ++ (cellsF gs).drop ((plI nm fs) * 2)) ((plI nm fs) * 2) [.string nm, .slice so106 d.length ca107])) :: .obj g91 (.cells #[.slice (some ⟨g98, 0, none⟩) ((fs.length + 1)) cp99, .slice sI86 il.length cI87, .slice sO88 ol.length cO89] 37) :: .row BY 1 (.slice sI86 il.length cI87) il.length ((Lib.byteCells il)) :: .row BY 1 (.slice sO88 ol.length cO89) ol.length ((Lib.byteCells ol)) :: .obj g4 (.cells #[.slice (some ⟨g98, 0, none⟩) ((fs.length + 1)) cp99, .slice sI86 il.length cI87, .slice sO88 ol.length cO89] 37) :: .obj g2 (.cells #[.slice sF fs.length cF_, .slice sI il.length cI, .slice sO ol.length cO] 37) :: D)) hA hM rfl rfl (m_store rfl rfl rfl (by kernel_rfl) hM 5 rfl rfl rfl) 5 rfl rfl rfl ?_
           intro w111 hM
           refine seq_do hA rfl rfl rfl (does_assign rfl) ?_
           intro a hA
           refine seq_end ?_
           refine hK110 _ _ ?_
           refine wp_ret ?_
           refine hret _ _ ?_
           refine ends (v := .tuple #[.agg #[.slice (some ⟨g98, 0, none⟩) ((fs.length + 1)) cp99, .slice sI86 il.length cI87, .slice sO88 ol.length cO89], .int .i64 0]) hA rfl (.cons (res_cellS hM We_isS_37 rfl 5 rfl (cs := [.slice (some ⟨g98, 0, none⟩) ((fs.length + 1)) cp99, .slice sI86 il.length cI87, .slice sO88 ol.length cO89]) rfl rfl) (.cons (res_tmp rfl) .nil)) rfl ?_
           rw [put_new (nm := nm) (v := .slice so106 d.length ca107) (d := d) (by omega)] at hM
           rw [show putR nm d fs il ol = (0, putF nm d fs, il, ol) from by unfold putR; rw [if_neg (by rw [hb63]; decide), if_neg (by rw [hb67]; decide), if_neg (by omega), if_neg (fun k9 => by have k8 := k9.2; omega)]]
           have hrp : readF (gs.take (plI nm fs) ++ (nm, .slice so106 d.length ca107, d) :: gs.drop (plI nm fs)) = putF nm d fs := by rw [read_put hgr, hpu]
           exact ret_own hM (noBld_cons (by simp) (noBld_cons (by simp) (noBld_cons (by simp) (noBld_cons (by simp) (noBld_cons (by simp) (noBld_cons (by simp) (noBld_cons (by simp) hnD))))))) (mem_at (k := 1) rfl) (mem_at (k := 3) rfl) (mem_at (k := 4) rfl) (gs_put hGD (fun c hc => (List.mem_cons_of_mem _ (List.mem_cons_of_mem _ (List.mem_cons_of_mem _ (List.mem_cons_of_mem _ (List.mem_cons_of_mem _ (List.mem_cons_of_mem _ (List.mem_cons_of_mem _ hc)))))))) (mem_at (k := 0) rfl)) hrp (by rw [hpu, List.length_append, List.length_cons, List.length_take, List.length_drop]; omega)
     · refine seq_call hA rfl rfl rfl (enters_func rfl rfl (fun w => by kernel_rfl)) (allowed_as hb67) ?_
       rintro _ w113 ⟨rfl, hb112⟩
       replace hM := hM.call hb112
       refine ⟨_, rfl, ?_⟩
       intro a hA
       refine seq_do (v := .bool true) hA rfl rfl rfl (does_un rfl un_not) ?_
       intro a hA
       refine seq_do hA rfl rfl rfl (does_assign rfl) ?_
       intro a hA
       refine seq_end ?_
       refine hK66 _ _ ?_
       refine wp_cond_true (hA.ev rfl) ?_
       refine wp_seq_k (fun K114 hK114 => ?_)
       refine wp_region_lit ?_
       refine seq_do (v := .agg #[.slice none 0 0, .slice none 0 0, .slice none 0 0]) hA rfl rfl rfl (does_build rfl (fun w => by kernel_rfl)) ?_
       intro a hA
       refine s_store (us := [.slice none 0 0, .slice none 0 0, .slice none 0 0]) (L' := (.obj g4 (.cells #[.slice none 0 0, .slice none 0 0, .slice none 0 0] 37) :: .obj g2 (.cells #[.slice sF fs.length cF_, .slice sI il.length cI, .slice sO ol.length cO] 37) :: [])) hA hM rfl rfl (m_store rfl rfl rfl (by kernel_rfl) hM 0 rfl rfl rfl) 0 rfl rfl rfl ?_
       intro w115 hM
       refine seq_do hA rfl rfl rfl (does_assign rfl) ?_
       intro a hA
       refine seq_end ?_
       refine hK114 _ _ ?_
       refine wp_ret ?_
       refine hret _ _ ?_
       refine ends (v := .tuple #[.agg #[.slice none 0 0, .slice none 0 0, .slice none 0 0], .int .i64 1]) hA rfl (.cons (res_cellS hM We_isS_37 rfl 0 rfl (cs := [.slice none 0 0, .slice none 0 0, .slice none 0 0]) rfl rfl) (.cons (res_tmp rfl) .nil)) rfl ?_
       rw [show putR nm d fs il ol = (1, [], [], []) from by unfold putR; rw [if_neg (by rw [hb63]; decide), if_pos hb67]]
       exact ret_zero hM
   · refine seq_call hA rfl rfl rfl (enters_func rfl rfl (fun w => by kernel_rfl)) (sound_as (hF.below hM.bel) hn hb63) ?_
     rintro _ w117 ⟨rfl, hb116⟩
     replace hM := hM.call hb116
     refine ⟨_, rfl, ?_⟩
     intro a hA
     refine seq_do (v := .bool true) hA rfl rfl rfl (does_un rfl un_not) ?_
     intro a hA
     refine seq_do hA rfl rfl rfl (does_assign rfl) ?_
     intro a hA
     refine seq_end ?_
     refine hK62 _ _ ?_
     refine wp_cond_true (hA.ev rfl) ?_
     refine wp_seq_k (fun K118 hK118 => ?_)
     refine wp_region_lit ?_
     refine seq_do (v := .agg #[.slice none 0 0, .slice none 0 0, .slice none 0 0]) hA rfl rfl rfl (does_build rfl (fun w => by kernel_rfl)) ?_
     intro a hA
     refine s_store (us := [.slice none 0 0, .slice none 0 0, .slice none 0 0]) (L' := (.obj g4 (.cells #[.slice none 0 0, .slice none 0 0, .slice none 0 0] 37) :: .obj g2 (.cells #[.slice sF fs.length cF_, .slice sI il.length cI, .slice sO ol.length cO] 37) :: [])) hA hM rfl rfl (m_store rfl rfl rfl (by kernel_rfl) hM 0 rfl rfl rfl) 0 rfl rfl rfl ?_
     intro w119 hM
     refine seq_do hA rfl rfl rfl (does_assign rfl) ?_
     intro a hA
     refine seq_end ?_
     refine hK118 _ _ ?_
     refine wp_ret ?_
     refine hret _ _ ?_
     refine ends (v := .tuple #[.agg #[.slice none 0 0, .slice none 0 0, .slice none 0 0], .int .i64 2]) hA rfl (.cons (res_cellS hM We_isS_37 rfl 0 rfl (cs := [.slice none 0 0, .slice none 0 0, .slice none 0 0]) rfl rfl) (.cons (res_tmp rfl) .nil)) rfl ?_
     rw [show putR nm d fs il ol = (2, [], [], []) from by unfold putR; rw [if_pos hb63]]
     exact ret_zero hM
theorem get_any {w : World} {sF sI sO : Option Addr} {cF_ cI cO : Nat} {fs : List Fl} {il ol : List UInt8} {nm : ByteArray} (hF : Rf w sF fs) (hI : Rb w sI il) (hO : Rb w sO ol) (hn : fs.length ≤ 4398046511104) : Calls Try.prog 27 #[.agg #[.slice sF fs.length cF_, .slice sI il.length cI, .slice sO ol.length cO], .string nm] w fun e w' => ∃ v, e = .returned (.tuple #[v, .int .i64 (getR nm fs il ol).1]) ∧ Mg w w' [.row BY 1 v (getR nm fs il ol).2.length (Lib.byteCells (getR nm fs il ol).2)] := by
 have hM : Mg w w ([]) := Mg.start w
 refine walk_of (l := [(0, .agg #[.slice sF fs.length cF_, .slice sI il.length cI, .slice sO ol.length cO]), (1, .string nm)]) Try.func27 rfl Try.ntmps27 rfl rfl ?_
 intro Q hret hnorm hP a hA
 refine wp_seq_k (fun K1 hK1 => ?_)
 refine wp_region_lit ?_
 refine s_new (vs := [.slice sF fs.length cF_, .slice sI il.length cI, .slice sO ol.length cO]) (t := 37) hA hM rfl rfl rfl (fun g => .pointer (some ⟨g, 0, none⟩)) (does_box rfl rfl) (by decide) ?_
 intro g2 w3 hM a hA
 refine seq_do hA rfl rfl rfl (does_assign rfl) ?_
 intro a hA
 refine seq_do hA rfl rfl rfl (does_assign rfl) ?_
 intro a hA
 refine seq_end ?_
 refine hK1 _ _ ?_
 refine wp_seq_k (fun K4 hK4 => ?_)
 refine wp_region_lit ?_
 refine seq_do hA rfl rfl rfl (m_loadS hM We_isS_37 rfl 0 rfl (cs := [.slice sF fs.length cF_, .slice sI il.length cI, .slice sO ol.length cO]) rfl rfl) ?_
 intro a hA
 refine seq_do hA rfl rfl rfl (does_move rfl) ?_
 intro a hA
 rcases Bool.eq_false_or_eq_true (soundS fs il ol) with hb5 | hb5
 · rcases Bool.eq_false_or_eq_true (plB nm fs) with hb6 | hb6
   · refine seq_call hA rfl rfl rfl (enters_func rfl rfl (fun w => by kernel_rfl)) ((show Calls Try.prog 60 #[.agg #[.slice sF fs.length cF_, .slice sI il.length cI, .slice sO ol.length cO], .string nm] _ (fun e w' => e = .returned (.tuple #[.int .i64 (((plI nm fs : Nat) : Int)), .int .i64 0]) ∧ _) from (by have h8 := found_any (w := w3) (cF_ := cF_) (cI := cI) (cO := cO) (sI := sI) (sO := sO) (il := il) (ol := ol) (nm := nm) (hF.below hM.bel) hn; unfold fndI fndE at h8; rw [hb5, hb6] at h8; exact h8))) ?_
     rintro _ w8 ⟨rfl, hb7⟩
     replace hM := hM.call hb7
     refine ⟨_, rfl, ?_⟩
     intro a hA
     refine seq_do hA rfl rfl rfl (does_move rfl) ?_
     intro a hA
     refine seq_do (v := .int .i64 (((plI nm fs : Nat) : Int))) hA rfl rfl rfl (does_extract (vs := [.int .i64 (((plI nm fs : Nat) : Int)), .int .i64 0]) rfl rfl) ?_
     intro a hA
     refine seq_do (v := .int .i64 0) hA rfl rfl rfl (does_extract (vs := [.int .i64 (((plI nm fs : Nat) : Int)), .int .i64 0]) rfl rfl) ?_
     intro a hA
     refine seq_do hA rfl rfl rfl (does_assign rfl) ?_
     intro a hA
     refine seq_do hA rfl rfl rfl (does_assign rfl) ?_
     intro a hA
     refine seq_end ?_
     refine hK4 _ _ ?_
     refine wp_seq_k (fun K9 hK9 => ?_)
     refine wp_seq_k (fun K10 hK10 => ?_)
     have hsp := sound_parts hb5
     obtain ⟨hpl, hpt, hpf⟩ := place_facts (n := nm) hsp.2.2.2
     have hlk := look_there (nm := nm) hsp.2.2.2
     obtain ⟨d0, hd0, hlo, hpu, hde⟩ := hpt hb6
     have hpi : plI nm fs < fs.length := (List.getElem?_eq_some_iff.1 hd0).1
     refine wp_region_lit ?_
     refine seq_do hA rfl rfl rfl (does_move rfl) ?_
     intro a hA
     refine seq_do (v := .bool false) hA rfl rfl rfl (does_bin rfl rfl (fun w => by kernel_rfl)) ?_
     intro a hA
     refine seq_end ?_
     refine hK10 _ _ ?_
     refine wp_cond_false (hA.ev rfl) ?_
     refine wp_skip ?_
     refine hK9 _ _ ?_
     refine wp_seq_k (fun K11 hK11 => ?_)
     refine wp_region_lit ?_
     refine seq_do (v := .pointer (some ⟨g2, 0, none⟩)) hA rfl rfl rfl (does_field We_fld_37_0 rfl rfl) ?_
     intro a hA
     refine seq_do hA rfl rfl rfl (m_load1 hM We_is1_35 rfl 0 rfl rfl) ?_
     intro a hA
     refine seq_do hA rfl rfl rfl (does_move rfl) ?_
     intro a hA
     obtain ⟨fn12, fd13, hf18⟩ := file_get (fs := fs) (i := plI nm fs) (by omega)
     obtain ⟨bf14, of15, sj16, cj17, hf19, hf20, hf21, hf22, hf23, hf24⟩ := hF.pos _ _ hf18
     refine seq_do (v := .pointer (some ⟨bf14, of15 + (plI nm fs) * 2, none⟩)) hA rfl rfl rfl (does_indexA Try.underlying35 (by kernel_rfl) rfl rfl rfl hf19 (show plI nm fs < fs.length by omega)) ?_
     intro a hA
     refine seq_do (v := .pointer (some ⟨bf14, of15 + (plI nm fs) * 2 + 1, none⟩)) hA rfl rfl rfl (does_field We_fld_88_1 rfl rfl) ?_
     intro a hA
     refine seq_do (v := .slice sj16 fd13.length cj17) hA rfl rfl rfl (m_loadR hM hf20 hf22 We_is1_24 rfl) ?_
     intro a hA
     have hsf9 := sound_file hb5 hf18
     refine seq_call hA rfl rfl rfl (enters_func rfl rfl (fun w => by kernel_rfl)) (clone_any (hf23.below hM.bel) (by omega)) ?_
     rintro _ w29 ⟨v25, rfl, hM26⟩
     obtain ⟨so27, ca28, rfl⟩ := owns_sliceE (hM26.has 0 rfl)
     replace hM : Mg w w29 (.row BY 1 (.slice so27 fd13.length ca28) fd13.length ((Lib.byteCells fd13)) :: .obj g2 (.cells #[.slice sF fs.length cF_, .slice sI il.length cI, .slice sO ol.length cO] 37) :: []) := (hM.both hM26 (noBld_cons (by simp) (noBld_quiet quietL_nil)) (noBld_cons (by simp) (noBld_quiet quietL_nil)))
     refine ⟨_, rfl, ?_⟩
     intro a hA
     refine seq_do hA rfl rfl rfl (does_assign rfl) ?_
     intro a hA
     refine seq_do hA rfl rfl rfl (does_assign rfl) ?_
     intro a hA
     refine seq_end ?_
     refine hK11 _ _ ?_
     refine wp_ret ?_
     refine hret _ _ ?_
     refine ends (v := .tuple #[.slice so27 fd13.length ca28, .int .i64 0]) hA rfl (.cons (res_tmp rfl) (.cons (res_tmp rfl) .nil)) rfl ?_
     have hq9 : fd13 = d0 := congrArg Prod.snd (Option.some.inj (hf18.symm.trans hd0))
     rw [show getR nm fs il ol = (0, fd13) from by unfold getR; rw [if_neg (by rw [hb5]; decide), hlo, hq9]]
     exact ⟨_, rfl, hM.sub (.cons_cons _ (.cons _ (.refl _)))⟩
   · refine seq_call hA rfl rfl rfl (enters_func rfl rfl (fun w => by kernel_rfl)) ((show Calls Try.prog 60 #[.agg #[.slice sF fs.length cF_, .slice sI il.length cI, .slice sO ol.length cO], .string nm] _ (fun e w' => e = .returned (.tuple #[.int .i64 (0), .int .i64 7]) ∧ _) from (by have h8 := found_any (w := w3) (cF_ := cF_) (cI := cI) (cO := cO) (sI := sI) (sO := sO) (il := il) (ol := ol) (nm := nm) (hF.below hM.bel) hn; unfold fndI fndE at h8; rw [hb5, hb6] at h8; exact h8))) ?_
     rintro _ w31 ⟨rfl, hb30⟩
     replace hM := hM.call hb30
     refine ⟨_, rfl, ?_⟩
     intro a hA
     refine seq_do hA rfl rfl rfl (does_move rfl) ?_
     intro a hA
     refine seq_do (v := .int .i64 0) hA rfl rfl rfl (does_extract (vs := [.int .i64 0, .int .i64 7]) rfl rfl) ?_
     intro a hA
     refine seq_do (v := .int .i64 7) hA rfl rfl rfl (does_extract (vs := [.int .i64 0, .int .i64 7]) rfl rfl) ?_
     intro a hA
     refine seq_do hA rfl rfl rfl (does_assign rfl) ?_
     intro a hA
     refine seq_do hA rfl rfl rfl (does_assign rfl) ?_
     intro a hA
     refine seq_end ?_
     refine hK4 _ _ ?_
     refine wp_seq_k (fun K32 hK32 => ?_)
     refine wp_seq_k (fun K33 hK33 => ?_)
     have hsp := sound_parts hb5
     obtain ⟨hpl, hpt, hpf⟩ := place_facts (n := nm) hsp.2.2.2
     have hlk := look_there (nm := nm) hsp.2.2.2
     obtain ⟨hlo, hpu, hde⟩ := hpf hb6
     refine wp_region_lit ?_
     refine seq_do hA rfl rfl rfl (does_move rfl) ?_
     intro a hA
     refine seq_do (v := .bool true) hA rfl rfl rfl (does_bin rfl rfl (fun w => by kernel_rfl)) ?_
     intro a hA
     refine seq_end ?_
     refine hK33 _ _ ?_
     refine wp_cond_true (hA.ev rfl) ?_
     refine wp_seq_k (fun K34 hK34 => ?_)
     refine wp_region_lit ?_
     refine seq_do hA rfl rfl rfl (does_move rfl) ?_
     intro a hA
     refine seq_do hA rfl rfl rfl (does_assign rfl) ?_
     intro a hA
     refine seq_do hA rfl rfl rfl (does_assign rfl) ?_
     intro a hA
     refine seq_end ?_
     refine hK34 _ _ ?_
     refine wp_ret ?_
     refine hret _ _ ?_
     refine ends (v := .tuple #[.slice none 0 0, .int .i64 7]) hA rfl (.cons (res_tmp rfl) (.cons (res_tmp rfl) .nil)) rfl ?_
     rw [show getR nm fs il ol = (7, []) from by unfold getR; rw [if_neg (by rw [hb5]; decide), hlo]]
     exact ⟨_, rfl, nil_row hM⟩
 · refine seq_call hA rfl rfl rfl (enters_func rfl rfl (fun w => by kernel_rfl)) ((show Calls Try.prog 60 #[.agg #[.slice sF fs.length cF_, .slice sI il.length cI, .slice sO ol.length cO], .string nm] _ (fun e w' => e = .returned (.tuple #[.int .i64 (0), .int .i64 2]) ∧ _) from (by have h8 := found_any (w := w3) (cF_ := cF_) (cI := cI) (cO := cO) (sI := sI) (sO := sO) (il := il) (ol := ol) (nm := nm) (hF.below hM.bel) hn; unfold fndI fndE at h8; rw [hb5] at h8; exact h8))) ?_
   rintro _ w36 ⟨rfl, hb35⟩
   replace hM := hM.call hb35
   refine ⟨_, rfl, ?_⟩
   intro a hA
   refine seq_do hA rfl rfl rfl (does_move rfl) ?_
   intro a hA
   refine seq_do (v := .int .i64 0) hA rfl rfl rfl (does_extract (vs := [.int .i64 0, .int .i64 2]) rfl rfl) ?_
   intro a hA
   refine seq_do (v := .int .i64 2) hA rfl rfl rfl (does_extract (vs := [.int .i64 0, .int .i64 2]) rfl rfl) ?_
   intro a hA
   refine seq_do hA rfl rfl rfl (does_assign rfl) ?_
   intro a hA
   refine seq_do hA rfl rfl rfl (does_assign rfl) ?_
   intro a hA
   refine seq_end ?_
   refine hK4 _ _ ?_
   refine wp_seq_k (fun K37 hK37 => ?_)
   refine wp_seq_k (fun K38 hK38 => ?_)
   refine wp_region_lit ?_
   refine seq_do hA rfl rfl rfl (does_move rfl) ?_
   intro a hA
   refine seq_do (v := .bool true) hA rfl rfl rfl (does_bin rfl rfl (fun w => by kernel_rfl)) ?_
   intro a hA
   refine seq_end ?_
   refine hK38 _ _ ?_
   refine wp_cond_true (hA.ev rfl) ?_
   refine wp_seq_k (fun K39 hK39 => ?_)
   refine wp_region_lit ?_
   refine seq_do hA rfl rfl rfl (does_move rfl) ?_
   intro a hA
   refine seq_do hA rfl rfl rfl (does_assign rfl) ?_
   intro a hA
   refine seq_do hA rfl rfl rfl (does_assign rfl) ?_
   intro a hA
   refine seq_end ?_
   refine hK39 _ _ ?_
   refine wp_ret ?_
   refine hret _ _ ?_
   refine ends (v := .tuple #[.slice none 0 0, .int .i64 2]) hA rfl (.cons (res_tmp rfl) (.cons (res_tmp rfl) .nil)) rfl ?_
   rw [show getR nm fs il ol = (2, []) from by unfold getR; rw [if_pos hb5]]
   exact ⟨_, rfl, nil_row hM⟩
theorem del_any {w : World} {sF sI sO : Option Addr} {cF_ cI cO : Nat} {fs : List Fl} {il ol : List UInt8} {nm : ByteArray} (hF : Rf w sF fs) (hI : Rb w sI il) (hO : Rb w sO ol) (hn : fs.length ≤ 4398046511104) : Calls Try.prog 21 #[.agg #[.slice sF fs.length cF_, .slice sI il.length cI, .slice sO ol.length cO], .string nm] w fun e w' => RetW w e w' (delR nm fs il ol) := by
 have hM : Mg w w ([]) := Mg.start w
 refine walk_of (l := [(0, .agg #[.slice sF fs.length cF_, .slice sI il.length cI, .slice sO ol.length cO]), (1, .string nm)]) Try.func21 rfl Try.ntmps21 rfl rfl ?_
 intro Q hret hnorm hP a hA
 refine wp_seq_k (fun K1 hK1 => ?_)
 refine wp_region_lit ?_
 refine s_new (vs := [.slice sF fs.length cF_, .slice sI il.length cI, .slice sO ol.length cO]) (t := 37) hA hM rfl rfl rfl (fun g => .pointer (some ⟨g, 0, none⟩)) (does_box rfl rfl) (by decide) ?_
 intro g2 w3 hM a hA
 refine s_new (vs := [.slice none 0 0, .slice none 0 0, .slice none 0 0]) (t := 37) hA hM rfl rfl rfl (fun g => .pointer (some ⟨g, 0, none⟩)) (does_alloc (z := .agg #[.slice none 0 0, .slice none 0 0, .slice none 0 0]) (by kernel_rfl) rfl) (by decide) ?_
 intro g4 w5 hM a hA
 refine seq_do hA rfl rfl rfl (does_assign rfl) ?_
 intro a hA
 refine seq_end ?_
 refine hK1 _ _ ?_
 refine wp_seq_k (fun K6 hK6 => ?_)
 refine wp_region_lit ?_
 refine seq_do hA rfl rfl rfl (m_loadS hM We_isS_37 rfl 1 rfl (cs := [.slice sF fs.length cF_, .slice sI il.length cI, .slice sO ol.length cO]) rfl rfl) ?_
 intro a hA
 refine seq_do hA rfl rfl rfl (does_move rfl) ?_
 intro a hA
 rcases Bool.eq_false_or_eq_true (soundS fs il ol) with hb7 | hb7
 · rcases Bool.eq_false_or_eq_true (plB nm fs) with hb8 | hb8
   · refine seq_call hA rfl rfl rfl (enters_func rfl rfl (fun w => by kernel_rfl)) ((show Calls Try.prog 60 #[.agg #[.slice sF fs.length cF_, .slice sI il.length cI, .slice sO ol.length cO], .string nm] _ (fun e w' => e = .returned (.tuple #[.int .i64 (((plI nm fs : Nat) : Int)), .int .i64 0]) ∧ _) from (by have h8 := found_any (w := w5) (cF_ := cF_) (cI := cI) (cO := cO) (sI := sI) (sO := sO) (il := il) (ol := ol) (nm := nm) (hF.below hM.bel) hn; unfold fndI fndE at h8; rw [hb7, hb8] at h8; exact h8))) ?_
     rintro _ w10 ⟨rfl, hb9⟩
     replace hM := hM.call hb9
     refine ⟨_, rfl, ?_⟩
     intro a hA
     refine seq_do hA rfl rfl rfl (does_move rfl) ?_
     intro a hA
     refine seq_do (v := .int .i64 (((plI nm fs : Nat) : Int))) hA rfl rfl rfl (does_extract (vs := [.int .i64 (((plI nm fs : Nat) : Int)), .int .i64 0]) rfl rfl) ?_
     intro a hA
     refine seq_do (v := .int .i64 0) hA rfl rfl rfl (does_extract (vs := [.int .i64 (((plI nm fs : Nat) : Int)), .int .i64 0]) rfl rfl) ?_
     intro a hA
     refine seq_do hA rfl rfl rfl (does_assign rfl) ?_
     intro a hA
     refine seq_do hA rfl rfl rfl (does_assign rfl) ?_
     intro a hA
     refine seq_end ?_
     refine hK6 _ _ ?_
     refine wp_seq_k (fun K11 hK11 => ?_)
     refine wp_seq_k (fun K12 hK12 => ?_)
     have hsp := sound_parts hb7
     obtain ⟨hpl, hpt, hpf⟩ := place_facts (n := nm) hsp.2.2.2
     have hlk := look_there (nm := nm) hsp.2.2.2
     obtain ⟨d0, hd0, hlo, hpu, hde⟩ := hpt hb8
     have hpi : plI nm fs < fs.length := (List.getElem?_eq_some_iff.1 hd0).1
     refine wp_region_lit ?_
     refine seq_do hA rfl rfl rfl (does_move rfl) ?_
     intro a hA
     refine seq_do (v := .bool false) hA rfl rfl rfl (does_bin rfl rfl (fun w => by kernel_rfl)) ?_
     intro a hA
     refine seq_end ?_
     refine hK12 _ _ ?_
     refine wp_cond_false (hA.ev rfl) ?_
     refine wp_skip ?_
     refine hK11 _ _ ?_
     refine wp_seq_k (fun K13 hK13 => ?_)
     refine wp_region_lit ?_
     refine seq_do hA rfl rfl rfl (m_loadS hM We_isS_37 rfl 1 rfl (cs := [.slice sF fs.length cF_, .slice sI il.length cI, .slice sO ol.length cO]) rfl rfl) ?_
     intro a hA
     refine seq_call hA rfl rfl rfl (enters_func rfl rfl (fun w => by kernel_rfl)) (copied_any (cF_ := cF_) (cI := cI) (cO := cO) (hF.below hM.bel) (hI.below hM.bel) (hO.below hM.bel) hb7) ?_
     rintro _ w25 ⟨g14, vI15, vO16, rfl, hOw17⟩
     obtain ⟨gs, D, hM20, hGD, hgr, hnD⟩ := hOw17
     obtain ⟨sI21, cI22, rfl⟩ := owns_sliceE (hM20.has 1 rfl)
     obtain ⟨sO23, cO24, rfl⟩ := owns_sliceE (hM20.has 2 rfl)
     have hgl : gs.length = fs.length := by rw [← hgr, readF_len]
     replace hM : Mg w w25 (.row 88 2 (.slice (some ⟨g14, 0, none⟩) fs.length fs.length) fs.length ((cellsF gs)) :: .row BY 1 (.slice sI21 il.length cI22) il.length ((Lib.byteCells il)) :: .row BY 1 (.slice sO23 ol.length cO24) ol.length ((Lib.byteCells ol)) :: .obj g4 (.cells #[.slice none 0 0, .slice none 0 0, .slice none 0 0] 37) :: .obj g2 (.cells #[.slice sF fs.length cF_, .slice sI il.length cI, .slice sO ol.length cO] 37) :: D) := ((hM.both hM20 (noBld_cons (by simp) (noBld_cons (by simp) (noBld_quiet quietL_nil))) (noBld_cons (by simp) (noBld_cons (by simp) (noBld_cons (by simp) hnD)))).perm (perm_own _ _ _ _ _))
     refine ⟨_, rfl, ?_⟩
     intro a hA
     refine s_new (vs := [.slice none 0 0, .slice none 0 0, .slice none 0 0]) (t := 37) hA hM rfl rfl rfl (fun g => .pointer (some ⟨g, 0, none⟩)) (does_alloc (z := .agg #[.slice none 0 0, .slice none 0 0, .slice none 0 0]) (by kernel_rfl) rfl) (by decide) ?_
     intro g26 w27 hM a hA
     refine s_store (us := [.slice (some ⟨g14, 0, none⟩) fs.length fs.length, .slice sI21 il.length cI22, .slice sO23 ol.length cO24]) (L' := (.obj g26 (.cells #[.slice (some ⟨g14, 0, none⟩) fs.length fs.length, .slice sI21 il.length cI22, .slice sO23 ol.length cO24] 37) :: .row 88 2 (.slice (some ⟨g14, 0, none⟩) fs.length fs.length) fs.length ((cellsF gs)) :: .row BY 1 (.slice sI21 il.length cI22) il.length ((Lib.byteCells il)) :: .row BY 1 (.slice sO23 ol.length cO24) ol.length ((Lib.byteCells ol)) :: .obj g4 (.cells #[.slice none 0 0, .slice none 0 0, .slice none 0 0] 37) :: .obj g2 (.cells #[.slice sF fs.length cF_, .slice sI il.length cI, .slice sO ol.length cO] 37) :: D)) hA hM rfl rfl (m_store rfl rfl rfl (by kernel_rfl) hM 0 rfl rfl rfl) 0 rfl rfl rfl ?_
     intro w28 hM
     refine seq_end ?_
     refine hK13 _ _ ?_
     refine wp_seq_k (fun K29 hK29 => ?_)
     refine wp_region_lit ?_
     refine seq_do (v := .pointer (some ⟨g26, 0, none⟩)) hA rfl rfl rfl (does_field We_fld_37_0 rfl rfl) ?_
     intro a hA
     refine seq_do hA rfl rfl rfl (m_load1 hM We_is1_35 rfl 0 rfl rfl) ?_
     intro a hA
     refine seq_do hA rfl rfl rfl (does_move rfl) ?_
     intro a hA
     refine seq_do hA rfl rfl rfl (does_move rfl) ?_
     intro a hA
     refine seq_do (v := .int .i64 (((plI nm fs + 1 : Nat) : Int))) hA rfl rfl rfl (does_bin rfl rfl (ar_add ((in_i64 (by omega) (by omega)).trans (by omega)))) ?_
     intro a hA
     replace hM : Mg w w28 (.row 88 2 (.slice (some ⟨g14, 0, none⟩) fs.length fs.length) fs.length ((cellsF gs)) :: .obj g26 (.cells #[.slice (some ⟨g14, 0, none⟩) fs.length fs.length, .slice sI21 il.length cI22, .slice sO23 ol.length cO24] 37) :: .row BY 1 (.slice sI21 il.length cI22) il.length ((Lib.byteCells il)) :: .row BY 1 (.slice sO23 ol.length cO24) ol.length ((Lib.byteCells ol)) :: .obj g4 (.cells #[.slice none 0 0, .slice none 0 0, .slice none 0 0] 37) :: .obj g2 (.cells #[.slice sF fs.length cF_, .slice sI il.length cI, .slice sO ol.length cO] 37) :: D) := hM.perm (List.perm_middle (l₁ := [_]))
     have hx1 := one_own hM (fun c hc => (List.mem_cons_of_mem _ (List.mem_cons_of_mem _ (List.mem_cons_of_mem _ (List.mem_cons_of_mem _ (List.mem_cons_of_mem _ (List.mem_cons_of_mem _ hc))))))) hGD
     refine seq_call hA rfl rfl rfl (enters_func rfl rfl (fun w => by kernel_rfl)) (delete_any (i := plI nm fs) (by omega) (by omega) hx1 hM) ?_
     rintro _ w31 ⟨rfl, hM30⟩
     replace hM : Mg w w31 (.row 88 2 (.slice (some ⟨g14, 0, none⟩) ((fs.length - 1)) fs.length) ((fs.length - 1)) (((cellsF gs).take ((plI nm fs) * 2) ++ (cellsF gs).drop (((plI nm fs) + 1) * 2))) :: .obj g26 (.cells #[.slice (some ⟨g14, 0, none⟩) fs.length fs.length, .slice sI21 il.length cI22, .slice sO23 ol.length cO24] 37) :: .row BY 1 (.slice sI21 il.length cI22) il.length ((Lib.byteCells il)) :: .row BY 1 (.slice sO23 ol.length cO24) ol.length ((Lib.byteCells ol)) :: .obj g4 (.cells #[.slice none 0 0, .slice none 0 0, .slice none 0 0] 37) :: .obj g2 (.cells #[.slice sF fs.length cF_, .slice sI il.length cI, .slice sO ol.length cO] 37) :: D) := hM30
     refine ⟨_, rfl, ?_⟩
     intro a hA
     refine seq_do (v := .pointer (some ⟨g26, 0, none⟩)) hA rfl rfl rfl (does_field We_fld_37_0 rfl rfl) ?_
     intro a hA
     refine s_store (us := [.slice (some ⟨g14, 0, none⟩) ((fs.length - 1)) fs.length, .slice sI21 il.length cI22, .slice sO23 ol.length cO24]) (L' := (.row 88 2 (.slice (some ⟨g14, 0, none⟩) ((fs.length - 1)) fs.length) ((fs.length - 1)) (((cellsF gs).take ((plI nm fs) * 2) ++ (cellsF gs).drop (((plI nm fs) + 1) * 2))) :: .obj g26 (.cells #[.slice (some ⟨g14, 0, none⟩) ((fs.length - 1)) fs.length, .slice sI21 il.length cI22, .slice sO23 ol.length cO24] 37) :: .row BY 1 (.slice sI21 il.length cI22) il.length ((Lib.byteCells il)) :: .row BY 1 (.slice sO23 ol.length cO24) ol.length ((Lib.byteCells ol)) :: .obj g4 (.cells #[.slice none 0 0, .slice none 0 0, .slice none 0 0] 37) :: .obj g2 (.cells #[.slice sF fs.length cF_, .slice sI il.length cI, .slice sO ol.length cO] 37) :: D)) hA hM rfl rfl (m_store rfl rfl rfl (by kernel_rfl) hM 1 rfl rfl rfl) 1 rfl rfl rfl ?_
     intro w32 hM
     refine seq_end ?_
     refine hK29 _ _ ?_
     refine wp_seq_k (fun K33 hK33 => ?_)
     refine wp_region_lit ?_
     refine seq_do hA rfl rfl rfl (m_loadS hM We_isS_37 rfl 1 rfl (cs := [.slice (some ⟨g14, 0, none⟩) ((fs.length - 1)) fs.length, .slice sI21 il.length cI22, .slice sO23 ol.length cO24]) rfl rfl) ?_
     intro a hA
     refine s_store (us := [.slice (some ⟨g14, 0, none⟩) ((fs.length - 1)) fs.length, .slice sI21 il.length cI22, .slice sO23 ol.length cO24]) (L' := (.row 88 2 (.slice (some ⟨g14, 0, none⟩) ((fs.length - 1)) fs.length) ((fs.length - 1)) (((cellsF gs).take ((plI nm fs) * 2) ++ (cellsF gs).drop (((plI nm fs) + 1) * 2))) :: .obj g26 (.cells #[.slice (some ⟨g14, 0, none⟩) ((fs.length - 1)) fs.length, .slice sI21 il.length cI22, .slice sO23 ol.length cO24] 37) :: .row BY 1 (.slice sI21 il.length cI22) il.length ((Lib.byteCells il)) :: .row BY 1 (.slice sO23 ol.length cO24) ol.length ((Lib.byteCells ol)) :: .obj g4 (.cells #[.slice (some ⟨g14, 0, none⟩) ((fs.length - 1)) fs.length, .slice sI21 il.length cI22, .slice sO23 ol.length cO24] 37) :: .obj g2 (.cells #[.slice sF fs.length cF_, .slice sI il.length cI, .slice sO ol.length cO] 37) :: D)) hA hM rfl rfl (m_store rfl rfl rfl (by kernel_rfl) hM 4 rfl rfl rfl) 4 rfl rfl rfl ?_
     intro w34 hM
     refine seq_do hA rfl rfl rfl (does_assign rfl) ?_
     intro a hA
     refine seq_end ?_
     refine hK33 _ _ ?_
     refine wp_ret ?_
     refine hret _ _ ?_
     refine ends (v := .tuple #[.agg #[.slice (some ⟨g14, 0, none⟩) ((fs.length - 1)) fs.length, .slice sI21 il.length cI22, .slice sO23 ol.length cO24], .int .i64 0]) hA rfl (.cons (res_cellS hM We_isS_37 rfl 4 rfl (cs := [.slice (some ⟨g14, 0, none⟩) ((fs.length - 1)) fs.length, .slice sI21 il.length cI22, .slice sO23 ol.length cO24]) rfl rfl) (.cons (res_tmp rfl) .nil)) rfl ?_
     rw [cut_cells] at hM
     rw [show delR nm fs il ol = (0, delF nm fs, il, ol) from by unfold delR; rw [if_neg (by rw [hb7]; decide), if_neg (by rw [hlk, hb8]; decide)]]
     have hrp : readF (gs.take (plI nm fs) ++ gs.drop (plI nm fs + 1)) = delF nm fs := by rw [read_cut hgr, hde]
     exact ret_own hM (noBld_cons (by simp) (noBld_cons (by simp) (noBld_cons (by simp) (noBld_cons (by simp) (noBld_cons (by simp) (noBld_cons (by simp) hnD)))))) (mem_at (k := 0) rfl) (mem_at (k := 2) rfl) (mem_at (k := 3) rfl) (gs_cut hGD (fun c hc => (List.mem_cons_of_mem _ (List.mem_cons_of_mem _ (List.mem_cons_of_mem _ (List.mem_cons_of_mem _ (List.mem_cons_of_mem _ (List.mem_cons_of_mem _ hc)))))))) hrp (by rw [hde, List.length_append, List.length_take, List.length_drop]; omega)
   · refine seq_call hA rfl rfl rfl (enters_func rfl rfl (fun w => by kernel_rfl)) ((show Calls Try.prog 60 #[.agg #[.slice sF fs.length cF_, .slice sI il.length cI, .slice sO ol.length cO], .string nm] _ (fun e w' => e = .returned (.tuple #[.int .i64 (0), .int .i64 7]) ∧ _) from (by have h8 := found_any (w := w5) (cF_ := cF_) (cI := cI) (cO := cO) (sI := sI) (sO := sO) (il := il) (ol := ol) (nm := nm) (hF.below hM.bel) hn; unfold fndI fndE at h8; rw [hb7, hb8] at h8; exact h8))) ?_
     rintro _ w36 ⟨rfl, hb35⟩
     replace hM := hM.call hb35
     refine ⟨_, rfl, ?_⟩
     intro a hA
     refine seq_do hA rfl rfl rfl (does_move rfl) ?_
     intro a hA
     refine seq_do (v := .int .i64 0) hA rfl rfl rfl (does_extract (vs := [.int .i64 0, .int .i64 7]) rfl rfl) ?_
     intro a hA
     refine seq_do (v := .int .i64 7) hA rfl rfl rfl (does_extract (vs := [.int .i64 0, .int .i64 7]) rfl rfl) ?_
     intro a hA
     refine seq_do hA rfl rfl rfl (does_assign rfl) ?_
     intro a hA
     refine seq_do hA rfl rfl rfl (does_assign rfl) ?_
     intro a hA
     refine seq_end ?_
     refine hK6 _ _ ?_
     refine wp_seq_k (fun K37 hK37 => ?_)
     refine wp_seq_k (fun K38 hK38 => ?_)
     have hsp := sound_parts hb7
     obtain ⟨hpl, hpt, hpf⟩ := place_facts (n := nm) hsp.2.2.2
     have hlk := look_there (nm := nm) hsp.2.2.2
     obtain ⟨hlo, hpu, hde⟩ := hpf hb8
     refine wp_region_lit ?_
     refine seq_do hA rfl rfl rfl (does_move rfl) ?_
     intro a hA
     refine seq_do (v := .bool true) hA rfl rfl rfl (does_bin rfl rfl (fun w => by kernel_rfl)) ?_
     intro a hA
     refine seq_end ?_
     refine hK38 _ _ ?_
     refine wp_cond_true (hA.ev rfl) ?_
     refine wp_seq_k (fun K39 hK39 => ?_)
     refine wp_region_lit ?_
     refine seq_do (v := .agg #[.slice none 0 0, .slice none 0 0, .slice none 0 0]) hA rfl rfl rfl (does_build rfl (fun w => by kernel_rfl)) ?_
     intro a hA
     refine seq_do hA rfl rfl rfl (does_move rfl) ?_
     intro a hA
     refine s_store (us := [.slice none 0 0, .slice none 0 0, .slice none 0 0]) (L' := (.obj g4 (.cells #[.slice none 0 0, .slice none 0 0, .slice none 0 0] 37) :: .obj g2 (.cells #[.slice sF fs.length cF_, .slice sI il.length cI, .slice sO ol.length cO] 37) :: [])) hA hM rfl rfl (m_store rfl rfl rfl (by kernel_rfl) hM 0 rfl rfl rfl) 0 rfl rfl rfl ?_
     intro w40 hM
     refine seq_do hA rfl rfl rfl (does_assign rfl) ?_
     intro a hA
     refine seq_end ?_
     refine hK39 _ _ ?_
     refine wp_ret ?_
     refine hret _ _ ?_
     refine ends (v := .tuple #[.agg #[.slice none 0 0, .slice none 0 0, .slice none 0 0], .int .i64 7]) hA rfl (.cons (res_cellS hM We_isS_37 rfl 0 rfl (cs := [.slice none 0 0, .slice none 0 0, .slice none 0 0]) rfl rfl) (.cons (res_tmp rfl) .nil)) rfl ?_
     rw [show delR nm fs il ol = (7, [], [], []) from by unfold delR; rw [if_neg (by rw [hb7]; decide), if_pos (by rw [hlk, hb8]; rfl)]]
     exact ret_zero hM
 · refine seq_call hA rfl rfl rfl (enters_func rfl rfl (fun w => by kernel_rfl)) ((show Calls Try.prog 60 #[.agg #[.slice sF fs.length cF_, .slice sI il.length cI, .slice sO ol.length cO], .string nm] _ (fun e w' => e = .returned (.tuple #[.int .i64 (0), .int .i64 2]) ∧ _) from (by have h8 := found_any (w := w5) (cF_ := cF_) (cI := cI) (cO := cO) (sI := sI) (sO := sO) (il := il) (ol := ol) (nm := nm) (hF.below hM.bel) hn; unfold fndI fndE at h8; rw [hb7] at h8; exact h8))) ?_
   rintro _ w42 ⟨rfl, hb41⟩
   replace hM := hM.call hb41
   refine ⟨_, rfl, ?_⟩
   intro a hA
   refine seq_do hA rfl rfl rfl (does_move rfl) ?_
   intro a hA
   refine seq_do (v := .int .i64 0) hA rfl rfl rfl (does_extract (vs := [.int .i64 0, .int .i64 2]) rfl rfl) ?_
   intro a hA
   refine seq_do (v := .int .i64 2) hA rfl rfl rfl (does_extract (vs := [.int .i64 0, .int .i64 2]) rfl rfl) ?_
   intro a hA
   refine seq_do hA rfl rfl rfl (does_assign rfl) ?_
   intro a hA
   refine seq_do hA rfl rfl rfl (does_assign rfl) ?_
   intro a hA
   refine seq_end ?_
   refine hK6 _ _ ?_
   refine wp_seq_k (fun K43 hK43 => ?_)
   refine wp_seq_k (fun K44 hK44 => ?_)
   refine wp_region_lit ?_
   refine seq_do hA rfl rfl rfl (does_move rfl) ?_
   intro a hA
   refine seq_do (v := .bool true) hA rfl rfl rfl (does_bin rfl rfl (fun w => by kernel_rfl)) ?_
   intro a hA
   refine seq_end ?_
   refine hK44 _ _ ?_
   refine wp_cond_true (hA.ev rfl) ?_
   refine wp_seq_k (fun K45 hK45 => ?_)
   refine wp_region_lit ?_
   refine seq_do (v := .agg #[.slice none 0 0, .slice none 0 0, .slice none 0 0]) hA rfl rfl rfl (does_build rfl (fun w => by kernel_rfl)) ?_
   intro a hA
   refine seq_do hA rfl rfl rfl (does_move rfl) ?_
   intro a hA
   refine s_store (us := [.slice none 0 0, .slice none 0 0, .slice none 0 0]) (L' := (.obj g4 (.cells #[.slice none 0 0, .slice none 0 0, .slice none 0 0] 37) :: .obj g2 (.cells #[.slice sF fs.length cF_, .slice sI il.length cI, .slice sO ol.length cO] 37) :: [])) hA hM rfl rfl (m_store rfl rfl rfl (by kernel_rfl) hM 0 rfl rfl rfl) 0 rfl rfl rfl ?_
   intro w46 hM
   refine seq_do hA rfl rfl rfl (does_assign rfl) ?_
   intro a hA
   refine seq_end ?_
   refine hK45 _ _ ?_
   refine wp_ret ?_
   refine hret _ _ ?_
   refine ends (v := .tuple #[.agg #[.slice none 0 0, .slice none 0 0, .slice none 0 0], .int .i64 2]) hA rfl (.cons (res_cellS hM We_isS_37 rfl 0 rfl (cs := [.slice none 0 0, .slice none 0 0, .slice none 0 0]) rfl rfl) (.cons (res_tmp rfl) .nil)) rfl ?_
   rw [show delR nm fs il ol = (2, [], [], []) from by unfold delR; rw [if_pos hb7]]
   exact ret_zero hM
end Go.Proofs.Ytcjgjbaadmohbaa
