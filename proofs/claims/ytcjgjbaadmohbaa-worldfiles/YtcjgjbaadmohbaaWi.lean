/- Walks of the document's calls. -/
import Derived.Test.YtcjgjbaadmohbaaWh
namespace Go.Proofs.Ytcjgjbaadmohbaa
open Go.RowKit
set_option linter.unusedVariables false
set_option linter.unusedSimpArgs false
set_option maxRecDepth 100000
theorem Wi_is1_9 : Is1 Try.prog 9 := ⟨⟨_, Try.underlying9, rfl⟩, by kernel_rfl⟩
theorem Wi_fld_88_0 : FieldAt Try.prog 88 0 0 := ⟨_, _, Try.underlying88, rfl, rfl, by kernel_rfl⟩
theorem Wi_isS_88 : IsS Try.prog 88 2 := ⟨⟨_, Try.underlying88⟩, by kernel_rfl⟩
open Go.Lib
/-- A slice holds these cells. -/
structure Rc (w : World) (so : Option Addr) (xs : List Value) : Prop where
  pos : ∀ j u, xs[j]? = some u → ∃ b off, so = some ⟨b, off, none⟩ ∧ b < w.heap.size ∧ w.cell? ⟨b, off + j, none⟩ = some u
theorem rc_own {w0 w : World} {L : List Ck} (hM : Mg w0 w L) (k : Nat) {e : TypeId} {sz n cap : Nat} {so : Option Addr} {xs : List Value} (hk : L[k]? = some (.row e sz (.slice so n cap) n xs)) : Rc w so xs := by
  refine ⟨fun j u hj => ?_⟩
  have hr : w.ownsRow w0.heap.size e sz (.slice so n cap) n xs := hM.has k hk
  have hlt := (List.getElem?_eq_some_iff.1 hj).1
  have hl := hr.1
  rcases hr.2 with ⟨_, h0⟩ | ⟨g, cap', cur, he, hB, hc, hx⟩
  · subst h0; omega
  · cases he
    exact ⟨g, 0, rfl, (Array.getElem?_eq_some_iff.1 hc).1, by rw [Nat.zero_add, World.ownsRow.cellAt hr j (by omega)]; exact hj⟩
theorem rc_at {w : World} {so : Option Addr} {gs : List Gf} (h : Rc w so (cellsF gs)) {i : Nat} {q : Gf} (hg : gs[i]? = some q) : ∃ b off, so = some ⟨b, off, none⟩ ∧ b < w.heap.size ∧ w.cell? ⟨b, off + i * 2, none⟩ = some (.string q.1) ∧ w.cell? ⟨b, off + i * 2 + 1, none⟩ = some q.2.1 := by
  obtain ⟨h0, h1⟩ := cellsF_at gs i q hg
  obtain ⟨b, off, e, hb, c0⟩ := h.pos _ _ h0
  obtain ⟨b2, off2, e2, hb2, c1⟩ := h.pos _ _ h1
  rw [e] at e2
  cases e2
  exact ⟨b, off, e, hb, c0, by rw [Nat.add_assoc]; exact c1⟩
theorem gf_get {gs : List Gf} {i : Nat} (h : i < gs.length) : ∃ gn gv gd, gs[i]? = some (gn, gv, gd) := ⟨_, _, _, List.getElem?_eq_getElem h⟩
def wthG (nm : ByteArray) (gs : List Gf) : List Gf := gs.filter fun q => !(decide (q.1 = nm))
theorem wthG_step {nm : ByteArray} {gs : List Gf} {i : Nat} {q : Gf} (h : gs[i]? = some q) : wthG nm (gs.drop i) = (if q.1 = nm then [] else [q]) ++ wthG nm (gs.drop (i + 1)) := by
  obtain ⟨h1, h2⟩ := List.getElem?_eq_some_iff.1 h
  rw [List.drop_eq_getElem_cons h1, h2]
  unfold wthG
  by_cases k : q.1 = nm
  · rw [if_pos k, List.filter_cons_of_neg (by simp [k])]; rfl
  · rw [if_neg k, List.filter_cons_of_pos (by simp [k])]; rfl
theorem one2 {gn : ByteArray} {gv : Value} (h : gv.oneCell' = true) : ∀ u ∈ [Value.string gn, gv], u.oneCell' = true := by
  intro u hu
  simp only [List.mem_cons, List.not_mem_nil, or_false] at hu
  rcases hu with rfl | rfl
  · rfl
  · exact h
theorem wthG_len (nm : ByteArray) (gs : List Gf) : (wthG nm gs).length ≤ gs.length := List.length_filter_le _ _
theorem readF_wth (nm : ByteArray) (gs : List Gf) : readF (wthG nm gs) = delF nm (readF gs) := by
  unfold readF wthG delF
  rw [List.filter_map]
  rfl
/-- A file is set ahead of the first greater one. -/
def insL (nm : ByteArray) (q : Gf) : List Gf → List Gf
  | [] => [q]
  | p :: ps => if ltN nm p.1 = true then q :: p :: ps else p :: insL nm q ps
def insF (nm : ByteArray) (d : List UInt8) : List Fl → List Fl
  | [] => [(nm, d)]
  | p :: ps => if ltN nm p.1 = true then (nm, d) :: p :: ps else p :: insF nm d ps
theorem readF_ins (nm : ByteArray) (v : Value) (d : List UInt8) : ∀ ps : List Gf, readF (insL nm (nm, v, d) ps) = insF nm d (readF ps)
  | [] => rfl
  | p :: ps => by
    show readF (if ltN nm p.1 = true then _ else _) = (if ltN nm p.1 = true then _ else _)
    by_cases h : ltN nm p.1 = true
    · rw [if_pos h, if_pos h]; rfl
    · rw [if_neg h, if_neg h]
      show (p.1, p.2.2) :: readF (insL nm (nm, v, d) ps) = _
      rw [readF_ins nm v d ps]
      rfl
theorem ins_put {nm : ByteArray} {d : List UInt8} : ∀ fs : List Fl, fs.Pairwise (fun f g => ltN f.1 g.1 = true) → insF nm d (delF nm fs) = putF nm d fs
  | [], _ => rfl
  | f :: fs, hp => by
    obtain ⟨p1, p2⟩ := List.pairwise_cons.1 hp
    have above : (∀ g ∈ fs, ltN nm g.1 = true) → delF nm fs = fs ∧ insF nm d fs = (nm, d) :: fs := by
      intro h
      refine ⟨delF_none (fun g hg => (ltN_ne (h g hg)).symm), ?_⟩
      cases fs with
      | nil => rfl
      | cons g t => exact if_pos (h g List.mem_cons_self)
    show insF nm d (delF nm (f :: fs)) = if ltN f.1 nm = true then f :: putF nm d fs else if f.1 = nm then (nm, d) :: fs else (nm, d) :: f :: fs
    by_cases h1 : f.1 = nm
    · have := above (fun g hg => by rw [← h1]; exact p1 g hg)
      rw [show delF nm (f :: fs) = delF nm fs from List.filter_cons_of_neg (by simp [h1]), this.1, this.2, if_neg (by rw [h1, ltN_irrefl]; decide), if_pos h1]
    · rw [show delF nm (f :: fs) = f :: delF nm fs from List.filter_cons_of_pos (by simp [h1])]
      show (if ltN nm f.1 = true then _ else f :: insF nm d (delF nm fs)) = _
      by_cases h2 : ltN f.1 nm = true
      · rw [if_neg (by rw [ltN_asymm h2]; decide), if_pos h2, ins_put fs p2]
      · have h3 : ltN nm f.1 = true := ltN_total (by simpa using h2) h1
        have := above (fun g hg => ltN_trans h3 (p1 g hg))
        rw [if_pos h3, if_neg h2, if_neg h1, this.1]
theorem insL_yes {nm : ByteArray} {q p : Gf} {os : List Gf} {i : Nat} (h : os[i]? = some p) (hl : ltN nm p.1 = true) : insL nm q (os.drop i) = q :: os.drop i := by
  obtain ⟨h1, h2⟩ := List.getElem?_eq_some_iff.1 h
  rw [List.drop_eq_getElem_cons h1, h2]
  exact if_pos hl
theorem insL_no {nm : ByteArray} {q p : Gf} {os : List Gf} {i : Nat} (h : os[i]? = some p) (hl : ltN nm p.1 = false) : insL nm q (os.drop i) = p :: insL nm q (os.drop (i + 1)) := by
  obtain ⟨h1, h2⟩ := List.getElem?_eq_some_iff.1 h
  rw [List.drop_eq_getElem_cons h1, h2]
  exact if_neg (by rw [hl]; decide)
theorem insL_end {nm : ByteArray} {q : Gf} {os : List Gf} {i : Nat} (h : ¬ i < os.length) : insL nm q (os.drop i) = [q] := by
  rw [List.drop_eq_nil_of_le (by omega)]
  rfl
theorem drop_gf {os : List Gf} {i : Nat} {p : Gf} (h : os[i]? = some p) : os.drop i = p :: os.drop (i + 1) := by
  obtain ⟨h1, h2⟩ := List.getElem?_eq_some_iff.1 h
  rw [List.drop_eq_getElem_cons h1, h2]
theorem insL_len (nm : ByteArray) (q : Gf) : ∀ os : List Gf, (insL nm q os).length = os.length + 1
  | [] => rfl
  | p :: ps => by
    show (if ltN nm p.1 = true then _ else _ : List Gf).length = _
    split
    · rfl
    · rw [List.length_cons, insL_len nm q ps, List.length_cons]
theorem insL_mem {nm : ByteArray} {q : Gf} : ∀ (os : List Gf) (p : Gf), p ∈ insL nm q os → p = q ∨ p ∈ os
  | [], p, h => by rcases List.mem_cons.1 h with h | h; exact .inl h; cases h
  | r :: os, p, h => by
    have h' : p ∈ (if ltN nm r.1 = true then q :: r :: os else r :: insL nm q os) := h
    split at h'
    · exact List.mem_cons.1 h'
    · rcases List.mem_cons.1 h' with h' | h'
      · exact .inr (h' ▸ List.mem_cons_self)
      · rcases insL_mem os p h' with h' | h'
        · exact .inl h'
        · exact .inr (List.mem_cons_of_mem _ h')
theorem gs_ins {gs : List Gf} {D L : List Ck} {nm : ByteArray} {v : Value} {d : List UInt8} (hG : GsD gs D) (hs : ∀ c ∈ D, c ∈ L) (hn : Ck.row BY 1 v d.length (Lib.byteCells d) ∈ L) : GsD (insL nm (nm, v, d) (wthG nm gs)) L := by
  intro p hp
  rcases insL_mem _ p hp with rfl | hp
  · exact hn
  · exact hs _ (hG p ((List.mem_filter.1 hp).1))
theorem gs_wth {gs : List Gf} {D L : List Ck} {nm : ByteArray} (hG : GsD gs D) (hs : ∀ c ∈ D, c ∈ L) : GsD (wthG nm gs) L := fun p hp => hs _ (hG p ((List.mem_filter.1 hp).1))
theorem gs_one {w0 w : World} {L D : List Ck} {gs : List Gf} (hM : Mg w0 w L) (hs : ∀ c ∈ D, c ∈ L) (hG : GsD gs D) : ∀ q ∈ gs, q.2.1.oneCell' = true := by
  intro q hq
  obtain ⟨so, cap, e, _⟩ := rb_mem hM (hs _ (hG q hq))
  rw [e]
  rfl
theorem find_none {nm : ByteArray} {fs : List Fl} (h : (lookF nm fs).isNone = true) : fndX nm 0 fs = -1 ∧ lookF nm fs = none := by
  rcases fndX_facts nm fs 0 with ⟨h1, h2⟩ | ⟨i, d, h1, h2, h3⟩
  · exact ⟨h2, h1⟩
  · rw [h3] at h; cases h
theorem find_some {nm : ByteArray} {fs : List Fl} (h : (lookF nm fs).isNone = false) : ∃ i0 d0, fndX nm 0 fs = ((i0 : Nat) : Int) ∧ fs[i0]? = some (nm, d0) ∧ lookF nm fs = some d0 := by
  rcases fndX_facts nm fs 0 with ⟨h1, h2⟩ | ⟨i, d, h1, h2, h3⟩
  · rw [h1] at h; cases h
  · exact ⟨i, d, by rw [h1, Nat.zero_add], h2, h3⟩
theorem m_loadX {P : Program} {w0 w : World} {L : List Ck} {l : List (Nat × Value)} {dst : Option Tmp} {ty : TypeId} {pos : String} {after : Array Edge} {guard : Option (Nat × Bool)} {v : Value} (hM : Mg w0 w L) (k : Nat) {e : TypeId} {sz g n c j : Nat} {so : Option Addr} {xs : List Value} (hk : L[k]? = some (.row e sz (.slice so n c) n xs)) (hso : so = some ⟨g, 0, none⟩) (hj : xs[j]? = some v) {t : TypeId} (ht : Is1 P t) {x : Operand} (hx : ev l x = some (.pointer (some ⟨g, j, none⟩))) : Does P l ⟨dst, .load t x, ty, pos, after, guard⟩ w v w := by
  subst hso
  exact m_loadE hM k hk hj ht hx
theorem m_loadX2 {P : Program} {w0 w : World} {L : List Ck} {l : List (Nat × Value)} {dst : Option Tmp} {ty : TypeId} {pos : String} {after : Array Edge} {guard : Option (Nat × Bool)} (hM : Mg w0 w L) (k : Nat) {e : TypeId} {sz g n c i : Nat} {so : Option Addr} {os : List Gf} {q : Gf} (hk : L[k]? = some (.row e sz (.slice so n c) n (cellsF os))) (hso : so = some ⟨g, 0, none⟩) (hq : os[i]? = some q) {t : TypeId} (ht : IsS P t 2) {x : Operand} (hx : ev l x = some (.pointer (some ⟨g, i * 2, none⟩))) : Does P l ⟨dst, .load t x, ty, pos, after, guard⟩ w (.agg #[.string q.1, q.2.1]) w := by
  subst hso
  obtain ⟨h0, h1⟩ := cellsF_at os i q hq
  have hr := hM.has k hk
  exact does_load hx (run_loadS ht [.string q.1, q.2.1] rfl (fun j z hj => by
    match j, hj with
    | 0, hj => cases hj; exact (World.ownsRow.cellAt hr (i * 2) (by rw [← hr.1]; exact (List.getElem?_eq_some_iff.1 h0).1)).trans h0
    | 1, hj => cases hj; exact (World.ownsRow.cellAt hr (i * 2 + 1) (by rw [← hr.1]; exact (List.getElem?_eq_some_iff.1 h1).1)).trans h1
    | j + 2, hj => simp at hj))
theorem rwithout_any {w : World} {nm : ByteArray} {so : Option Addr} {cap : Nat} {gs : List Gf} (hC : Rc w so (cellsF gs)) (hone : ∀ q ∈ gs, q.2.1.oneCell' = true) (hn : gs.length ≤ 1000) : Calls Try.prog 59 #[.slice so gs.length cap, .string nm] w fun e w' => ∃ v, e = .returned v ∧ Mg w w' [.row 88 2 v (wthG nm gs).length (cellsF (wthG nm gs))] := by
 have hM : Mg w w ([]) := Mg.start w
 refine walk_of (l := [(0, .slice so gs.length cap), (1, .string nm)]) Try.func59 rfl Try.ntmps59 rfl rfl ?_
 intro Q hret hnorm hP a hA
 refine wp_seq_k (fun K1 hK1 => ?_)
 refine wp_region_lit ?_
 refine seq_do hA rfl rfl rfl (does_assign rfl) ?_
 intro a hA
 refine seq_end ?_
 refine hK1 _ _ ?_
 refine wp_seq_k (fun K2 hK2 => ?_)
 refine wp_region_lit ?_
 refine s_litE (e := 88) (sz := 2) (m := 0) (vs := []) hA hM rfl rfl rfl (does_buildSlice rfl (by kernel_rfl)) rfl rfl (.inl (by decide)) ?_
 intro g3 w4 hM a hA
 refine seq_do hA rfl rfl rfl (does_assign rfl) ?_
 intro a hA
 refine seq_end ?_
 refine hK2 _ _ ?_
 refine wp_seq_k (fun K5 hK5 => ?_)
 refine wp_seq_k (fun K6 hK6 => ?_)
 refine wp_region_lit ?_
 refine seq_do hA rfl rfl rfl (does_assign rfl) ?_
 intro a hA
 refine seq_end ?_
 refine hK6 _ _ ?_
 refine wp_block ?_
 refine wp_loop_n (fun m_ a w1 => ∃ (i : Nat) (acc : List Gf) (va : Value), m_ = gs.length - i ∧ (acc ++ wthG nm (gs.drop i) = wthG nm gs ∧ i ≤ gs.length ∧ acc.length ≤ i) ∧ Sl a 29 [(0, .slice so gs.length cap), (1, .string nm), (4, .slice none 0 0), (5, va), (6, .int .i64 (((i : Nat) : Int))), (7, .slice (some ⟨g3, 0, none⟩) 0 0)] ∧ Mg w w1 (.row 88 2 (va) acc.length ((cellsF acc)) :: [])) _ ⟨0, [], .slice (some ⟨g3, 0, none⟩) 0 0, rfl, ⟨by rw [List.drop_zero]; rfl, Nat.zero_le _, Nat.le_refl _⟩, hA.keep _ ⟨rfl, rfl, rfl, rfl, rfl, rfl, trivial⟩, hM⟩ ?_
 clear hM hA
 rintro m_ a w7 ⟨i, acc, va, rfl, hinv9, hA, hM⟩ K8 hK8
 obtain ⟨hrun, hi9, hacc⟩ := hinv9
 refine wp_seq_k (fun K10 hK10 => ?_)
 refine wp_seq_k (fun K11 hK11 => ?_)
 refine wp_region_lit ?_
 refine seq_do hA rfl rfl rfl (does_move rfl) ?_
 intro a hA
 refine seq_do hA rfl rfl rfl (does_move rfl) ?_
 intro a hA
 refine seq_do (v := .int .i64 (((gs.length : Nat) : Int))) hA rfl rfl rfl (does_len Try.underlying35 rfl) ?_
 intro a hA
 rcases Bool.eq_false_or_eq_true (decide (((i : Nat) : Int) < ((gs.length : Nat) : Int))) with hb12 | hb12
 · have hb12' := of_decide_eq_true hb12
   refine seq_do (v := .bool true) hA rfl rfl rfl (does_bin rfl rfl (fun w => (bin_lss w).trans (by rw [hb12]))) ?_
   intro a hA
   refine seq_end ?_
   refine hK11 _ _ ?_
   refine wp_cond_true (hA.ev rfl) ?_
   refine wp_skip ?_
   refine hK10 _ _ ?_
   refine wp_seq_k (fun K13 hK13 => ?_)
   refine wp_block ?_
   refine wp_seq_k (fun K14 hK14 => ?_)
   refine wp_region_lit ?_
   refine seq_do hA rfl rfl rfl (does_move rfl) ?_
   intro a hA
   refine seq_do hA rfl rfl rfl (does_move rfl) ?_
   intro a hA
   obtain ⟨gn15, gv16, gd17, hg18⟩ := gf_get (gs := gs) (i := i) (by omega)
   obtain ⟨bg19, og20, hga21, hgb22, hgc23, hgd24⟩ := rc_at hC hg18
   have h1g25 := hone _ (List.mem_of_getElem? hg18)
   refine seq_do (v := .pointer (some ⟨bg19, og20 + i * 2, none⟩)) hA rfl rfl rfl (does_indexA Try.underlying35 (by kernel_rfl) rfl rfl rfl hga21 (show i < gs.length by omega)) ?_
   intro a hA
   refine seq_do (v := .pointer (some ⟨bg19, og20 + i * 2, none⟩)) hA rfl rfl rfl (does_field Wi_fld_88_0 rfl rfl) ?_
   intro a hA
   refine seq_do (v := .string gn15) hA rfl rfl rfl (m_loadR hM hgb22 hgc23 Wi_is1_9 rfl) ?_
   intro a hA
   refine seq_do hA rfl rfl rfl (does_move rfl) ?_
   intro a hA
   rcases Bool.eq_false_or_eq_true (decide (gn15 = nm)) with hb26 | hb26
   · have hb26' := of_decide_eq_true hb26
     refine seq_do (v := .bool false) hA rfl rfl rfl (does_bin rfl rfl (fun w => (bin_neqS Try.underlying9 w).trans (by rw [hb26]; rfl))) ?_
     intro a hA
     refine seq_end ?_
     refine hK14 _ _ ?_
     refine wp_cond_false (hA.ev rfl) ?_
     refine wp_skip ?_
     refine hK13 _ _ ?_
     refine wp_region_lit ?_
     refine seq_do hA rfl rfl rfl (does_move rfl) ?_
     intro a hA
     refine seq_do (v := .int .i64 (((i + 1 : Nat) : Int))) hA rfl rfl rfl (does_bin rfl rfl (ar_add ((in_i64 (by omega) (by omega)).trans (by omega)))) ?_
     intro a hA
     refine seq_do hA rfl rfl rfl (does_assign rfl) ?_
     intro a hA
     refine seq_end ?_
     replace hM : Mg w w7 (.row 88 2 (va) acc.length ((cellsF acc)) :: []) := by
       have h9 := hM.sub (.cons_cons _ (.refl _))
       exact h9
     refine hK8 _ _ _ (by omega) ⟨i + 1, acc, va, rfl, ⟨by rw [← hrun, wthG_step hg18, if_pos (of_decide_eq_true hb26), List.nil_append], by omega, by omega⟩, hA.keep _ ⟨rfl, rfl, rfl, rfl, rfl, rfl, trivial⟩, hM⟩
   · have hb26' := of_decide_eq_false hb26
     refine seq_do (v := .bool true) hA rfl rfl rfl (does_bin rfl rfl (fun w => (bin_neqS Try.underlying9 w).trans (by rw [hb26]; rfl))) ?_
     intro a hA
     refine seq_end ?_
     refine hK14 _ _ ?_
     refine wp_cond_true (hA.ev rfl) ?_
     refine wp_region_lit ?_
     refine seq_do hA rfl rfl rfl (does_move rfl) ?_
     intro a hA
     refine seq_do hA rfl rfl rfl (does_move rfl) ?_
     intro a hA
     refine seq_do hA rfl rfl rfl (does_move rfl) ?_
     intro a hA
     refine seq_do (v := .pointer (some ⟨bg19, og20 + i * 2, none⟩)) hA rfl rfl rfl (does_indexA Try.underlying35 (by kernel_rfl) rfl rfl rfl hga21 (show i < gs.length by omega)) ?_
     intro a hA
     refine seq_do (v := .agg #[.string gn15, gv16]) hA rfl rfl rfl (m_loadR2 hM hgb22 hgc23 hgd24 Wi_isS_88 rfl) ?_
     intro a hA
     refine s_litE (e := 88) (sz := 2) (m := 1) (vs := [.string gn15, gv16]) hA hM rfl rfl rfl (does_buildSlice rfl (by kernel_rfl)) rfl rfl (.inl (by decide)) ?_
     intro g27 w28 hM a hA
     refine s_appendE (e := 88) (sz := 2) (k := 1) (q := acc.length) (m := 1) (xs := (cellsF acc)) (news := [.string gn15, gv16]) (L' := fun v29 => (.row 88 2 (.slice (some ⟨g27, 0, none⟩) 1 1) 1 ([.string gn15, gv16]) :: .row 88 2 (v29) ((acc.length + 1)) (((cellsF acc) ++ [.string gn15, gv16])) :: [])) hA rfl rfl rfl (m_appendB (z := .agg #[.string ⟨#[]⟩, .slice none 0 0]) (by_ := 40) Try.underlying35 (by kernel_rfl) rfl rfl hM 1 rfl rfl 0 rfl rfl (one2 h1g25) (by decide) (by omega) (by omega)) (fun _ => rfl) ?_
     intro v29 w30 hM a hA
     obtain ⟨so31, ca32, rfl⟩ := owns_sliceE (hM.has 1 rfl)
     refine seq_do hA rfl rfl rfl (does_assign rfl) ?_
     intro a hA
     refine seq_end ?_
     refine hK13 _ _ ?_
     refine wp_region_lit ?_
     refine seq_do hA rfl rfl rfl (does_move rfl) ?_
     intro a hA
     refine seq_do (v := .int .i64 (((i + 1 : Nat) : Int))) hA rfl rfl rfl (does_bin rfl rfl (ar_add ((in_i64 (by omega) (by omega)).trans (by omega)))) ?_
     intro a hA
     refine seq_do hA rfl rfl rfl (does_assign rfl) ?_
     intro a hA
     refine seq_end ?_
     replace hM : Mg w w30 (.row 88 2 (.slice so31 ((acc.length + 1)) ca32) ((acc ++ [(gn15, gv16, gd17)]).length) ((cellsF (acc ++ [(gn15, gv16, gd17)]))) :: []) := by
       have h9 := hM.sub (.cons _ (.cons_cons _ (.refl _)))
       rw [show cellsF (acc ++ [(gn15, gv16, gd17)]) = cellsF acc ++ [.string gn15, gv16] from (by rw [cellsF_append]; rfl), List.length_append]
       exact h9
     refine hK8 _ _ _ (by omega) ⟨i + 1, acc ++ [(gn15, gv16, gd17)], .slice so31 ((acc.length + 1)) ca32, rfl, ⟨by rw [← hrun, wthG_step hg18, if_neg (of_decide_eq_false hb26), List.append_assoc], by omega, by rw [List.length_append]; simp only [List.length_cons, List.length_nil]; omega⟩, hA.keep _ ⟨rfl, rfl, rfl, rfl, rfl, rfl, trivial⟩, hM⟩
 · have hb12' := of_decide_eq_false hb12
   refine seq_do (v := .bool false) hA rfl rfl rfl (does_bin rfl rfl (fun w => (bin_lss w).trans (by rw [hb12]))) ?_
   intro a hA
   refine seq_end ?_
   refine hK11 _ _ ?_
   refine wp_cond_false (hA.ev rfl) ?_
   refine wp_exit ?_
   refine hK5 _ _ ?_
   refine wp_seq_k (fun K33 hK33 => ?_)
   refine wp_region_lit ?_
   refine seq_do hA rfl rfl rfl (does_move rfl) ?_
   intro a hA
   refine seq_do hA rfl rfl rfl (does_assign rfl) ?_
   intro a hA
   refine seq_end ?_
   refine hK33 _ _ ?_
   refine wp_ret ?_
   refine hret _ _ ?_
   refine ends (v := va) hA rfl (.cons (res_tmp rfl) .nil) rfl ?_
   rw [List.drop_eq_nil_of_le (by omega), show wthG nm [] = [] from rfl, List.append_nil] at hrun
   subst hrun
   exact ⟨_, rfl, hM⟩
end Go.Proofs.Ytcjgjbaadmohbaa
