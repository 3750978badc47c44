/- Walks of the document's Sound, find, Copy and Same. -/
import Derived.Test.YtcjgjbaadmohbaaWf
namespace Go.Proofs.Ytcjgjbaadmohbaa
open Go.RowKit
set_option linter.unusedVariables false
set_option linter.unusedSimpArgs false
set_option maxRecDepth 100000
theorem Wg_is1_24 : Is1 Try.prog 24 := ⟨⟨_, Try.underlying24, rfl⟩, by kernel_rfl⟩
theorem Wg_is1_35 : Is1 Try.prog 35 := ⟨⟨_, Try.underlying35, rfl⟩, by kernel_rfl⟩
theorem Wg_is1_5 : Is1 Try.prog 5 := ⟨⟨_, Try.underlying5, rfl⟩, by kernel_rfl⟩
theorem Wg_is1_9 : Is1 Try.prog 9 := ⟨⟨_, Try.underlying9, rfl⟩, by kernel_rfl⟩
theorem Wg_fld_37_0 : FieldAt Try.prog 37 0 0 := ⟨_, _, Try.underlying37, rfl, rfl, by kernel_rfl⟩
theorem Wg_fld_37_1 : FieldAt Try.prog 37 1 1 := ⟨_, _, Try.underlying37, rfl, rfl, by kernel_rfl⟩
theorem Wg_fld_37_2 : FieldAt Try.prog 37 2 2 := ⟨_, _, Try.underlying37, rfl, rfl, by kernel_rfl⟩
theorem Wg_fld_88_0 : FieldAt Try.prog 88 0 0 := ⟨_, _, Try.underlying88, rfl, rfl, by kernel_rfl⟩
theorem Wg_fld_88_1 : FieldAt Try.prog 88 1 1 := ⟨_, _, Try.underlying88, rfl, rfl, by kernel_rfl⟩
open Go.Lib
section
variable {P : Program} {w0 w : World} {L : List Ck} {l : List (Nat × Value)} {ops : List Oper} {Q : Exit → Act → World → Prop} {a : Act} {n : Nat} {o : Oper} {rest : List Oper} {d : Nat} {S : World → Prop} {md : Region.Mode} {fuel : Nat} {listed : Array Bool}
theorem g_new (hA : Sl a n l) (hM : Mg w0 w L) (i : Nat) (hi : ops[i]? = some o) (hg : passes l ops o = true) (hdst : o.dst = some d) (hd : Nat.blt d n = true) {vs : List Value} {t : TypeId} (val : Nat → Value) (he : Does P l o w (val w.heap.size) (w.alloc (.cells vs.toArray t))) (ht : t ≠ BY)
    (hk : ∀ g w', Mg w0 w' (.obj g (.cells vs.toArray t) :: L) → S w' ∧ ∀ a', Sl a' n ((d, val g) :: l) → wpAnyH P md ops.toArray Q S fuel (listed.setIfInBounds i true) a' w') : wpOp P ops.toArray Q i (fun a' w' => S w' ∧ wpAnyH P md ops.toArray Q S fuel (listed.setIfInBounds i true) a' w') a w := by
  have h := hk _ _ (hM.addObj _ (quiet_cells ht))
  exact op_do hA i hi hg hdst hd he h.1 h.2
theorem m_appendB {e t ty : TypeId} {sz by_ : Nat} {z : Value} {x y : Operand} {dst : Option Tmp} {pos : String} {after : Array Edge} {guard : Option (Nat × Bool)} (ht : P.underlying t = some (.slice e)) (hinfo : (P.info? e).map (fun i => (i.zero, i.size, i.bytes)) = some (some z, sz, by_)) (hzc : z.cells.size = sz) (hsz : Nat.ble 1 sz = true) (hM : Mg w0 w L) (k : Nat) {v : Value} {q : Nat} {xs : List Value} (hk : L[k]? = some (.row e sz v q xs)) (hx : ev l x = some v) (j : Nat) {b m c2 : Nat} {news : List Value} (hj : L[j]? = some (.row e sz (.slice (some ⟨b, 0, none⟩) m c2) m news)) (hy : ev l y = some (.slice (some ⟨b, 0, none⟩) m c2)) (h1 : ∀ u ∈ news, u.oneCell' = true) (hm : 0 < m) (hlen : q + m ≤ 1000000000000000) (hbig : (q + m) * by_ ≤ 140737488355328) :
    ∃ v' w', Does P l ⟨dst, .call ⟨.builtin .append, #[x, y], #[t, t]⟩, ty, pos, after, guard⟩ w v' w' ∧ Mg w0 w' (L.set k (.row e sz v' (q + m) (xs ++ news))) := by
  obtain ⟨i, hi, hzz⟩ := Option.map_eq_some_iff.1 hinfo
  simp only [Prod.mk.injEq] at hzz
  obtain ⟨hz, hs, hb⟩ := hzz
  have hrow := hM.has k hk
  have hnew := hM.has j hj
  have hnl : news.length = m * sz := hnew.1
  obtain ⟨g, cap, w', hr, hown, hgr, hat, hlt⟩ := run_append_lies (P := P) w t ty w0.heap.size e i z sz by_ ht hi hz hs hb hzc (Nat.le_of_ble_eq_true hsz) v q xs hrow ⟨b, 0, none⟩ m c2 news hnl (fun p u hp => by
      have hlt : p < news.length := (List.getElem?_eq_some_iff.1 hp).1
      rw [addr_add, Nat.zero_add, World.ownsRow.cellAt hnew p (by omega)]
      exact hp) h1 hm (by unfold maxLen; omega) hbig hM.bel.size w.heap.size rfl
  refine ⟨.slice (some ⟨g, 0, none⟩) (q + m) cap, w', fun ρ h => ?_, hM.turn k hk (by simp) hgr hown (fun d hd ha => ?_)⟩
  · simp [execOp, resolve, invoke, builtin, h x _ hx, h y _ hy, hr]
  · have hl := Ck.lt (hM.all d hd)
    have key : ∀ z, d.at_ = some z → v.ownBlock ≠ some z → g ≠ z := fun z hz hne e => by
      subst e
      rcases hat with h | h
      · exact hne h
      · have := (hl g hz).2; omega
    cases d with
    | obj g' o' => exact fun e => key g' rfl ha (by simpa [Value.ownBlock] using e)
    | row e' sz' v' n' xs' =>
      right
      intro e
      have e2 : v'.ownBlock = some g := e.symm
      rcases ha with ha | ha
      · exact key g e2 (by rw [ha]; simp) rfl
      · exact key g e2 (fun h => ha (h.trans e2.symm)) rfl
    | bld b' bs' => exact ⟨ha.1, fun e => key b' rfl ha.2 (by simpa [Value.ownBlock] using e)⟩
end
theorem rb_open {w : World} {so : Option Addr} {l : List UInt8} {i : Nat} (h : Rb w so l) (hi : i < l.length) : ∃ b off, so = some ⟨b, off, none⟩ ∧ b < w.heap.size ∧ ∀ j, j < l.length → w.cell? ⟨b, off + j, none⟩ = some (.int .u8 (((l.getD j 0).toNat : Nat) : Int)) :=
  h.pos (fun k => by rw [k] at hi; exact absurd hi (Nat.not_lt_zero _))
theorem same_all {xs ys : List UInt8} (hl : xs.length = ys.length) (h : ∀ j, j < xs.length → xs.getD j 0 = ys.getD j 0) : xs = ys := by
  apply List.ext_getElem hl
  intro j h1 h2
  have := h j h1
  rwa [List.getD_eq_getElem?_getD, List.getD_eq_getElem?_getD, List.getElem?_eq_getElem h1, List.getElem?_eq_getElem h2] at this
theorem same_more {xs ys : List UInt8} {i : Nat} (h : ∀ j, j < i → xs.getD j 0 = ys.getD j 0) (h1 : (((xs.getD i 0).toNat : Nat) : Int) = (((ys.getD i 0).toNat : Nat) : Int)) : ∀ j, j < i + 1 → xs.getD j 0 = ys.getD j 0 := by
  intro j hj
  by_cases e : j = i
  · subst e; exact UInt8.toNat_inj.1 (by omega)
  · exact h j (by omega)
def prvF (fs : List Fl) (i : Nat) : ByteArray := match fs[i - 1]? with | some f => if i = 0 then ⟨#[]⟩ else f.1 | none => ⟨#[]⟩
theorem prvF_zero (fs : List Fl) : prvF fs 0 = ⟨#[]⟩ := by unfold prvF; split <;> simp
theorem prvF_at {fs : List Fl} {i : Nat} {fn : ByteArray} {fd : List UInt8} (hi : 0 < i) (h : fs[i - 1]? = some (fn, fd)) : prvF fs i = fn := by unfold prvF; rw [h]; simp only; rw [if_neg (by omega)]
/-- Where a name stands first; -1: nowhere. -/
def fndX (n : ByteArray) : Nat → List Fl → Int
  | _, [] => -1
  | k, f :: fs => if f.1 = n then (k : Int) else fndX n (k + 1) fs
theorem fndX_step {n : ByteArray} {fs : List Fl} {i : Nat} {f : Fl} (h : fs[i]? = some f) : fndX n i (fs.drop i) = if f.1 = n then (i : Int) else fndX n (i + 1) (fs.drop (i + 1)) := by
  obtain ⟨h1, h2⟩ := List.getElem?_eq_some_iff.1 h
  rw [List.drop_eq_getElem_cons h1, h2]
  rfl
theorem fndX_over {n : ByteArray} {fs : List Fl} {i : Nat} (h : ¬ i < fs.length) : fndX n i (fs.drop i) = -1 := by
  rw [List.drop_eq_nil_of_le (by omega)]
  rfl
theorem fndX_facts (n : ByteArray) : ∀ (fs : List Fl) (k : Nat), (lookF n fs = none ∧ fndX n k fs = -1) ∨ ∃ (i : Nat) (d : List UInt8), fndX n k fs = ((k + i : Nat) : Int) ∧ fs[i]? = some (n, d) ∧ lookF n fs = some d
  | [], k => .inl ⟨rfl, rfl⟩
  | f :: fs, k => by
    by_cases h : f.1 = n
    · refine .inr ⟨0, f.2, if_pos h, ?_, if_pos h⟩
      rw [← h]; rfl
    · have e1 : lookF n (f :: fs) = lookF n fs := if_neg h
      have e2 : fndX n k (f :: fs) = fndX n (k + 1) fs := if_neg h
      rw [e1, e2]
      rcases fndX_facts n fs (k + 1) with ⟨h1, h2⟩ | ⟨i, d, h1, h2, h3⟩
      · exact .inl ⟨h1, h2⟩
      · exact .inr ⟨i + 1, d, by rw [h1]; congr 1; omega, h2, h3⟩
/-- What a world's size must not go beyond. -/
def Bd (fs : List Fl) (il ol : List UInt8) : Prop := fs.length * 40 ≤ 140737488351232 ∧ il.length ≤ 140737488351232 ∧ ol.length ≤ 140737488351232 ∧ ∀ f ∈ fs, f.2.length ≤ 140737488351232
theorem Bd.n {fs : List Fl} {il ol : List UInt8} (h : Bd fs il ol) : fs.length ≤ 4398046511104 := by have := h.1; omega
theorem Bd.at_ {fs : List Fl} {il ol : List UInt8} (h : Bd fs il ol) {i : Nat} {fn : ByteArray} {fd : List UInt8} (hf : fs[i]? = some (fn, fd)) : fd.length ≤ 140737488351232 := h.2.2.2 _ (List.mem_of_getElem? hf)
theorem Bd.sound {fs : List Fl} {il ol : List UInt8} (h : soundS fs il ol = true) : Bd fs il ol := by
  have h1 := sound_parts h
  refine ⟨by omega, by omega, by omega, fun f hf => ?_⟩
  obtain ⟨i, hi⟩ := List.mem_iff_getElem?.1 hf
  have := sound_file h (fn := f.1) (fd := f.2) hi
  omega
theorem Bd.zero : Bd [] [] [] := ⟨by decide, by decide, by decide, by simp⟩
theorem same_any {w : World} {so to_ : Option Addr} {ca cb : Nat} {xs ys : List UInt8} (hx : Rb w so xs) (hy : Rb w to_ ys) (hl : xs.length ≤ 140737488351232) : Calls Try.prog 14 #[.slice so xs.length ca, .slice to_ ys.length cb] w fun e w' => e = .returned (.bool (decide (xs = ys))) ∧ Below w.heap.size w w' := by
 have hM : Mg w w ([]) := Mg.start w
 refine walk_of (l := [(0, .slice so xs.length ca), (1, .slice to_ ys.length cb)]) Try.func14 rfl Try.ntmps14 rfl rfl ?_
 intro Q hret hnorm hP a hA
 refine wp_seq_k (fun K1 hK1 => ?_)
 refine wp_region_lit ?_
 refine seq_do hA rfl rfl rfl (does_assign rfl) ?_
 intro a hA
 refine seq_end ?_
 refine hK1 _ _ ?_
 refine wp_seq_k (fun K2 hK2 => ?_)
 refine wp_seq_k (fun K3 hK3 => ?_)
 refine wp_region_lit ?_
 refine seq_do hA rfl rfl rfl (does_move rfl) ?_
 intro a hA
 refine seq_do (v := .int .i64 (((xs.length : Nat) : Int))) hA rfl rfl rfl (does_len Try.underlying24 rfl) ?_
 intro a hA
 refine seq_do hA rfl rfl rfl (does_move rfl) ?_
 intro a hA
 refine seq_do (v := .int .i64 (((ys.length : Nat) : Int))) hA rfl rfl rfl (does_len Try.underlying24 rfl) ?_
 intro a hA
 rcases Bool.eq_false_or_eq_true ((((xs.length : Nat) : Int) != ((ys.length : Nat) : Int))) with hb4 | hb4
 · have hb4' := bne_iff_ne.1 hb4
   refine seq_do (v := .bool true) hA rfl rfl rfl (does_bin rfl rfl (fun w => (bin_neq w).trans (by rw [hb4]))) ?_
   intro a hA
   refine seq_end ?_
   refine hK3 _ _ ?_
   refine wp_cond_true (hA.ev rfl) ?_
   refine wp_seq_k (fun K5 hK5 => ?_)
   refine wp_region_lit ?_
   refine seq_do hA rfl rfl rfl (does_assign rfl) ?_
   intro a hA
   refine seq_end ?_
   refine hK5 _ _ ?_
   refine wp_ret ?_
   refine hret _ _ ?_
   refine ends (v := .bool false) hA rfl (.cons (res_tmp rfl) .nil) rfl ?_
   rw [show decide (xs = ys) = false from decide_eq_false (fun h9 => by subst h9; omega)]
   exact ⟨rfl, hM.bel⟩
 · have hb4' := bne_eq_false_iff_eq.1 hb4
   refine seq_do (v := .bool false) hA rfl rfl rfl (does_bin rfl rfl (fun w => (bin_neq w).trans (by rw [hb4]))) ?_
   intro a hA
   refine seq_end ?_
   refine hK3 _ _ ?_
   refine wp_cond_false (hA.ev rfl) ?_
   refine wp_skip ?_
   refine hK2 _ _ ?_
   refine wp_seq_k (fun K6 hK6 => ?_)
   refine wp_seq_k (fun K7 hK7 => ?_)
   refine wp_region_lit ?_
   refine seq_do hA rfl rfl rfl (does_assign rfl) ?_
   intro a hA
   refine seq_end ?_
   refine hK7 _ _ ?_
   refine wp_block ?_
   refine wp_loop_n (fun m_ a w1 => ∃ (i : Nat), m_ = xs.length - i ∧ (i ≤ xs.length ∧ ∀ j, j < i → xs.getD j 0 = ys.getD j 0) ∧ Sl a 26 [(0, .slice so xs.length ca), (1, .slice to_ ys.length cb), (5, .int .i64 (((i : Nat) : Int))), (6, .slice so xs.length ca), (7, .int .i64 (((xs.length : Nat) : Int))), (8, .slice to_ ys.length cb), (9, .int .i64 (((ys.length : Nat) : Int))), (10, .bool false)] ∧ Mg w w1 ([])) _ ⟨0, rfl, ⟨Nat.zero_le _, fun j hj => absurd hj (Nat.not_lt_zero _)⟩, hA.keep _ ⟨rfl, rfl, rfl, rfl, rfl, rfl, rfl, rfl, trivial⟩, hM⟩ ?_
   clear hM hA
   rintro m_ a w8 ⟨i, rfl, hinv10, hA, hM⟩ K9 hK9
   obtain ⟨hi9, hall⟩ := hinv10
   refine wp_seq_k (fun K11 hK11 => ?_)
   refine wp_seq_k (fun K12 hK12 => ?_)
   refine wp_region_lit ?_
   refine seq_do hA rfl rfl rfl (does_move rfl) ?_
   intro a hA
   refine seq_do hA rfl rfl rfl (does_move rfl) ?_
   intro a hA
   refine seq_do (v := .int .i64 (((xs.length : Nat) : Int))) hA rfl rfl rfl (does_len Try.underlying24 rfl) ?_
   intro a hA
   rcases Bool.eq_false_or_eq_true (decide (((i : Nat) : Int) < ((xs.length : Nat) : Int))) with hb13 | hb13
   · have hb13' := of_decide_eq_true hb13
     refine seq_do (v := .bool true) hA rfl rfl rfl (does_bin rfl rfl (fun w => (bin_lss w).trans (by rw [hb13]))) ?_
     intro a hA
     refine seq_end ?_
     refine hK12 _ _ ?_
     refine wp_cond_true (hA.ev rfl) ?_
     refine wp_skip ?_
     refine hK11 _ _ ?_
     refine wp_seq_k (fun K14 hK14 => ?_)
     refine wp_block ?_
     refine wp_seq_k (fun K15 hK15 => ?_)
     obtain ⟨bx, ox, hx1, hx2, hx3⟩ := rb_open (i := i) hx (by omega)
     obtain ⟨by_, oy, hy1, hy2, hy3⟩ := rb_open (i := i) hy (by omega)
     refine wp_draw (S := fun w1 => Mg w w1 ([])) (by kernel_rfl) ?_
     replace hM := hM.drew
     refine any_tk hA 0 rfl rfl rfl rfl hP (hM.sub (List.nil_sublist _)) (fun w1 hM => does_move rfl) ?_
     intro a hA
     refine any_tk hA 1 rfl rfl rfl rfl hP (hM.sub (List.nil_sublist _)) (fun w1 hM => does_move rfl) ?_
     intro a hA
     refine any_tk (v := .pointer (some ⟨bx, ox + i, none⟩)) hA 2 rfl rfl rfl rfl hP (hM.sub (List.nil_sublist _)) (fun w1 hM => does_indexRow Try.underlying24 (by kernel_rfl) rfl rfl rfl hx1 (by omega)) ?_
     intro a hA
     refine any_tk (v := .int .u8 ((((xs.getD i 0).toNat : Nat) : Int))) hA 3 rfl rfl rfl rfl hP (hM.sub (List.nil_sublist _)) (fun w1 hM => m_loadR hM hx2 (hx3 i (by omega)) Wg_is1_5 rfl) ?_
     intro a hA
     refine any_tk hA 4 rfl rfl rfl rfl hP (hM.sub (List.nil_sublist _)) (fun w1 hM => does_move rfl) ?_
     intro a hA
     refine any_tk hA 5 rfl rfl rfl rfl hP (hM.sub (List.nil_sublist _)) (fun w1 hM => does_move rfl) ?_
     intro a hA
     refine any_tk (v := .pointer (some ⟨by_, oy + i, none⟩)) hA 6 rfl rfl rfl rfl hP (hM.sub (List.nil_sublist _)) (fun w1 hM => does_indexRow Try.underlying24 (by kernel_rfl) rfl rfl rfl hy1 (by omega)) ?_
     intro a hA
     refine any_tk (v := .int .u8 ((((ys.getD i 0).toNat : Nat) : Int))) hA 7 rfl rfl rfl rfl hP (hM.sub (List.nil_sublist _)) (fun w1 hM => m_loadR hM hy2 (hy3 i (by omega)) Wg_is1_5 rfl) ?_
     intro a hA
     rcases Bool.eq_false_or_eq_true (((((xs.getD i 0).toNat : Nat) : Int) != (((ys.getD i 0).toNat : Nat) : Int))) with hb16 | hb16
     · have hb16' := bne_iff_ne.1 hb16
       refine any_tk (v := .bool true) hA 8 rfl rfl rfl rfl hP (hM.sub (List.nil_sublist _)) (fun w1 hM => does_bin rfl rfl (fun w => (bin_neq w).trans (by rw [hb16]))) ?_
       intro a hA
       refine any_end (by kernel_rfl) ?_
       refine hK15 _ _ ?_
       refine wp_cond_true (hA.ev rfl) ?_
       refine wp_seq_k (fun K17 hK17 => ?_)
       refine wp_region_lit ?_
       refine seq_do hA rfl rfl rfl (does_assign rfl) ?_
       intro a hA
       refine seq_end ?_
       refine hK17 _ _ ?_
       refine wp_ret ?_
       refine hret _ _ ?_
       refine ends (v := .bool false) hA rfl (.cons (res_tmp rfl) .nil) rfl ?_
       rw [show decide (xs = ys) = false from decide_eq_false (fun h9 => by subst h9; omega)]
       exact ⟨rfl, hM.bel⟩
     · have hb16' := bne_eq_false_iff_eq.1 hb16
       refine any_tk (v := .bool false) hA 8 rfl rfl rfl rfl hP (hM.sub (List.nil_sublist _)) (fun w1 hM => does_bin rfl rfl (fun w => (bin_neq w).trans (by rw [hb16]))) ?_
       intro a hA
       refine any_end (by kernel_rfl) ?_
       refine hK15 _ _ ?_
       refine wp_cond_false (hA.ev rfl) ?_
       refine wp_skip ?_
       refine hK14 _ _ ?_
       refine wp_region_lit ?_
       refine seq_do hA rfl rfl rfl (does_move rfl) ?_
       intro a hA
       refine seq_do (v := .int .i64 (((i + 1 : Nat) : Int))) hA rfl rfl rfl (does_bin rfl rfl (ar_add ((in_i64 (by omega) (by omega)).trans (by omega)))) ?_
       intro a hA
       refine seq_do hA rfl rfl rfl (does_assign rfl) ?_
       intro a hA
       refine seq_end ?_
       refine hK9 _ _ _ (by omega) ⟨i + 1, rfl, ⟨by omega, same_more hall (by omega)⟩, hA.keep _ ⟨rfl, rfl, rfl, rfl, rfl, rfl, rfl, rfl, trivial⟩, hM⟩
   · have hb13' := of_decide_eq_false hb13
     refine seq_do (v := .bool false) hA rfl rfl rfl (does_bin rfl rfl (fun w => (bin_lss w).trans (by rw [hb13]))) ?_
     intro a hA
     refine seq_end ?_
     refine hK12 _ _ ?_
     refine wp_cond_false (hA.ev rfl) ?_
     refine wp_exit ?_
     refine hK6 _ _ ?_
     refine wp_seq_k (fun K18 hK18 => ?_)
     refine wp_region_lit ?_
     refine seq_do hA rfl rfl rfl (does_assign rfl) ?_
     intro a hA
     refine seq_end ?_
     refine hK18 _ _ ?_
     refine wp_ret ?_
     refine hret _ _ ?_
     refine ends (v := .bool true) hA rfl (.cons (res_tmp rfl) .nil) rfl ?_
     rw [show decide (xs = ys) = true from decide_eq_true (same_all (by omega) (fun j hj => hall j (by omega)))]
     exact ⟨rfl, hM.bel⟩
theorem same_as {w : World} {so to_ : Option Addr} {ca cb : Nat} {xs ys : List UInt8} {b : Bool} (hx : Rb w so xs) (hy : Rb w to_ ys) (hl : xs.length ≤ 140737488351232) (h : decide (xs = ys) = b) : Calls Try.prog 14 #[.slice so xs.length ca, .slice to_ ys.length cb] w fun e w' => e = .returned (.bool b) ∧ Below w.heap.size w w' := h ▸ same_any hx hy hl
theorem rnamed_any {w : World} {nm : ByteArray} : Calls Try.prog 57 #[.string nm] w fun e w' => e = .returned (.bool (namedB nm)) ∧ Below w.heap.size w w' := by
 have hM : Mg w w ([]) := Mg.start w
 refine walk_of (l := [(0, .string nm)]) Try.func57 rfl Try.ntmps57 rfl rfl ?_
 intro Q hret hnorm hP a hA
 refine wp_seq_k (fun K1 hK1 => ?_)
 refine wp_region_lit ?_
 refine seq_do hA rfl rfl rfl (does_assign rfl) ?_
 intro a hA
 refine seq_end ?_
 refine hK1 _ _ ?_
 refine wp_seq_k (fun K2 hK2 => ?_)
 refine wp_region_lit ?_
 refine seq_do hA rfl rfl rfl (does_move rfl) ?_
 intro a hA
 refine seq_do (v := .int .i64 (((nm.size : Nat) : Int))) hA rfl rfl rfl (does_builtin rfl (len_str Try.underlying9)) ?_
 intro a hA
 rcases Bool.eq_false_or_eq_true (decide (1 ≤ ((nm.size : Nat) : Int))) with hb3 | hb3
 · have hb3' := of_decide_eq_true hb3
   refine seq_do (v := .bool true) hA rfl rfl rfl (does_bin rfl rfl (fun w => (bin_geq w).trans (by rw [hb3]))) ?_
   intro a hA
   refine seq_do hA rfl rfl rfl (does_move rfl) ?_
   intro a hA
   refine seq_do hA rfl rfl rfl (does_move rfl) ?_
   intro a hA
   refine seq_do (v := .int .i64 (((nm.size : Nat) : Int))) hA rfl rfl rfl (does_builtin rfl (len_str Try.underlying9)) ?_
   intro a hA
   rcases Bool.eq_false_or_eq_true (decide (((nm.size : Nat) : Int) ≤ 255)) with hb4 | hb4
   · have hb4' := of_decide_eq_true hb4
     refine seq_do (v := .bool true) hA rfl rfl rfl (does_bin rfl rfl (fun w => (bin_leq w).trans (by rw [hb4]))) ?_
     intro a hA
     refine seq_do (v := .bool true) hA rfl rfl rfl (does_pick rfl rfl rfl rfl) ?_
     intro a hA
     refine seq_do hA rfl rfl rfl (does_assign rfl) ?_
     intro a hA
     refine seq_end ?_
     refine hK2 _ _ ?_
     refine wp_ret ?_
     refine hret _ _ ?_
     refine ends (v := .bool true) hA rfl (.cons (res_tmp rfl) .nil) rfl ?_
     exact ⟨by rw [show namedB nm = true from by unfold namedB; apply decide_eq_true; omega], hM.bel⟩
   · have hb4' := of_decide_eq_false hb4
     refine seq_do (v := .bool false) hA rfl rfl rfl (does_bin rfl rfl (fun w => (bin_leq w).trans (by rw [hb4]))) ?_
     intro a hA
     refine seq_do (v := .bool false) hA rfl rfl rfl (does_pick rfl rfl rfl rfl) ?_
     intro a hA
     refine seq_do hA rfl rfl rfl (does_assign rfl) ?_
     intro a hA
     refine seq_end ?_
     refine hK2 _ _ ?_
     refine wp_ret ?_
     refine hret _ _ ?_
     refine ends (v := .bool false) hA rfl (.cons (res_tmp rfl) .nil) rfl ?_
     exact ⟨by rw [show namedB nm = false from by unfold namedB; apply decide_eq_false; omega], hM.bel⟩
 · have hb3' := of_decide_eq_false hb3
   refine seq_do (v := .bool false) hA rfl rfl rfl (does_bin rfl rfl (fun w => (bin_geq w).trans (by rw [hb3]))) ?_
   intro a hA
   refine seq_do hA rfl rfl rfl (does_move rfl) ?_
   intro a hA
   refine seq_skip hA rfl rfl rfl ?_
   intro a hA
   refine seq_skip hA rfl rfl rfl ?_
   intro a hA
   refine seq_skip hA rfl rfl rfl ?_
   intro a hA
   refine seq_do (v := .bool false) hA rfl rfl rfl (does_pick rfl rfl rfl rfl) ?_
   intro a hA
   refine seq_do hA rfl rfl rfl (does_assign rfl) ?_
   intro a hA
   refine seq_end ?_
   refine hK2 _ _ ?_
   refine wp_ret ?_
   refine hret _ _ ?_
   refine ends (v := .bool false) hA rfl (.cons (res_tmp rfl) .nil) rfl ?_
   exact ⟨by rw [show namedB nm = false from by unfold namedB; apply decide_eq_false; omega], hM.bel⟩
theorem rnamed_as {w : World} {nm : ByteArray} {b : Bool} (h : namedB nm = b) : Calls Try.prog 57 #[.string nm] w fun e w' => e = .returned (.bool b) ∧ Below w.heap.size w w' := h ▸ rnamed_any
theorem rsound_any {w : World} {sF sI sO : Option Addr} {cF_ cI cO : Nat} {fs : List Fl} {il ol : List UInt8} (hF : Rf w sF fs) (hn : fs.length ≤ 4398046511104) : Calls Try.prog 31 #[.agg #[.slice sF fs.length cF_, .slice sI il.length cI, .slice sO ol.length cO]] w fun e w' => e = .returned (.bool (soundS fs il ol)) ∧ Below w.heap.size w w' := by
 have hM : Mg w w ([]) := Mg.start w
 refine walk_of (l := [(0, .agg #[.slice sF fs.length cF_, .slice sI il.length cI, .slice sO ol.length cO])]) Try.func31 rfl Try.ntmps31 rfl rfl ?_
 intro Q hret hnorm hP a hA
 refine wp_seq_k (fun K1 hK1 => ?_)
 refine wp_region_lit ?_
 refine s_new (vs := [.slice sF fs.length cF_, .slice sI il.length cI, .slice sO ol.length cO]) (t := 37) hA hM rfl rfl rfl (fun g => .pointer (some ⟨g, 0, none⟩)) (does_box rfl rfl) (by decide) ?_
 intro g2 w3 hM a hA
 refine seq_do hA rfl rfl rfl (does_assign rfl) ?_
 intro a hA
 refine seq_end ?_
 refine hK1 _ _ ?_
 refine wp_seq_k (fun K4 hK4 => ?_)
 refine wp_seq_k (fun K5 hK5 => ?_)
 refine wp_region_lit ?_
 refine seq_do (v := .pointer (some ⟨g2, 0, none⟩)) hA rfl rfl rfl (does_field Wg_fld_37_0 rfl rfl) ?_
 intro a hA
 refine seq_do hA rfl rfl rfl (m_load1 hM Wg_is1_35 rfl 0 rfl rfl) ?_
 intro a hA
 refine seq_do (v := .int .i64 (((fs.length : Nat) : Int))) hA rfl rfl rfl (does_len Try.underlying35 rfl) ?_
 intro a hA
 rcases Bool.eq_false_or_eq_true (decide (64 < ((fs.length : Nat) : Int))) with hb6 | hb6
 · have hb6' := of_decide_eq_true hb6
   refine seq_do (v := .bool true) hA rfl rfl rfl (does_bin rfl rfl (fun w => (bin_gtr w).trans (by rw [hb6]))) ?_
   intro a hA
   refine seq_do hA rfl rfl rfl (does_move rfl) ?_
   intro a hA
   refine seq_skip hA rfl rfl rfl ?_
   intro a hA
   refine seq_skip hA rfl rfl rfl ?_
   intro a hA
   refine seq_skip hA rfl rfl rfl ?_
   intro a hA
   refine seq_skip hA rfl rfl rfl ?_
   intro a hA
   refine seq_do (v := .bool true) hA rfl rfl rfl (does_pick rfl rfl rfl rfl) ?_
   intro a hA
   refine seq_do hA rfl rfl rfl (does_move rfl) ?_
   intro a hA
   refine seq_skip hA rfl rfl rfl ?_
   intro a hA
   refine seq_skip hA rfl rfl rfl ?_
   intro a hA
   refine seq_skip hA rfl rfl rfl ?_
   intro a hA
   refine seq_skip hA rfl rfl rfl ?_
   intro a hA
   refine seq_do (v := .bool true) hA rfl rfl rfl (does_pick rfl rfl rfl rfl) ?_
   intro a hA
   refine seq_end ?_
   refine hK5 _ _ ?_
   refine wp_cond_true (hA.ev rfl) ?_
   refine wp_seq_k (fun K7 hK7 => ?_)
   refine wp_region_lit ?_
   refine seq_do hA rfl rfl rfl (does_assign rfl) ?_
   intro a hA
   refine seq_end ?_
   refine hK7 _ _ ?_
   refine wp_ret ?_
   refine hret _ _ ?_
   refine ends (v := .bool false) hA rfl (.cons (res_tmp rfl) .nil) rfl ?_
   exact ⟨by rw [show soundS fs il ol = false from by unfold soundS; rw [decide_eq_false (by omega)]; rfl], hM.bel⟩
 · have hb6' := of_decide_eq_false hb6
   refine seq_do (v := .bool false) hA rfl rfl rfl (does_bin rfl rfl (fun w => (bin_gtr w).trans (by rw [hb6]))) ?_
   intro a hA
   refine seq_do hA rfl rfl rfl (does_move rfl) ?_
   intro a hA
   refine seq_do (v := .pointer (some ⟨g2, 1, none⟩)) hA rfl rfl rfl (does_field Wg_fld_37_1 rfl rfl) ?_
   intro a hA
   refine seq_do hA rfl rfl rfl (m_load1 hM Wg_is1_24 rfl 0 rfl rfl) ?_
   intro a hA
   refine seq_do (v := .int .i64 (((il.length : Nat) : Int))) hA rfl rfl rfl (does_len Try.underlying24 rfl) ?_
   intro a hA
   rcases Bool.eq_false_or_eq_true (decide (65536 < ((il.length : Nat) : Int))) with hb8 | hb8
   · have hb8' := of_decide_eq_true hb8
     refine seq_do (v := .bool true) hA rfl rfl rfl (does_bin rfl rfl (fun w => (bin_gtr w).trans (by rw [hb8]))) ?_
     intro a hA
     refine seq_do (v := .bool true) hA rfl rfl rfl (does_pick rfl rfl rfl rfl) ?_
     intro a hA
     refine seq_do hA rfl rfl rfl (does_move rfl) ?_
     intro a hA
     refine seq_skip hA rfl rfl rfl ?_
     intro a hA
     refine seq_skip hA rfl rfl rfl ?_
     intro a hA
     refine seq_skip hA rfl rfl rfl ?_
     intro a hA
     refine seq_skip hA rfl rfl rfl ?_
     intro a hA
     refine seq_do (v := .bool true) hA rfl rfl rfl (does_pick rfl rfl rfl rfl) ?_
     intro a hA
     refine seq_end ?_
     refine hK5 _ _ ?_
     refine wp_cond_true (hA.ev rfl) ?_
     refine wp_seq_k (fun K9 hK9 => ?_)
     refine wp_region_lit ?_
     refine seq_do hA rfl rfl rfl (does_assign rfl) ?_
     intro a hA
     refine seq_end ?_
     refine hK9 _ _ ?_
     refine wp_ret ?_
     refine hret _ _ ?_
     refine ends (v := .bool false) hA rfl (.cons (res_tmp rfl) .nil) rfl ?_
     exact ⟨by rw [show soundS fs il ol = false from by unfold soundS; rw [decide_eq_false (by omega)]; rfl], hM.bel⟩
   · have hb8' := of_decide_eq_false hb8
     refine seq_do (v := .bool false) hA rfl rfl rfl (does_bin rfl rfl (fun w => (bin_gtr w).trans (by rw [hb8]))) ?_
     intro a hA
     refine seq_do (v := .bool false) hA rfl rfl rfl (does_pick rfl rfl rfl rfl) ?_
     intro a hA
     refine seq_do hA rfl rfl rfl (does_move rfl) ?_
     intro a hA
     refine seq_do (v := .pointer (some ⟨g2, 2, none⟩)) hA rfl rfl rfl (does_field Wg_fld_37_2 rfl rfl) ?_
     intro a hA
     refine seq_do hA rfl rfl rfl (m_load1 hM Wg_is1_24 rfl 0 rfl rfl) ?_
     intro a hA
     refine seq_do (v := .int .i64 (((ol.length : Nat) : Int))) hA rfl rfl rfl (does_len Try.underlying24 rfl) ?_
     intro a hA
     rcases Bool.eq_false_or_eq_true (decide (65536 < ((ol.length : Nat) : Int))) with hb10 | hb10
     · have hb10' := of_decide_eq_true hb10
       refine seq_do (v := .bool true) hA rfl rfl rfl (does_bin rfl rfl (fun w => (bin_gtr w).trans (by rw [hb10]))) ?_
       intro a hA
       refine seq_do (v := .bool true) hA rfl rfl rfl (does_pick rfl rfl rfl rfl) ?_
       intro a hA
       refine seq_end ?_
       refine hK5 _ _ ?_
       refine wp_cond_true (hA.ev rfl) ?_
       refine wp_seq_k (fun K11 hK11 => ?_)
       refine wp_region_lit ?_
       refine seq_do hA rfl rfl rfl (does_assign rfl) ?_
       intro a hA
       refine seq_end ?_
       refine hK11 _ _ ?_
       refine wp_ret ?_
       refine hret _ _ ?_
       refine ends (v := .bool false) hA rfl (.cons (res_tmp rfl) .nil) rfl ?_
       exact ⟨by rw [show soundS fs il ol = false from by unfold soundS; rw [decide_eq_false (by omega)]; rfl], hM.bel⟩
     · have hb10' := of_decide_eq_false hb10
       refine seq_do (v := .bool false) hA rfl rfl rfl (does_bin rfl rfl (fun w => (bin_gtr w).trans (by rw [hb10]))) ?_
       intro a hA
       refine seq_do (v := .bool false) hA rfl rfl rfl (does_pick rfl rfl rfl rfl) ?_
       intro a hA
       refine seq_end ?_
       refine hK5 _ _ ?_
       refine wp_cond_false (hA.ev rfl) ?_
       refine wp_skip ?_
       refine hK4 _ _ ?_
       refine wp_seq_k (fun K12 hK12 => ?_)
       refine wp_seq_k (fun K13 hK13 => ?_)
       refine wp_region_lit ?_
       refine seq_do hA rfl rfl rfl (does_assign rfl) ?_
       intro a hA
       refine seq_end ?_
       refine hK13 _ _ ?_
       refine wp_block ?_
       refine wp_loop_n (fun m_ a w1 => ∃ (i : Nat), m_ = fs.length - i ∧ (risesF (prvF fs i) (fs.drop i) = risesF ⟨#[]⟩ fs ∧ i ≤ fs.length) ∧ Sl a 63 [(0, .agg #[.slice sF fs.length cF_, .slice sI il.length cI, .slice sO ol.length cO]), (1, .pointer (some ⟨g2, 0, none⟩)), (3, .int .i64 (((i : Nat) : Int))), (4, .pointer (some ⟨g2, 0, none⟩)), (5, .slice sF fs.length cF_), (6, .int .i64 (((fs.length : Nat) : Int))), (7, .bool false), (8, .bool false), (9, .pointer (some ⟨g2, 1, none⟩)), (10, .slice sI il.length cI), (11, .int .i64 (((il.length : Nat) : Int))), (12, .bool false), (13, .bool false), (14, .bool false), (15, .pointer (some ⟨g2, 2, none⟩)), (16, .slice sO ol.length cO), (17, .int .i64 (((ol.length : Nat) : Int))), (18, .bool false), (19, .bool false)] ∧ Mg w w1 (.obj g2 (.cells #[.slice sF fs.length cF_, .slice sI il.length cI, .slice sO ol.length cO] 37) :: [])) _ ⟨0, rfl, ⟨by rw [List.drop_zero, prvF_zero], Nat.zero_le _⟩, hA.keep _ ⟨rfl, rfl, rfl, rfl, rfl, rfl, rfl, rfl, rfl, rfl, rfl, rfl, rfl, rfl, rfl, rfl, rfl, rfl, rfl, trivial⟩, hM⟩ ?_
       clear hM hA
       rintro m_ a w14 ⟨i, rfl, hinv16, hA, hM⟩ K15 hK15
       obtain ⟨hrun, hi9⟩ := hinv16
       refine wp_seq_k (fun K17 hK17 => ?_)
       refine wp_seq_k (fun K18 hK18 => ?_)
       refine wp_region_lit ?_
       refine seq_do hA rfl rfl rfl (does_move rfl) ?_
       intro a hA
       refine seq_do (v := .pointer (some ⟨g2, 0, none⟩)) hA rfl rfl rfl (does_field Wg_fld_37_0 rfl rfl) ?_
       intro a hA
       refine seq_do hA rfl rfl rfl (m_load1 hM Wg_is1_35 rfl 0 rfl rfl) ?_
       intro a hA
       refine seq_do (v := .int .i64 (((fs.length : Nat) : Int))) hA rfl rfl rfl (does_len Try.underlying35 rfl) ?_
       intro a hA
       rcases Bool.eq_false_or_eq_true (decide (((i : Nat) : Int) < ((fs.length : Nat) : Int))) with hb19 | hb19
       · have hb19' := of_decide_eq_true hb19
         refine seq_do (v := .bool true) hA rfl rfl rfl (does_bin rfl rfl (fun w => (bin_lss w).trans (by rw [hb19]))) ?_
         intro a hA
         refine seq_end ?_
         refine hK18 _ _ ?_
         refine wp_cond_true (hA.ev rfl) ?_
         refine wp_skip ?_
         refine hK17 _ _ ?_
         refine wp_seq_k (fun K20 hK20 => ?_)
         refine wp_block ?_
         refine wp_seq_k (fun K21 hK21 => ?_)
         refine wp_seq_k (fun K22 hK22 => ?_)
         refine wp_region_lit ?_
         refine seq_do (v := .pointer (some ⟨g2, 0, none⟩)) hA rfl rfl rfl (does_field Wg_fld_37_0 rfl rfl) ?_
         intro a hA
         refine seq_do hA rfl rfl rfl (m_load1 hM Wg_is1_35 rfl 0 rfl rfl) ?_
         intro a hA
         refine seq_do hA rfl rfl rfl (does_move rfl) ?_
         intro a hA
         obtain ⟨fn23, fd24, hf29⟩ := file_get (fs := fs) (i := i) (by omega)
         obtain ⟨bf25, of26, sj27, cj28, hf30, hf31, hf32, hf33, hf34, hf35⟩ := hF.pos _ _ hf29
         refine seq_do (v := .pointer (some ⟨bf25, of26 + i * 2, none⟩)) hA rfl rfl rfl (does_indexA Try.underlying35 (by kernel_rfl) rfl rfl rfl hf30 (show i < fs.length by omega)) ?_
         intro a hA
         refine seq_do (v := .pointer (some ⟨bf25, of26 + i * 2, none⟩)) hA rfl rfl rfl (does_field Wg_fld_88_0 rfl rfl) ?_
         intro a hA
         refine seq_do (v := .string fn23) hA rfl rfl rfl (m_loadR hM hf31 hf32 Wg_is1_9 rfl) ?_
         intro a hA
         rcases Bool.eq_false_or_eq_true (namedB fn23) with hb36 | hb36
         · refine seq_call hA rfl rfl rfl (enters_func rfl rfl (fun w => by kernel_rfl)) (rnamed_as hb36) ?_
           rintro _ w38 ⟨rfl, hb37⟩
           replace hM := hM.call hb37
           refine ⟨_, rfl, ?_⟩
           intro a hA
           refine seq_do (v := .bool false) hA rfl rfl rfl (does_un rfl un_not) ?_
           intro a hA
           refine seq_do hA rfl rfl rfl (does_move rfl) ?_
           intro a hA
           refine seq_do (v := .pointer (some ⟨g2, 0, none⟩)) hA rfl rfl rfl (does_field Wg_fld_37_0 rfl rfl) ?_
           intro a hA
           refine seq_do hA rfl rfl rfl (m_load1 hM Wg_is1_35 rfl 0 rfl rfl) ?_
           intro a hA
           refine seq_do hA rfl rfl rfl (does_move rfl) ?_
           intro a hA
           refine seq_do (v := .pointer (some ⟨bf25, of26 + i * 2, none⟩)) hA rfl rfl rfl (does_indexA Try.underlying35 (by kernel_rfl) rfl rfl rfl hf30 (show i < fs.length by omega)) ?_
           intro a hA
           refine seq_do (v := .pointer (some ⟨bf25, of26 + i * 2 + 1, none⟩)) hA rfl rfl rfl (does_field Wg_fld_88_1 rfl rfl) ?_
           intro a hA
           refine seq_do (v := .slice sj27 fd24.length cj28) hA rfl rfl rfl (m_loadR hM hf31 hf33 Wg_is1_24 rfl) ?_
           intro a hA
           refine seq_do (v := .int .i64 (((fd24.length : Nat) : Int))) hA rfl rfl rfl (does_len Try.underlying24 rfl) ?_
           intro a hA
           rcases Bool.eq_false_or_eq_true (decide (65536 < ((fd24.length : Nat) : Int))) with hb39 | hb39
           · have hb39' := of_decide_eq_true hb39
             refine seq_do (v := .bool true) hA rfl rfl rfl (does_bin rfl rfl (fun w => (bin_gtr w).trans (by rw [hb39]))) ?_
             intro a hA
             refine seq_do (v := .bool true) hA rfl rfl rfl (does_pick rfl rfl rfl rfl) ?_
             intro a hA
             refine seq_end ?_
             refine hK22 _ _ ?_
             refine wp_cond_true (hA.ev rfl) ?_
             refine wp_seq_k (fun K40 hK40 => ?_)
             refine wp_region_lit ?_
             refine seq_do hA rfl rfl rfl (does_assign rfl) ?_
             intro a hA
             refine seq_end ?_
             refine hK40 _ _ ?_
             refine wp_ret ?_
             refine hret _ _ ?_
             refine ends (v := .bool false) hA rfl (.cons (res_tmp rfl) .nil) rfl ?_
             have h9 : risesF ⟨#[]⟩ fs = false := by
               rw [← hrun, rises_step hf29]
               rw [show okF (fn23, fd24) = false from by unfold okF; rw [decide_eq_false (show ¬ (fn23, fd24).2.length ≤ 65536 by show ¬ fd24.length ≤ 65536; omega), Bool.and_false]]; rfl
             exact ⟨by rw [show soundS fs il ol = false from by unfold soundS; rw [h9, Bool.and_false]], hM.bel⟩
           · have hb39' := of_decide_eq_false hb39
             refine seq_do (v := .bool false) hA rfl rfl rfl (does_bin rfl rfl (fun w => (bin_gtr w).trans (by rw [hb39]))) ?_
             intro a hA
             refine seq_do (v := .bool false) hA rfl rfl rfl (does_pick rfl rfl rfl rfl) ?_
             intro a hA
             refine seq_end ?_
             refine hK22 _ _ ?_
             refine wp_cond_false (hA.ev rfl) ?_
             refine wp_skip ?_
             refine hK21 _ _ ?_
             refine wp_seq_k (fun K41 hK41 => ?_)
             refine wp_draw (S := fun w1 => Mg w w1 (.obj g2 (.cells #[.slice sF fs.length cF_, .slice sI il.length cI, .slice sO ol.length cO] 37) :: [])) (by kernel_rfl) ?_
             replace hM := hM.drew
             refine any_tk hA 0 rfl rfl rfl rfl hP (hM.sub (.cons_cons _ (List.nil_sublist _))) (fun w1 hM => does_move rfl) ?_
             intro a hA
             rcases Bool.eq_false_or_eq_true (decide (0 < ((i : Nat) : Int))) with hb42 | hb42
             · have hb42' := of_decide_eq_true hb42
               refine any_tk (v := .bool true) hA 1 rfl rfl rfl rfl hP (hM.sub (.cons_cons _ (List.nil_sublist _))) (fun w1 hM => does_bin rfl rfl (fun w => (bin_gtr w).trans (by rw [hb42]))) ?_
               intro a hA
               refine any_tk hA 2 rfl rfl rfl rfl hP (hM.sub (.cons_cons _ (List.nil_sublist _))) (fun w1 hM => does_move rfl) ?_
               intro a hA
               refine any_tk (v := .pointer (some ⟨g2, 0, none⟩)) hA 3 rfl rfl rfl rfl hP (hM.sub (.cons_cons _ (List.nil_sublist _))) (fun w1 hM => does_field Wg_fld_37_0 rfl rfl) ?_
               intro a hA
               refine any_tk hA 4 rfl rfl rfl rfl hP (hM.sub (.cons_cons _ (List.nil_sublist _))) (fun w1 hM => m_load1 hM Wg_is1_35 rfl 0 rfl rfl) ?_
               intro a hA
               refine any_tk hA 5 rfl rfl rfl rfl hP (hM.sub (.cons_cons _ (List.nil_sublist _))) (fun w1 hM => does_move rfl) ?_
               intro a hA
               refine any_tk (v := .pointer (some ⟨bf25, of26 + i * 2, none⟩)) hA 6 rfl rfl rfl rfl hP (hM.sub (.cons_cons _ (List.nil_sublist _))) (fun w1 hM => does_indexA Try.underlying35 (by kernel_rfl) rfl rfl rfl hf30 (show i < fs.length by omega)) ?_
               intro a hA
               refine any_tk (v := .pointer (some ⟨bf25, of26 + i * 2, none⟩)) hA 7 rfl rfl rfl rfl hP (hM.sub (.cons_cons _ (List.nil_sublist _))) (fun w1 hM => does_field Wg_fld_88_0 rfl rfl) ?_
               intro a hA
               refine any_tk (v := .string fn23) hA 8 rfl rfl rfl rfl hP (hM.sub (.cons_cons _ (List.nil_sublist _))) (fun w1 hM => m_loadR hM hf31 hf32 Wg_is1_9 rfl) ?_
               intro a hA
               refine any_tk (v := .pointer (some ⟨g2, 0, none⟩)) hA 9 rfl rfl rfl rfl hP (hM.sub (.cons_cons _ (List.nil_sublist _))) (fun w1 hM => does_field Wg_fld_37_0 rfl rfl) ?_
               intro a hA
               refine any_tk hA 10 rfl rfl rfl rfl hP (hM.sub (.cons_cons _ (List.nil_sublist _))) (fun w1 hM => m_load1 hM Wg_is1_35 rfl 0 rfl rfl) ?_
               intro a hA
               refine any_tk hA 11 rfl rfl rfl rfl hP (hM.sub (.cons_cons _ (List.nil_sublist _))) (fun w1 hM => does_move rfl) ?_
               intro a hA
               refine any_tk (v := .int .i64 (((i - 1 : Nat) : Int))) hA 12 rfl rfl rfl rfl hP (hM.sub (.cons_cons _ (List.nil_sublist _))) (fun w1 hM => does_bin rfl rfl (ar_sub ((in_i64 (by omega) (by omega)).trans (by omega)))) ?_
               intro a hA
               obtain ⟨fn43, fd44, hf49⟩ := file_get (fs := fs) (i := i - 1) (by omega)
               obtain ⟨bf45, of46, sj47, cj48, hf50, hf51, hf52, hf53, hf54, hf55⟩ := hF.pos _ _ hf49
               refine any_tk (v := .pointer (some ⟨bf45, of46 + (i - 1) * 2, none⟩)) hA 13 rfl rfl rfl rfl hP (hM.sub (.cons_cons _ (List.nil_sublist _))) (fun w1 hM => does_indexA Try.underlying35 (by kernel_rfl) rfl rfl rfl hf50 (show i - 1 < fs.length by omega)) ?_
               intro a hA
               refine any_tk (v := .pointer (some ⟨bf45, of46 + (i - 1) * 2, none⟩)) hA 14 rfl rfl rfl rfl hP (hM.sub (.cons_cons _ (List.nil_sublist _))) (fun w1 hM => does_field Wg_fld_88_0 rfl rfl) ?_
               intro a hA
               refine any_tk (v := .string fn43) hA 15 rfl rfl rfl rfl hP (hM.sub (.cons_cons _ (List.nil_sublist _))) (fun w1 hM => m_loadR hM hf51 hf52 Wg_is1_9 rfl) ?_
               intro a hA
               rcases Bool.eq_false_or_eq_true (ltN fn43 fn23) with hb56 | hb56
               · refine any_tk (v := .bool false) hA 16 rfl rfl rfl rfl hP (hM.sub (.cons_cons _ (List.nil_sublist _))) (fun w1 hM => does_bin rfl rfl (fun w => (bin_leqS w).trans (by rw [leq_not, hb56]; rfl))) ?_
                 intro a hA
                 refine any_tk (v := .bool false) hA 17 rfl rfl rfl rfl hP (hM.sub (.cons_cons _ (List.nil_sublist _))) (fun w1 hM => does_pick rfl rfl rfl rfl) ?_
                 intro a hA
                 refine any_end (by kernel_rfl) ?_
                 refine hK41 _ _ ?_
                 refine wp_cond_false (hA.ev rfl) ?_
                 refine wp_skip ?_
                 refine hK20 _ _ ?_
                 refine wp_region_lit ?_
                 refine seq_do hA rfl rfl rfl (does_move rfl) ?_
                 intro a hA
                 refine seq_do (v := .int .i64 (((i + 1 : Nat) : Int))) hA rfl rfl rfl (does_bin rfl rfl (ar_add ((in_i64 (by omega) (by omega)).trans (by omega)))) ?_
                 intro a hA
                 refine seq_do hA rfl rfl rfl (does_assign rfl) ?_
                 intro a hA
                 refine seq_end ?_
                 have h9 : risesF (prvF fs (i + 1)) (fs.drop (i + 1)) = risesF ⟨#[]⟩ fs := by
                   rw [← hrun, rises_step hf29, show okF (fn23, fd24) = true from by unfold okF; rw [show namedB (fn23, fd24).1 = true from hb36, decide_eq_true (show (fn23, fd24).2.length ≤ 65536 by show fd24.length ≤ 65536; omega)]; rfl, show ltN (prvF fs i) (fn23, fd24).1 = true from (by rw [prvF_at (by omega) hf49]; exact hb56), prvF_at (i := i + 1) (by omega) (show fs[i + 1 - 1]? = some (fn23, fd24) from hf29)]
                   rfl
                 refine hK15 _ _ _ (by omega) ⟨i + 1, rfl, ⟨h9, by omega⟩, hA.keep _ ⟨rfl, rfl, rfl, rfl, rfl, rfl, rfl, rfl, rfl, rfl, rfl, rfl, rfl, rfl, rfl, rfl, rfl, rfl, rfl, trivial⟩, hM⟩
               · refine any_tk (v := .bool true) hA 16 rfl rfl rfl rfl hP (hM.sub (.cons_cons _ (List.nil_sublist _))) (fun w1 hM => does_bin rfl rfl (fun w => (bin_leqS w).trans (by rw [leq_not, hb56]; rfl))) ?_
                 intro a hA
                 refine any_tk (v := .bool true) hA 17 rfl rfl rfl rfl hP (hM.sub (.cons_cons _ (List.nil_sublist _))) (fun w1 hM => does_pick rfl rfl rfl rfl) ?_
                 intro a hA
                 refine any_end (by kernel_rfl) ?_
                 refine hK41 _ _ ?_
                 refine wp_cond_true (hA.ev rfl) ?_
                 refine wp_seq_k (fun K57 hK57 => ?_)
                 refine wp_region_lit ?_
                 refine seq_do hA rfl rfl rfl (does_assign rfl) ?_
                 intro a hA
                 refine seq_end ?_
                 refine hK57 _ _ ?_
                 refine wp_ret ?_
                 refine hret _ _ ?_
                 refine ends (v := .bool false) hA rfl (.cons (res_tmp rfl) .nil) rfl ?_
                 have h9 : risesF ⟨#[]⟩ fs = false := by
                   rw [← hrun, rises_step hf29]
                   rw [prvF_at (by omega) hf49, show ltN fn43 (fn23, fd24).1 = false from hb56, Bool.and_false]; rfl
                 exact ⟨by rw [show soundS fs il ol = false from by unfold soundS; rw [h9, Bool.and_false]], hM.bel⟩
             · have hb42' := of_decide_eq_false hb42
               refine any_tk (v := .bool false) hA 1 rfl rfl rfl rfl hP (hM.sub (.cons_cons _ (List.nil_sublist _))) (fun w1 hM => does_bin rfl rfl (fun w => (bin_gtr w).trans (by rw [hb42]))) ?_
               intro a hA
               refine any_tk hA 2 rfl rfl rfl rfl hP (hM.sub (.cons_cons _ (List.nil_sublist _))) (fun w1 hM => does_move rfl) ?_
               intro a hA
               refine any_sk hA 3 rfl rfl rfl rfl hP (hM.sub (.cons_cons _ (List.nil_sublist _))) ?_
               intro a hA
               refine any_sk hA 4 rfl rfl rfl rfl hP (hM.sub (.cons_cons _ (List.nil_sublist _))) ?_
               intro a hA
               refine any_sk hA 5 rfl rfl rfl rfl hP (hM.sub (.cons_cons _ (List.nil_sublist _))) ?_
               intro a hA
               refine any_sk hA 6 rfl rfl rfl rfl hP (hM.sub (.cons_cons _ (List.nil_sublist _))) ?_
               intro a hA
               refine any_sk hA 7 rfl rfl rfl rfl hP (hM.sub (.cons_cons _ (List.nil_sublist _))) ?_
               intro a hA
               refine any_sk hA 8 rfl rfl rfl rfl hP (hM.sub (.cons_cons _ (List.nil_sublist _))) ?_
               intro a hA
               refine any_sk hA 9 rfl rfl rfl rfl hP (hM.sub (.cons_cons _ (List.nil_sublist _))) ?_
               intro a hA
               refine any_sk hA 10 rfl rfl rfl rfl hP (hM.sub (.cons_cons _ (List.nil_sublist _))) ?_
               intro a hA
               refine any_sk hA 11 rfl rfl rfl rfl hP (hM.sub (.cons_cons _ (List.nil_sublist _))) ?_
               intro a hA
               refine any_sk hA 12 rfl rfl rfl rfl hP (hM.sub (.cons_cons _ (List.nil_sublist _))) ?_
               intro a hA
               refine any_sk hA 13 rfl rfl rfl rfl hP (hM.sub (.cons_cons _ (List.nil_sublist _))) ?_
               intro a hA
               refine any_sk hA 14 rfl rfl rfl rfl hP (hM.sub (.cons_cons _ (List.nil_sublist _))) ?_
               intro a hA
               refine any_sk hA 15 rfl rfl rfl rfl hP (hM.sub (.cons_cons _ (List.nil_sublist _))) ?_
               intro a hA
               refine any_sk hA 16 rfl rfl rfl rfl hP (hM.sub (.cons_cons _ (List.nil_sublist _))) ?_
               intro a hA
               refine any_tk (v := .bool false) hA 17 rfl rfl rfl rfl hP (hM.sub (.cons_cons _ (List.nil_sublist _))) (fun w1 hM => does_pick rfl rfl rfl rfl) ?_
               intro a hA
               refine any_end (by kernel_rfl) ?_
               refine hK41 _ _ ?_
               refine wp_cond_false (hA.ev rfl) ?_
               refine wp_skip ?_
               refine hK20 _ _ ?_
               refine wp_region_lit ?_
               refine seq_do hA rfl rfl rfl (does_move rfl) ?_
               intro a hA
               refine seq_do (v := .int .i64 (((i + 1 : Nat) : Int))) hA rfl rfl rfl (does_bin rfl rfl (ar_add ((in_i64 (by omega) (by omega)).trans (by omega)))) ?_
               intro a hA
               refine seq_do hA rfl rfl rfl (does_assign rfl) ?_
               intro a hA
               refine seq_end ?_
               have h9 : risesF (prvF fs (i + 1)) (fs.drop (i + 1)) = risesF ⟨#[]⟩ fs := by
                 rw [← hrun, rises_step hf29, show okF (fn23, fd24) = true from by unfold okF; rw [show namedB (fn23, fd24).1 = true from hb36, decide_eq_true (show (fn23, fd24).2.length ≤ 65536 by show fd24.length ≤ 65536; omega)]; rfl, show ltN (prvF fs i) (fn23, fd24).1 = true from (by rw [show i = 0 from by omega, prvF_zero]; exact lt_empty (of_decide_eq_true (show decide (1 ≤ fn23.size ∧ fn23.size ≤ 255) = true from hb36)).1), prvF_at (i := i + 1) (by omega) (show fs[i + 1 - 1]? = some (fn23, fd24) from hf29)]
                 rfl
               refine hK15 _ _ _ (by omega) ⟨i + 1, rfl, ⟨h9, by omega⟩, hA.keep _ ⟨rfl, rfl, rfl, rfl, rfl, rfl, rfl, rfl, rfl, rfl, rfl, rfl, rfl, rfl, rfl, rfl, rfl, rfl, rfl, trivial⟩, hM⟩
         · refine seq_call hA rfl rfl rfl (enters_func rfl rfl (fun w => by kernel_rfl)) (rnamed_as hb36) ?_
           rintro _ w59 ⟨rfl, hb58⟩
           replace hM := hM.call hb58
           refine ⟨_, rfl, ?_⟩
           intro a hA
           refine seq_do (v := .bool true) hA rfl rfl rfl (does_un rfl un_not) ?_
           intro a hA
           refine seq_do hA rfl rfl rfl (does_move rfl) ?_
           intro a hA
           refine seq_skip hA rfl rfl rfl ?_
           intro a hA
           refine seq_skip hA rfl rfl rfl ?_
           intro a hA
           refine seq_skip hA rfl rfl rfl ?_
           intro a hA
           refine seq_skip hA rfl rfl rfl ?_
           intro a hA
           refine seq_skip hA rfl rfl rfl ?_
           intro a hA
           refine seq_skip hA rfl rfl rfl ?_
           intro a hA
           refine seq_skip hA rfl rfl rfl ?_
           intro a hA
           refine seq_skip hA rfl rfl rfl ?_
           intro a hA
           refine seq_do (v := .bool true) hA rfl rfl rfl (does_pick rfl rfl rfl rfl) ?_
           intro a hA
           refine seq_end ?_
           refine hK22 _ _ ?_
           refine wp_cond_true (hA.ev rfl) ?_
           refine wp_seq_k (fun K60 hK60 => ?_)
           refine wp_region_lit ?_
           refine seq_do hA rfl rfl rfl (does_assign rfl) ?_
           intro a hA
           refine seq_end ?_
           refine hK60 _ _ ?_
           refine wp_ret ?_
           refine hret _ _ ?_
           refine ends (v := .bool false) hA rfl (.cons (res_tmp rfl) .nil) rfl ?_
           have h9 : risesF ⟨#[]⟩ fs = false := by
             rw [← hrun, rises_step hf29]
             rw [show okF (fn23, fd24) = false from by unfold okF; rw [show namedB (fn23, fd24).1 = false from hb36]; rfl]; rfl
           exact ⟨by rw [show soundS fs il ol = false from by unfold soundS; rw [h9, Bool.and_false]], hM.bel⟩
       · have hb19' := of_decide_eq_false hb19
         refine seq_do (v := .bool false) hA rfl rfl rfl (does_bin rfl rfl (fun w => (bin_lss w).trans (by rw [hb19]))) ?_
         intro a hA
         refine seq_end ?_
         refine hK18 _ _ ?_
         refine wp_cond_false (hA.ev rfl) ?_
         refine wp_exit ?_
         refine hK12 _ _ ?_
         refine wp_seq_k (fun K61 hK61 => ?_)
         refine wp_region_lit ?_
         refine seq_do hA rfl rfl rfl (does_assign rfl) ?_
         intro a hA
         refine seq_end ?_
         refine hK61 _ _ ?_
         refine wp_ret ?_
         refine hret _ _ ?_
         refine ends (v := .bool true) hA rfl (.cons (res_tmp rfl) .nil) rfl ?_
         exact ⟨by rw [show soundS fs il ol = true from by unfold soundS; rw [decide_eq_true (by omega), ← hrun, rises_over (by omega)]; rfl], hM.bel⟩
theorem rsound_as {w : World} {sF sI sO : Option Addr} {cF_ cI cO : Nat} {fs : List Fl} {il ol : List UInt8} {b : Bool} (hF : Rf w sF fs) (hn : fs.length ≤ 4398046511104) (h : soundS fs il ol = b) : Calls Try.prog 31 #[.agg #[.slice sF fs.length cF_, .slice sI il.length cI, .slice sO ol.length cO]] w fun e w' => e = .returned (.bool b) ∧ Below w.heap.size w w' := h ▸ rsound_any hF hn
theorem rfind_any {w : World} {sF sI sO : Option Addr} {cF_ cI cO : Nat} {fs : List Fl} {il ol : List UInt8} {nm : ByteArray} (hF : Rf w sF fs) (hn : fs.length ≤ 4398046511104) : Calls Try.prog 58 #[.agg #[.slice sF fs.length cF_, .slice sI il.length cI, .slice sO ol.length cO], .string nm] w fun e w' => e = .returned (.int .i64 (fndX nm 0 fs)) ∧ Below w.heap.size w w' := by
 have hM : Mg w w ([]) := Mg.start w
 refine walk_of (l := [(0, .agg #[.slice sF fs.length cF_, .slice sI il.length cI, .slice sO ol.length cO]), (1, .string nm)]) Try.func58 rfl Try.ntmps58 rfl rfl ?_
 intro Q hret hnorm hP a hA
 refine wp_seq_k (fun K1 hK1 => ?_)
 refine wp_region_lit ?_
 refine s_new (vs := [.slice sF fs.length cF_, .slice sI il.length cI, .slice sO ol.length cO]) (t := 37) hA hM rfl rfl rfl (fun g => .pointer (some ⟨g, 0, none⟩)) (does_box rfl rfl) (by decide) ?_
 intro g2 w3 hM a hA
 refine seq_do hA rfl rfl rfl (does_assign rfl) ?_
 intro a hA
 refine seq_end ?_
 refine hK1 _ _ ?_
 refine wp_seq_k (fun K4 hK4 => ?_)
 refine wp_seq_k (fun K5 hK5 => ?_)
 refine wp_region_lit ?_
 refine seq_do hA rfl rfl rfl (does_assign rfl) ?_
 intro a hA
 refine seq_end ?_
 refine hK5 _ _ ?_
 refine wp_block ?_
 refine wp_loop_n (fun m_ a w1 => ∃ (i : Nat), m_ = fs.length - i ∧ (fndX nm i (fs.drop i) = fndX nm 0 fs ∧ i ≤ fs.length) ∧ Sl a 22 [(0, .agg #[.slice sF fs.length cF_, .slice sI il.length cI, .slice sO ol.length cO]), (1, .string nm), (2, .pointer (some ⟨g2, 0, none⟩)), (5, .int .i64 (((i : Nat) : Int)))] ∧ Mg w w1 (.obj g2 (.cells #[.slice sF fs.length cF_, .slice sI il.length cI, .slice sO ol.length cO] 37) :: [])) _ ⟨0, rfl, ⟨by rw [List.drop_zero], Nat.zero_le _⟩, hA.keep _ ⟨rfl, rfl, rfl, rfl, trivial⟩, hM⟩ ?_
 clear hM hA
 rintro m_ a w6 ⟨i, rfl, hinv8, hA, hM⟩ K7 hK7
 obtain ⟨hrun, hi9⟩ := hinv8
 refine wp_seq_k (fun K9 hK9 => ?_)
 refine wp_seq_k (fun K10 hK10 => ?_)
 refine wp_region_lit ?_
 refine seq_do hA rfl rfl rfl (does_move rfl) ?_
 intro a hA
 refine seq_do (v := .pointer (some ⟨g2, 0, none⟩)) hA rfl rfl rfl (does_field Wg_fld_37_0 rfl rfl) ?_
 intro a hA
 refine seq_do hA rfl rfl rfl (m_load1 hM Wg_is1_35 rfl 0 rfl rfl) ?_
 intro a hA
 refine seq_do (v := .int .i64 (((fs.length : Nat) : Int))) hA rfl rfl rfl (does_len Try.underlying35 rfl) ?_
 intro a hA
 rcases Bool.eq_false_or_eq_true (decide (((i : Nat) : Int) < ((fs.length : Nat) : Int))) with hb11 | hb11
 · have hb11' := of_decide_eq_true hb11
   refine seq_do (v := .bool true) hA rfl rfl rfl (does_bin rfl rfl (fun w => (bin_lss w).trans (by rw [hb11]))) ?_
   intro a hA
   refine seq_end ?_
   refine hK10 _ _ ?_
   refine wp_cond_true (hA.ev rfl) ?_
   refine wp_skip ?_
   refine hK9 _ _ ?_
   refine wp_seq_k (fun K12 hK12 => ?_)
   refine wp_block ?_
   refine wp_seq_k (fun K13 hK13 => ?_)
   refine wp_region_lit ?_
   refine seq_do (v := .pointer (some ⟨g2, 0, none⟩)) hA rfl rfl rfl (does_field Wg_fld_37_0 rfl rfl) ?_
   intro a hA
   refine seq_do hA rfl rfl rfl (m_load1 hM Wg_is1_35 rfl 0 rfl rfl) ?_
   intro a hA
   refine seq_do hA rfl rfl rfl (does_move rfl) ?_
   intro a hA
   obtain ⟨fn14, fd15, hf20⟩ := file_get (fs := fs) (i := i) (by omega)
   obtain ⟨bf16, of17, sj18, cj19, hf21, hf22, hf23, hf24, hf25, hf26⟩ := hF.pos _ _ hf20
   refine seq_do (v := .pointer (some ⟨bf16, of17 + i * 2, none⟩)) hA rfl rfl rfl (does_indexA Try.underlying35 (by kernel_rfl) rfl rfl rfl hf21 (show i < fs.length by omega)) ?_
   intro a hA
   refine seq_do (v := .pointer (some ⟨bf16, of17 + i * 2, none⟩)) hA rfl rfl rfl (does_field Wg_fld_88_0 rfl rfl) ?_
   intro a hA
   refine seq_do (v := .string fn14) hA rfl rfl rfl (m_loadR hM hf22 hf23 Wg_is1_9 rfl) ?_
   intro a hA
   refine seq_do hA rfl rfl rfl (does_move rfl) ?_
   intro a hA
   rcases Bool.eq_false_or_eq_true (decide (fn14 = nm)) with hb27 | hb27
   · have hb27' := of_decide_eq_true hb27
     refine seq_do (v := .bool true) hA rfl rfl rfl (does_bin rfl rfl (fun w => (bin_eqlS Try.underlying9 w).trans (by rw [hb27]))) ?_
     intro a hA
     refine seq_end ?_
     refine hK13 _ _ ?_
     refine wp_cond_true (hA.ev rfl) ?_
     refine wp_seq_k (fun K28 hK28 => ?_)
     refine wp_region_lit ?_
     refine seq_do hA rfl rfl rfl (does_move rfl) ?_
     intro a hA
     refine seq_do hA rfl rfl rfl (does_assign rfl) ?_
     intro a hA
     refine seq_end ?_
     refine hK28 _ _ ?_
     refine wp_ret ?_
     refine hret _ _ ?_
     refine ends (v := .int .i64 (((i : Nat) : Int))) hA rfl (.cons (res_tmp rfl) .nil) rfl ?_
     rw [fndX_step hf20, if_pos (of_decide_eq_true hb27)] at hrun
     exact ⟨by rw [← hrun], hM.bel⟩
   · have hb27' := of_decide_eq_false hb27
     refine seq_do (v := .bool false) hA rfl rfl rfl (does_bin rfl rfl (fun w => (bin_eqlS Try.underlying9 w).trans (by rw [hb27]))) ?_
     intro a hA
     refine seq_end ?_
     refine hK13 _ _ ?_
     refine wp_cond_false (hA.ev rfl) ?_
     refine wp_skip ?_
     refine hK12 _ _ ?_
     refine wp_region_lit ?_
     refine seq_do hA rfl rfl rfl (does_move rfl) ?_
     intro a hA
     refine seq_do (v := .int .i64 (((i + 1 : Nat) : Int))) hA rfl rfl rfl (does_bin rfl rfl (ar_add ((in_i64 (by omega) (by omega)).trans (by omega)))) ?_
     intro a hA
     refine seq_do hA rfl rfl rfl (does_assign rfl) ?_
     intro a hA
     refine seq_end ?_
     rw [fndX_step hf20, if_neg (of_decide_eq_false hb27)] at hrun
     refine hK7 _ _ _ (by omega) ⟨i + 1, rfl, ⟨hrun, by omega⟩, hA.keep _ ⟨rfl, rfl, rfl, rfl, trivial⟩, hM⟩
 · have hb11' := of_decide_eq_false hb11
   refine seq_do (v := .bool false) hA rfl rfl rfl (does_bin rfl rfl (fun w => (bin_lss w).trans (by rw [hb11]))) ?_
   intro a hA
   refine seq_end ?_
   refine hK10 _ _ ?_
   refine wp_cond_false (hA.ev rfl) ?_
   refine wp_exit ?_
   refine hK4 _ _ ?_
   refine wp_seq_k (fun K29 hK29 => ?_)
   refine wp_region_lit ?_
   refine seq_do hA rfl rfl rfl (does_assign rfl) ?_
   intro a hA
   refine seq_end ?_
   refine hK29 _ _ ?_
   refine wp_ret ?_
   refine hret _ _ ?_
   refine ends (v := .int .i64 (-1)) hA rfl (.cons (res_tmp rfl) .nil) rfl ?_
   rw [fndX_over (by omega)] at hrun
   exact ⟨by rw [← hrun], hM.bel⟩
end Go.Proofs.Ytcjgjbaadmohbaa
