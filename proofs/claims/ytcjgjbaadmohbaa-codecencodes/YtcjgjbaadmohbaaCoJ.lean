/- The walk of Encode. -/
import Derived.Test.YtcjgjbaadmohbaaCoI
namespace Go.Proofs.Ytcjgjbaadmohbaa
open Go.RowKit
set_option linter.unusedVariables false
set_option linter.unusedSimpArgs false
set_option maxRecDepth 100000
theorem CoJ_is1_24 : Is1 Try.prog 24 := ⟨⟨_, Try.underlying24, rfl⟩, by kernel_rfl⟩
theorem CoJ_is1_3 : Is1 Try.prog 3 := ⟨⟨_, Try.underlying3, rfl⟩, by kernel_rfl⟩
theorem CoJ_is1_9 : Is1 Try.prog 9 := ⟨⟨_, Try.underlying9, rfl⟩, by kernel_rfl⟩
theorem CoJ_fld_23_0 : FieldAt Try.prog 23 0 0 := ⟨_, _, Try.underlying23, rfl, rfl, by kernel_rfl⟩
theorem CoJ_fld_23_1 : FieldAt Try.prog 23 1 1 := ⟨_, _, Try.underlying23, rfl, rfl, by kernel_rfl⟩
theorem CoJ_fld_23_2 : FieldAt Try.prog 23 2 2 := ⟨_, _, Try.underlying23, rfl, rfl, by kernel_rfl⟩
theorem CoJ_isS_23 : IsS Try.prog 23 3 := ⟨⟨_, Try.underlying23⟩, by kernel_rfl⟩
theorem lineEnd_le (k : Int) : (lineEndS k).size ≤ 3 := by
  unfold lineEndS
  repeat' split
  all_goals decide
theorem has_as {w : World} {c r : Int} {b : Bool} (h : hasS c r = b) : Calls Try.prog 46 #[.int .i64 c, .int .i32 r] w fun e w' => e = .returned (.bool b) ∧ Below w.heap.size w w' := h ▸ has_any
theorem has_latin {c r : Int} (h : hasS c r = true) : c = 2 → r ≤ 255 := by
  intro hc
  subst hc
  simpa [hasS] using h
theorem putC_yes {c r : Int} {xs : List UInt8} (h : hasS c r = true) : putC c xs r = (xs ++ encC c r, true) := by
  unfold putC
  exact if_pos h
theorem putC_no {c r : Int} {xs : List UInt8} (h : hasS c r = false) : putC c xs r = (xs, false) := by
  unfold putC
  exact if_neg (by rw [show putC.hasC c r = hasS c r from rfl, h]; decide)
theorem Mg.addNil {w0 w : World} {L : List Ck} (h : Mg w0 w L) (hn : noBld L) : Mg w0 w (.row BY 1 (.slice none 0 0) 0 [] :: L) :=
  h.add (Below.refl _ _) (c := .row BY 1 (.slice none 0 0) 0 []) ⟨rfl, .inl ⟨rfl, rfl⟩⟩ (fun k e => by cases e) (.inr (.inl ⟨_, _, _, _, _, rfl, .inr hn⟩))
theorem Ck.low {B B' : Nat} {w : World} {c : Ck} (h : c.holds B' w) (hb : B ≤ B') (hn : ∀ b bs, c ≠ .bld b bs) : c.holds B w := by
  cases c with
  | obj g o => exact ⟨Nat.le_trans hb h.1, h.2⟩
  | row e sz v n xs =>
    refine ⟨h.1, ?_⟩
    rcases h.2 with h | ⟨g, cap, cur, a, b, c⟩
    · exact .inl h
    · exact .inr ⟨g, cap, cur, a, Nat.le_trans hb b, c⟩
  | bld b bs => exact absurd rfl (hn b bs)
/-- What a call's own part does, seen from the call's begin. -/
theorem Mg.low {w0 w w' : World} {L : List Ck} (hb : Below w0.heap.size w0 w) (h : Mg w w' L) (hn : noBld L) : Mg w0 w' L :=
  ⟨hb.trans (h.bel.mono hb.size), fun c hc => Ck.low (h.all c hc) hb.size (hn c hc), h.dis⟩
theorem encode1_any {w0 w : World} {c k m : Int} {gs gc : Nat} {s : ByteArray} (hFc : w0.heap[gc]? = some (.cells [.int .i64 c, .int .i64 k, .int .i64 m].toArray 23)) (hFs : w0.heap[gs]? = some (.cells [.string s].toArray 9)) {f : FuncId} {cs : List Value} {σ : Type} {A : Nat → σ → List Ck → Prop} {step : σ → Int → Int → σ × Bool} (hV : Visits Try.prog w0 f cs A step) {s0 : σ} {X T0 : List Ck} (hqX : ∀ d ∈ X, quietC d) (hA0 : A (3 * s.size) s0 T0) (hM0 : Mg w0 w (X ++ T0)) : Calls Try.prog 42 #[.func (.func f) #[] cs.toArray, .pointer (some ⟨gs, 0, none⟩), .pointer (some ⟨gc, 0, none⟩)] w (fun e w' => e = .returned (.tuple #[]) ∧ ∃ T', A 0 (runV step s0 (expand (charsL (lineEndS k).data.toList) (unitsU s.data.toList))) T' ∧ Mg w0 w' (X ++ T')) := by
 have hM : Mg w0 w ((X ++ T0)) := hM0
 refine walk_of (l := [(0, .func (.func f) #[] cs.toArray), (1, .pointer (some ⟨gs, 0, none⟩)), (2, .pointer (some ⟨gc, 0, none⟩))]) Try.func42 rfl Try.ntmps42 rfl rfl ?_
 intro Q hret hnorm hP a hA
 refine wp_draw (S := fun w1 => Mg w0 w1 ([])) (by kernel_rfl) ?_
 replace hM := hM.drew
 refine any_tk hA 0 rfl rfl rfl rfl hP (hM.sub (List.nil_sublist _)) (fun w1 hM => m_load1F hM hFs CoJ_is1_9 rfl rfl) ?_
 intro a hA
 refine any_tk (v := .pointer (some ⟨gc, 1, none⟩)) hA 1 rfl rfl rfl rfl hP (hM.sub (List.nil_sublist _)) (fun w1 hM => does_field CoJ_fld_23_1 rfl rfl) ?_
 intro a hA
 refine any_tk hA 2 rfl rfl rfl rfl hP (hM.sub (List.nil_sublist _)) (fun w1 hM => m_load1F hM hFc CoJ_is1_3 rfl rfl) ?_
 intro a hA
 refine any_tk hA 4 rfl rfl rfl rfl hP (hM.sub (List.nil_sublist _)) (fun w1 hM => does_move rfl) ?_
 intro a hA
 refine any_one (by kernel_rfl) (op_call hA 3 rfl rfl rfl rfl (enters_func rfl rfl (fun w => by kernel_rfl)) (lineEnd_any) ?_)
 rintro _ w2 ⟨rfl, hb1⟩
 replace hM := hM.call hb1
 refine ⟨_, rfl, (hM.sub (List.nil_sublist _)), ?_⟩
 intro a hA
 refine any_one (by kernel_rfl) (op_call hA 5 rfl rfl rfl rfl (enters_func rfl rfl (fun w => by kernel_rfl)) (withEnds_any (lineEnd_le k) hV hqX hA0 hM) ?_)
 rintro _ w6 ⟨rfl, T3, hA4, hM5⟩
 replace hM : Mg w0 w6 ((X ++ T3)) := hM5
 refine ⟨_, rfl, (hM.sub (List.nil_sublist _)), ?_⟩
 intro a hA
 refine any_end (by kernel_rfl) ?_
 refine hnorm _ _ ?_
 refine ends (v := .tuple #[]) hA rfl .nil rfl ?_
 exact ⟨rfl, T3, hA4, hM⟩
theorem encode_tells {w0 : World} {c k m : Int} {gs gc : Nat} {s : ByteArray} (hFc : w0.heap[gc]? = some (.cells [.int .i64 c, .int .i64 k, .int .i64 m].toArray 23)) (hFs : w0.heap[gs]? = some (.cells [.string s].toArray 9)) : Tells Try.prog w0 42 [.pointer (some ⟨gs, 0, none⟩), .pointer (some ⟨gc, 0, none⟩)] [] (3 * s.size) (expand (charsL (lineEndS k).data.toList) (unitsU s.data.toList)) :=
  ⟨fun us w => by kernel_rfl, fun A step g ks s0 w X T0 hV hA hq hM => encode1_any hFc hFs hV hq hA hM⟩
theorem encode2_any {w0 w : World} {go gc : Nat} {c k m r : Int} {so : Option Addr} {cap : Nat} {xs : List UInt8} {X : List Ck} (hFc : w0.heap[gc]? = some (.cells [.int .i64 c, .int .i64 k, .int .i64 m].toArray 23)) (hr : 0 ≤ r ∧ r ≤ 1114111 ∧ ¬ (55296 ≤ r ∧ r ≤ 57343)) (hl : xs.length ≤ 100000000) (hqX : ∀ d ∈ X, quietC d) (hM0 : Mg w0 w (.obj go (.cells #[.slice so xs.length cap] 24) :: .row BY 1 (.slice so xs.length cap) xs.length (Lib.byteCells xs) :: X)) : Calls Try.prog 45 #[.int .i32 r, .pointer (some ⟨gc, 0, none⟩), .pointer (some ⟨go, 0, none⟩)] w (fun e w' => e = .returned (.bool (putC c xs r).2) ∧ ∃ so' cap', Mg w0 w' (.obj go (.cells #[.slice so' (putC c xs r).1.length cap'] 24) :: .row BY 1 (.slice so' (putC c xs r).1.length cap') (putC c xs r).1.length (Lib.byteCells (putC c xs r).1) :: X)) := by
 have hM : Mg w0 w (.obj go (.cells #[.slice so xs.length cap] 24) :: .row BY 1 (.slice so xs.length cap) xs.length ((Lib.byteCells xs)) :: X) := hM0
 refine walk_of (l := [(0, .int .i32 r), (1, .pointer (some ⟨gc, 0, none⟩)), (2, .pointer (some ⟨go, 0, none⟩))]) Try.func45 rfl Try.ntmps45 rfl rfl ?_
 intro Q hret hnorm hP a hA
 refine wp_seq_k (fun K1 hK1 => ?_)
 refine wp_region_lit ?_
 refine seq_do hA rfl rfl rfl (does_assign rfl) ?_
 intro a hA
 refine seq_end ?_
 refine hK1 _ _ ?_
 refine wp_seq_k (fun K2 hK2 => ?_)
 refine wp_seq_k (fun K3 hK3 => ?_)
 refine wp_region_lit ?_
 refine seq_do (v := .pointer (some ⟨gc, 0, none⟩)) hA rfl rfl rfl (does_field CoJ_fld_23_0 rfl rfl) ?_
 intro a hA
 refine seq_do hA rfl rfl rfl (m_load1F hM hFc CoJ_is1_3 rfl rfl) ?_
 intro a hA
 refine seq_do hA rfl rfl rfl (does_move rfl) ?_
 intro a hA
 rcases Bool.eq_false_or_eq_true (hasS c r) with hb4 | hb4
 · refine seq_call hA rfl rfl rfl (enters_func rfl rfl (fun w => by kernel_rfl)) (has_as hb4) ?_
   rintro _ w6 ⟨rfl, hb5⟩
   replace hM := hM.call hb5
   refine ⟨_, rfl, ?_⟩
   intro a hA
   refine seq_do (v := .bool false) hA rfl rfl rfl (does_un rfl un_not) ?_
   intro a hA
   refine seq_end ?_
   refine hK3 _ _ ?_
   refine wp_cond_false (hA.ev rfl) ?_
   refine wp_skip ?_
   refine hK2 _ _ ?_
   refine wp_seq_k (fun K7 hK7 => ?_)
   refine wp_region_lit ?_
   refine seq_do (v := .pointer (some ⟨gc, 0, none⟩)) hA rfl rfl rfl (does_field CoJ_fld_23_0 rfl rfl) ?_
   intro a hA
   refine seq_do hA rfl rfl rfl (m_load1F hM hFc CoJ_is1_3 rfl rfl) ?_
   intro a hA
   refine seq_do hA rfl rfl rfl (m_load1 hM CoJ_is1_24 rfl 0 rfl rfl) ?_
   intro a hA
   refine seq_do hA rfl rfl rfl (does_move rfl) ?_
   intro a hA
   refine seq_call hA rfl rfl rfl (enters_func rfl rfl (fun w => by kernel_rfl)) (appended_any (X := .obj go (.cells #[.slice so xs.length cap] 24) :: X) (quietL_cons (quiet_cells (by decide)) hqX) hl (by omega) (by omega) (has_latin hb4) (hM.perm (List.Perm.swap _ _ _))) ?_
   rintro _ w11 ⟨so8, cp9, rfl, hM10⟩
   replace hM : Mg w0 w11 (.obj go (.cells #[.slice so xs.length cap] 24) :: .row BY 1 (.slice so8 ((xs ++ encC c r).length) cp9) ((xs ++ encC c r).length) ((Lib.byteCells (xs ++ encC c r))) :: X) := (hM10.perm (List.Perm.swap _ _ _))
   refine ⟨_, rfl, ?_⟩
   intro a hA
   refine s_store (us := [.slice so8 ((xs ++ encC c r).length) cp9]) (L' := (.obj go (.cells #[.slice so8 ((xs ++ encC c r).length) cp9] 24) :: .row BY 1 (.slice so8 ((xs ++ encC c r).length) cp9) ((xs ++ encC c r).length) ((Lib.byteCells (xs ++ encC c r))) :: X)) hA hM rfl rfl (m_store rfl rfl rfl (by kernel_rfl) hM 0 rfl rfl rfl) 0 rfl rfl rfl ?_
   intro w12 hM
   refine seq_end ?_
   refine hK7 _ _ ?_
   refine wp_seq_k (fun K13 hK13 => ?_)
   refine wp_region_lit ?_
   refine seq_do hA rfl rfl rfl (does_assign rfl) ?_
   intro a hA
   refine seq_end ?_
   refine hK13 _ _ ?_
   refine wp_ret ?_
   refine hret _ _ ?_
   refine ends (v := .bool true) hA rfl (.cons (res_tmp rfl) .nil) rfl ?_
   rw [putC_yes hb4]
   exact ⟨rfl, _, _, hM⟩
 · refine seq_call hA rfl rfl rfl (enters_func rfl rfl (fun w => by kernel_rfl)) (has_as hb4) ?_
   rintro _ w15 ⟨rfl, hb14⟩
   replace hM := hM.call hb14
   refine ⟨_, rfl, ?_⟩
   intro a hA
   refine seq_do (v := .bool true) hA rfl rfl rfl (does_un rfl un_not) ?_
   intro a hA
   refine seq_end ?_
   refine hK3 _ _ ?_
   refine wp_cond_true (hA.ev rfl) ?_
   refine wp_seq_k (fun K16 hK16 => ?_)
   refine wp_region_lit ?_
   refine seq_do hA rfl rfl rfl (does_assign rfl) ?_
   intro a hA
   refine seq_end ?_
   refine hK16 _ _ ?_
   refine wp_ret ?_
   refine hret _ _ ?_
   refine ends (v := .bool false) hA rfl (.cons (res_tmp rfl) .nil) rfl ?_
   rw [putC_no hb4]
   exact ⟨rfl, _, _, hM⟩
theorem encode_puts {w0 : World} {go gc : Nat} {c k m : Int} (hFc : w0.heap[gc]? = some (.cells [.int .i64 c, .int .i64 k, .int .i64 m].toArray 23)) : Puts Try.prog w0 45 [.pointer (some ⟨gc, 0, none⟩), .pointer (some ⟨go, 0, none⟩)] (Ao go 24) (putC c) := by
  refine ⟨fun us w => by kernel_rfl, fun n m s T h ⟨h1, h2⟩ => ⟨h1, by omega⟩, ?_⟩
  rintro n xs r w X T ⟨⟨so, cap, rfl⟩, hn⟩ hr hq hM
  refine (encode2_any hFc hr (by omega) hq (hM.perm (perm_two X _ _))).mono ?_
  rintro e w' ⟨rfl, so', cap', hM'⟩
  refine ⟨rfl, _, ⟨⟨so', cap', rfl⟩, ?_⟩, hM'.perm (perm_two X _ _).symm⟩
  have := encC_le c r
  cases h : hasS c r with
  | true => rw [putC_yes h]; simp only [List.length_append]; omega
  | false => rw [putC_no h]; simp only; omega
/-- What the units come to, by a mode. -/
def encR (c k m : Int) (s : ByteArray) : List UInt8 × Int × Int := runV (cstep (putC c) m (subS c)) ([], 0, 0) (expand (charsL (lineEndS k).data.toList) (unitsU s.data.toList))
/-- What Encode answers. -/
def encS (c k m : Int) (s : ByteArray) : List UInt8 × Int × Int :=
  if refS c k m s.size ≠ 0 then ([], 0, refS c k m s.size)
  else if (encR c k m s).2.2 ≠ 0 then ([], (encR c k m s).2.1, (encR c k m s).2.2)
  else ((encR c k m s).1, 0, 0)
theorem sub_ok (c : Int) : 0 ≤ subS c ∧ subS c ≤ 1114111 ∧ ¬ (55296 ≤ subS c ∧ subS c ≤ 57343) := by
  unfold subS
  split <;> omega
theorem nil_end {w0 w : World} {L : List Ck} (h : Mg w0 w L) : Mg w0 w [.row BY 1 (.slice none 0 0) 0 []] := Mg.addNil (h.sub (List.nil_sublist _)) (by intro c hc; cases hc)
theorem encode_any {w : World} {c k m : Int} {s : ByteArray} {R : List UInt8 × Int × Int} (hR : encR c k m s = R) : Calls Try.prog 12 #[.agg #[.int .i64 c, .int .i64 k, .int .i64 m], .string s] w fun e w' => ∃ v, e = .returned (.tuple #[v, .int .i64 (encS c k m s).2.1, .int .i64 (encS c k m s).2.2]) ∧ (encS c k m s).1.length ≤ 100000000 ∧ Mg w w' [.row BY 1 v (encS c k m s).1.length (Lib.byteCells (encS c k m s).1)] := by
 have h0 := @refS_le c k m s.size
 have hM : Mg w w ([]) := Mg.start w
 refine walk_of (l := [(0, .agg #[.int .i64 c, .int .i64 k, .int .i64 m]), (1, .string s)]) Try.func12 rfl Try.ntmps12 rfl rfl ?_
 intro Q hret hnorm hP a hA
 refine wp_seq_k (fun K1 hK1 => ?_)
 refine wp_region_lit ?_
 refine s_new (vs := [.int .i64 c, .int .i64 k, .int .i64 m]) (t := 23) hA hM rfl rfl rfl (fun g => .pointer (some ⟨g, 0, none⟩)) (does_box rfl rfl) (by decide) ?_
 intro g2 w3 hM a hA
 refine s_new (vs := [.string s]) (t := 9) hA hM rfl rfl rfl (fun g => .pointer (some ⟨g, 0, none⟩)) (does_box rfl rfl) (by decide) ?_
 intro g4 w5 hM a hA
 refine seq_do hA rfl rfl rfl (does_assign rfl) ?_
 intro a hA
 refine seq_do hA rfl rfl rfl (does_assign rfl) ?_
 intro a hA
 refine seq_do hA rfl rfl rfl (does_assign rfl) ?_
 intro a hA
 refine seq_end ?_
 refine hK1 _ _ ?_
 refine wp_seq_k (fun K6 hK6 => ?_)
 refine wp_seq_k (fun K7 hK7 => ?_)
 refine wp_region_lit ?_
 refine seq_do hA rfl rfl rfl (m_loadS hM CoJ_isS_23 rfl 1 rfl (cs := [.int .i64 c, .int .i64 k, .int .i64 m]) rfl rfl) ?_
 intro a hA
 refine seq_do hA rfl rfl rfl (m_load1 hM CoJ_is1_9 rfl 0 rfl rfl) ?_
 intro a hA
 refine seq_do (v := .int .i64 (((s.size : Nat) : Int))) hA rfl rfl rfl (does_builtin rfl (len_str Try.underlying9)) ?_
 intro a hA
 refine seq_call hA rfl rfl rfl (enters_func rfl rfl (fun w => by kernel_rfl)) (refusal_any) ?_
 rintro _ w9 ⟨rfl, hb8⟩
 replace hM := hM.call hb8
 refine ⟨_, rfl, ?_⟩
 intro a hA
 refine seq_do hA rfl rfl rfl (does_assign rfl) ?_
 intro a hA
 refine seq_end ?_
 refine hK7 _ _ ?_
 refine wp_seq_k (fun K10 hK10 => ?_)
 refine wp_region_lit ?_
 refine seq_do hA rfl rfl rfl (does_move rfl) ?_
 intro a hA
 rcases Bool.eq_false_or_eq_true ((refS c k m s.size != 0)) with hb11 | hb11
 · have hb11' := bne_iff_ne.1 hb11
   refine seq_do (v := .bool true) hA rfl rfl rfl (does_bin rfl rfl (fun w => (bin_neq w).trans (by rw [hb11]))) ?_
   intro a hA
   refine seq_end ?_
   refine hK10 _ _ ?_
   refine wp_cond_true (hA.ev rfl) ?_
   refine wp_seq_k (fun K12 hK12 => ?_)
   refine wp_region_lit ?_
   refine seq_do hA rfl rfl rfl (does_move rfl) ?_
   intro a hA
   refine seq_do hA rfl rfl rfl (does_assign rfl) ?_
   intro a hA
   refine seq_do hA rfl rfl rfl (does_assign rfl) ?_
   intro a hA
   refine seq_do hA rfl rfl rfl (does_assign rfl) ?_
   intro a hA
   refine seq_end ?_
   refine hK12 _ _ ?_
   refine wp_ret ?_
   refine hret _ _ ?_
   refine ends (v := .tuple #[.slice none 0 0, .int .i64 0, .int .i64 (refS c k m s.size)]) hA rfl (.cons (res_tmp rfl) (.cons (res_tmp rfl) (.cons (res_tmp rfl) .nil))) rfl ?_
   unfold encS
   rw [if_pos (bne_iff_ne.1 hb11)]
   exact ⟨_, rfl, Nat.zero_le _, nil_end hM⟩
 · have hb11' := bne_eq_false_iff_eq.1 hb11
   refine seq_do (v := .bool false) hA rfl rfl rfl (does_bin rfl rfl (fun w => (bin_neq w).trans (by rw [hb11]))) ?_
   intro a hA
   refine seq_end ?_
   refine hK10 _ _ ?_
   refine wp_cond_false (hA.ev rfl) ?_
   refine wp_skip ?_
   refine hK6 _ _ ?_
   refine wp_seq_k (fun K13 hK13 => ?_)
   refine wp_region_lit ?_
   have hbel0 := hM.bel
   have hFs := hM.obj 0 rfl
   have hFc := hM.obj 1 rfl
   replace hM := Mg.start w9
   refine s_new (vs := [.slice none 0 0]) (t := 24) hA hM rfl rfl rfl (fun g => .pointer (some ⟨g, 0, none⟩)) (does_alloc (z := .slice none 0 0) (by kernel_rfl) rfl) (by decide) ?_
   intro g14 w15 hM a hA
   refine seq_end ?_
   refine hK13 _ _ ?_
   refine wp_seq_k (fun K16 hK16 => ?_)
   refine wp_region_lit ?_
   refine seq_do (v := .func (.func 42) #[] [.pointer (some ⟨g4, 0, none⟩), .pointer (some ⟨g2, 0, none⟩)].toArray) hA rfl rfl rfl (does_makeFunc rfl) ?_
   intro a hA
   refine seq_do hA rfl rfl rfl (does_assign rfl) ?_
   intro a hA
   refine seq_end ?_
   refine hK16 _ _ ?_
   refine wp_seq_k (fun K17 hK17 => ?_)
   refine wp_region_lit ?_
   refine seq_do (v := .func (.func 45) #[] [.pointer (some ⟨g2, 0, none⟩), .pointer (some ⟨g14, 0, none⟩)].toArray) hA rfl rfl rfl (does_makeFunc rfl) ?_
   intro a hA
   refine seq_do hA rfl rfl rfl (does_assign rfl) ?_
   intro a hA
   refine seq_end ?_
   refine hK17 _ _ ?_
   refine wp_seq_k (fun K18 hK18 => ?_)
   refine wp_draw (S := fun w1 => Mg w9 w1 ([])) (by kernel_rfl) ?_
   replace hM := hM.drew
   refine any_tk hA 0 rfl rfl rfl rfl hP (hM.sub (.cons _ (List.nil_sublist _))) (fun w1 hM => does_move rfl) ?_
   intro a hA
   refine any_tk hA 1 rfl rfl rfl rfl hP (hM.sub (.cons _ (List.nil_sublist _))) (fun w1 hM => does_move rfl) ?_
   intro a hA
   refine any_tk (v := .pointer (some ⟨g2, 2, none⟩)) hA 2 rfl rfl rfl rfl hP (hM.sub (.cons _ (List.nil_sublist _))) (fun w1 hM => does_field CoJ_fld_23_2 rfl rfl) ?_
   intro a hA
   refine any_tk hA 3 rfl rfl rfl rfl hP (hM.sub (.cons _ (List.nil_sublist _))) (fun w1 hM => m_load1F hM hFc CoJ_is1_3 rfl rfl) ?_
   intro a hA
   refine any_tk (v := .pointer (some ⟨g2, 0, none⟩)) hA 4 rfl rfl rfl rfl hP (hM.sub (.cons _ (List.nil_sublist _))) (fun w1 hM => does_field CoJ_fld_23_0 rfl rfl) ?_
   intro a hA
   refine any_tk hA 5 rfl rfl rfl rfl hP (hM.sub (.cons _ (List.nil_sublist _))) (fun w1 hM => m_load1F hM hFc CoJ_is1_3 rfl rfl) ?_
   intro a hA
   refine any_one (by kernel_rfl) (op_call hA 6 rfl rfl rfl rfl (enters_func rfl rfl (fun w => by kernel_rfl)) (substitute_any) ?_)
   rintro _ w20 ⟨rfl, hb19⟩
   replace hM := hM.call hb19
   refine ⟨_, rfl, (hM.sub (.cons _ (List.nil_sublist _))), ?_⟩
   intro a hA
   refine any_one (by kernel_rfl) (op_call hA 7 rfl rfl rfl rfl (enters_func rfl rfl (fun w => by kernel_rfl)) (carry_any (encode_tells hFc hFs) (encode_puts (go := g14) hFc) (sub_ok c) (X := []) (T0 := [.obj g14 (.cells #[.slice none ([] : List UInt8).length 0] 24), .row BY 1 (.slice none ([] : List UInt8).length 0) ([] : List UInt8).length (Lib.byteCells [])]) quietL_nil ⟨⟨none, 0, rfl⟩, by simp; omega⟩ ((hM.addNil (noBld_cons (by simp) (noBld_quiet quietL_nil))).perm (List.Perm.swap _ _ _)) hR) ?_)
   rintro _ w26 ⟨rfl, T21, ⟨⟨so22, cp23, rfl⟩, hl24⟩, hM25⟩
   replace hM : Mg w9 w26 (.obj g14 (.cells #[.slice so22 R.1.length cp23] 24) :: .row BY 1 (.slice so22 R.1.length cp23) R.1.length ((Lib.byteCells R.1)) :: []) := hM25
   refine ⟨_, rfl, (hM.sub (.cons _ (.cons _ (List.nil_sublist _)))), ?_⟩
   intro a hA
   refine any_tk hA 8 rfl rfl rfl rfl hP (hM.sub (.cons _ (.cons _ (List.nil_sublist _)))) (fun w1 hM => does_move rfl) ?_
   intro a hA
   refine any_tk (v := .int .i64 R.2.1) hA 9 rfl rfl rfl rfl hP (hM.sub (.cons _ (.cons _ (List.nil_sublist _)))) (fun w1 hM => does_extract (vs := [.int .i64 R.2.1, .int .i64 R.2.2]) rfl rfl) ?_
   intro a hA
   refine any_tk (v := .int .i64 R.2.2) hA 10 rfl rfl rfl rfl hP (hM.sub (.cons _ (.cons _ (List.nil_sublist _)))) (fun w1 hM => does_extract (vs := [.int .i64 R.2.1, .int .i64 R.2.2]) rfl rfl) ?_
   intro a hA
   refine any_tk hA 11 rfl rfl rfl rfl hP (hM.sub (.cons _ (.cons _ (List.nil_sublist _)))) (fun w1 hM => does_assign rfl) ?_
   intro a hA
   refine any_tk hA 12 rfl rfl rfl rfl hP (hM.sub (.cons _ (.cons _ (List.nil_sublist _)))) (fun w1 hM => does_assign rfl) ?_
   intro a hA
   refine any_end (by kernel_rfl) ?_
   refine hK18 _ _ ?_
   refine wp_seq_k (fun K27 hK27 => ?_)
   refine wp_seq_k (fun K28 hK28 => ?_)
   refine wp_region_lit ?_
   refine seq_do hA rfl rfl rfl (does_move rfl) ?_
   intro a hA
   rcases Bool.eq_false_or_eq_true ((R.2.2 != 0)) with hb29 | hb29
   · have hb29' := bne_iff_ne.1 hb29
     refine seq_do (v := .bool true) hA rfl rfl rfl (does_bin rfl rfl (fun w => (bin_neq w).trans (by rw [hb29]))) ?_
     intro a hA
     refine seq_end ?_
     refine hK28 _ _ ?_
     refine wp_cond_true (hA.ev rfl) ?_
     refine wp_seq_k (fun K30 hK30 => ?_)
     refine wp_region_lit ?_
     refine seq_do hA rfl rfl rfl (does_move rfl) ?_
     intro a hA
     refine seq_do hA rfl rfl rfl (does_move rfl) ?_
     intro a hA
     refine seq_do hA rfl rfl rfl (does_assign rfl) ?_
     intro a hA
     refine seq_do hA rfl rfl rfl (does_assign rfl) ?_
     intro a hA
     refine seq_do hA rfl rfl rfl (does_assign rfl) ?_
     intro a hA
     refine seq_end ?_
     refine hK30 _ _ ?_
     refine wp_ret ?_
     refine hret _ _ ?_
     refine ends (v := .tuple #[.slice none 0 0, .int .i64 R.2.1, .int .i64 R.2.2]) hA rfl (.cons (res_tmp rfl) (.cons (res_tmp rfl) (.cons (res_tmp rfl) .nil))) rfl ?_
     unfold encS
     rw [if_neg (by rw [bne_eq_false_iff_eq.1 hb11]; decide), show encR c k m s = R from hR, if_pos (bne_iff_ne.1 hb29)]
     exact ⟨_, rfl, Nat.zero_le _, nil_end (Mg.low hbel0 (hM.sub (List.nil_sublist _)) (by intro c hc; cases hc))⟩
   · have hb29' := bne_eq_false_iff_eq.1 hb29
     refine seq_do (v := .bool false) hA rfl rfl rfl (does_bin rfl rfl (fun w => (bin_neq w).trans (by rw [hb29]))) ?_
     intro a hA
     refine seq_end ?_
     refine hK28 _ _ ?_
     refine wp_cond_false (hA.ev rfl) ?_
     refine wp_skip ?_
     refine hK27 _ _ ?_
     refine wp_seq_k (fun K31 hK31 => ?_)
     refine wp_region_lit ?_
     refine seq_do hA rfl rfl rfl (m_load1 hM CoJ_is1_24 rfl 0 rfl rfl) ?_
     intro a hA
     refine seq_do hA rfl rfl rfl (does_assign rfl) ?_
     intro a hA
     refine seq_do hA rfl rfl rfl (does_assign rfl) ?_
     intro a hA
     refine seq_do hA rfl rfl rfl (does_assign rfl) ?_
     intro a hA
     refine seq_end ?_
     refine hK31 _ _ ?_
     refine wp_ret ?_
     refine hret _ _ ?_
     refine ends (v := .tuple #[.slice so22 R.1.length cp23, .int .i64 0, .int .i64 0]) hA rfl (.cons (res_tmp rfl) (.cons (res_tmp rfl) (.cons (res_tmp rfl) .nil))) rfl ?_
     unfold encS
     rw [if_neg (by rw [bne_eq_false_iff_eq.1 hb11]; decide), show encR c k m s = R from hR, if_neg (by rw [bne_eq_false_iff_eq.1 hb29]; decide)]
     exact ⟨_, rfl, by have h9 := hl24; simpa using h9, Mg.low hbel0 (hM.sub (.cons _ (.refl _))) (noBld_cons (by simp) (noBld_quiet quietL_nil))⟩
end Go.Proofs.Ytcjgjbaadmohbaa
