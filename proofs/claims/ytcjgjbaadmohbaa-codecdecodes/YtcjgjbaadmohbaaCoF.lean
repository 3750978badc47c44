/- Walks of Decode. -/
import Derived.Test.YtcjgjbaadmohbaaCoE
import Derived.Test.YtcjgjbaadmohbaaCoW
namespace Go.Proofs.Ytcjgjbaadmohbaa
open Go.RowKit
set_option linter.unusedVariables false
set_option linter.unusedSimpArgs false
set_option maxRecDepth 100000
theorem CoF_is1_24 : Is1 Try.prog 24 := ⟨⟨_, Try.underlying24, rfl⟩, by kernel_rfl⟩
theorem CoF_is1_3 : Is1 Try.prog 3 := ⟨⟨_, Try.underlying3, rfl⟩, by kernel_rfl⟩
theorem CoF_fld_23_0 : FieldAt Try.prog 23 0 0 := ⟨_, _, Try.underlying23, rfl, rfl, by kernel_rfl⟩
theorem decode1_any {w0 w : World} {c k m : Int} {gb gc : Nat} {so : Option Addr} {cap : Nat} {l : List UInt8} (hb0 : Rb w0 so l) (hl : l.length ≤ 70000) {f : FuncId} {cs : List Value} {σ : Type} {A : Nat → σ → List Ck → Prop} {step : σ → Int → Int → σ × Bool} (hV : Visits Try.prog w0 f cs A step) {s0 : σ} {X T0 : List Ck} (hqX : ∀ d ∈ X, quietC d) (hA0 : A l.length s0 T0) (hM0 : Mg w0 w ([.obj gb (.cells #[.slice so l.length cap] 24), .obj gc (.cells #[.int .i64 c, .int .i64 k, .int .i64 m] 23)] ++ (X ++ T0))) : Calls Try.prog 33 #[.func (.func f) #[] cs.toArray, .pointer (some ⟨gc, 0, none⟩), .pointer (some ⟨gb, 0, none⟩)] w (fun e w' => e = .returned (.tuple #[]) ∧ ∃ T', A 0 (runV step s0 (unitsC c l)) T' ∧ Mg w0 w' ([.obj gb (.cells #[.slice so l.length cap] 24), .obj gc (.cells #[.int .i64 c, .int .i64 k, .int .i64 m] 23)] ++ (X ++ T'))) := by
 have hM : Mg w0 w (.obj gb (.cells #[.slice so l.length cap] 24) :: .obj gc (.cells #[.int .i64 c, .int .i64 k, .int .i64 m] 23) :: (X ++ T0)) := hM0
 refine walk_of (l := [(0, .func (.func f) #[] cs.toArray), (1, .pointer (some ⟨gc, 0, none⟩)), (2, .pointer (some ⟨gb, 0, none⟩))]) Try.func33 rfl Try.ntmps33 rfl rfl ?_
 intro Q hret hnorm hP a hA
 refine wp_region_lit ?_
 refine seq_do (v := .pointer (some ⟨gc, 0, none⟩)) hA rfl rfl rfl (does_field CoF_fld_23_0 rfl rfl) ?_
 intro a hA
 refine seq_do hA rfl rfl rfl (m_load1 hM CoF_is1_3 rfl 1 rfl rfl) ?_
 intro a hA
 refine seq_do hA rfl rfl rfl (m_load1 hM CoF_is1_24 rfl 0 rfl rfl) ?_
 intro a hA
 refine seq_do (v := .string ((⟨l.toArray⟩ : ByteArray))) hA rfl rfl rfl (does_convW rfl (conv_bytes Try.underlying24 Try.underlying5 Try.underlying9 (hb0.below hM.bel) cap)) ?_
 intro a hA
 refine seq_do hA rfl rfl rfl (does_move rfl) ?_
 intro a hA
 refine seq_call hA rfl rfl rfl (enters_func rfl rfl (fun w => by kernel_rfl)) (eachUnit_any (s := ⟨l.toArray⟩) (X := .obj gb (.cells #[.slice so l.length cap] 24) :: .obj gc (.cells #[.int .i64 c, .int .i64 k, .int .i64 m] 23) :: X) hV (quietL_cons (quiet_cells (by decide)) (quietL_cons (quiet_cells (by decide)) hqX)) (show A (⟨l.toArray⟩ : ByteArray).size s0 T0 from by simpa [ByteArray.size] using hA0) hM (by simpa [ByteArray.size] using hl)) ?_
 rintro _ w4 ⟨rfl, T1, hA2, hM3⟩
 replace hM : Mg w0 w4 (.obj gb (.cells #[.slice so l.length cap] 24) :: .obj gc (.cells #[.int .i64 c, .int .i64 k, .int .i64 m] 23) :: (X ++ T1)) := hM3
 refine ⟨_, rfl, ?_⟩
 intro a hA
 refine seq_end ?_
 refine hnorm _ _ ?_
 refine ends (v := .tuple #[]) hA rfl .nil rfl ?_
 have h7 : (⟨l.toArray⟩ : ByteArray).data.toList = l := by simp
 rw [h7] at hA2
 exact ⟨rfl, T1, hA2, hM⟩
theorem decode_tells {w0 : World} {c k m : Int} {gb gc : Nat} {so : Option Addr} {cap : Nat} {l : List UInt8} (hb0 : Rb w0 so l) (hl : l.length ≤ 70000) : Tells Try.prog w0 33 [.pointer (some ⟨gc, 0, none⟩), .pointer (some ⟨gb, 0, none⟩)] [.obj gb (.cells #[.slice so l.length cap] 24), .obj gc (.cells #[.int .i64 c, .int .i64 k, .int .i64 m] 23)] l.length (unitsC c l) :=
  ⟨fun us w => by kernel_rfl, fun A step g ks s0 w X T0 hV hA hq hM => decode1_any hb0 hl hV hq hA hM⟩
theorem decode2_any {w0 w : World} {gt : Nat} {r : Int} {bs : List UInt8} {X : List Ck} (hr : 0 ≤ r ∧ r ≤ 1114111 ∧ ¬ (55296 ≤ r ∧ r ≤ 57343)) (hl : bs.length ≤ 1099511627776) (hM0 : Mg w0 w (.bld gt (Lib.byteCells bs) :: X)) : Calls Try.prog 35 #[.int .i32 r, .pointer (some ⟨gt, 0, none⟩)] w (fun e w' => e = .returned (.bool true) ∧ Mg w0 w' (.bld gt (Lib.byteCells (bs ++ Lib.encodeRune r)) :: X)) := by
 have hM : Mg w0 w (.bld gt (Lib.byteCells bs) :: X) := hM0
 refine walk_of (l := [(0, .int .i32 r), (1, .pointer (some ⟨gt, 0, none⟩))]) Try.func35 rfl Try.ntmps35 rfl rfl ?_
 intro Q hret hnorm hP a hA
 refine wp_seq_k (fun K1 hK1 => ?_)
 refine wp_region_lit ?_
 refine seq_do hA rfl rfl rfl (does_assign rfl) ?_
 intro a hA
 refine seq_end ?_
 refine hK1 _ _ ?_
 refine wp_seq_k (fun K2 hK2 => ?_)
 refine wp_region_lit ?_
 refine seq_do hA rfl rfl rfl (does_move rfl) ?_
 intro a hA
 refine seq_call hA rfl rfl rfl (enters_func rfl rfl (fun w => by kernel_rfl)) (Try.Builder_WriteRune_k w0.heap.size gt (Lib.byteCells bs) (r) (by omega) (by omega) _ (hM.has 0 rfl) (by rw [Lib.byteCells_length]; omega) hM.bel.size) ?_
 rintro _ w6 ⟨rfl, hB3, hb4, ho5⟩
 replace hM : Mg w0 w6 (.bld gt (Lib.byteCells (bs ++ Lib.encodeRune (r))) :: X) := (wrote_runeK hM 0 rfl hB3 hb4 ho5)
 refine ⟨_, rfl, ?_⟩
 intro a hA
 refine seq_end ?_
 refine hK2 _ _ ?_
 refine wp_seq_k (fun K7 hK7 => ?_)
 refine wp_region_lit ?_
 refine seq_do hA rfl rfl rfl (does_assign rfl) ?_
 intro a hA
 refine seq_end ?_
 refine hK7 _ _ ?_
 refine wp_ret ?_
 refine hret _ _ ?_
 refine ends (v := .bool true) hA rfl (.cons (res_tmp rfl) .nil) rfl ?_
 exact ⟨rfl, hM⟩
theorem decode_puts {w0 : World} {gt : Nat} : Puts Try.prog w0 35 [.pointer (some ⟨gt, 0, none⟩)] (Ab gt) putB := by
  refine ⟨fun us w => by kernel_rfl, fun n m s T h ⟨h1, h2⟩ => ⟨h1, by omega⟩, ?_⟩
  rintro n bs r w X T ⟨rfl, hn⟩ hr hq hM
  refine (decode2_any hr (by omega) (hM.perm (perm_end X _))).mono ?_
  rintro e w' ⟨rfl, hM'⟩
  refine ⟨rfl, _, ⟨rfl, ?_⟩, hM'.perm (perm_end X _).symm⟩
  have := encode_le r
  show (bs ++ Lib.encodeRune r).length + 4 * n ≤ _
  rw [List.length_append]
  omega
theorem endsLine_as {w : World} {r : Int} {b : Bool} (h : endL r = b) : Calls Try.prog 70 #[.int .i32 r] w fun e w' => e = .returned (.bool b) ∧ Below w.heap.size w w' := h ▸ endsLine_any
theorem plain_any {w : World} {s : ByteArray} (hs : s.size ≤ 10000000) : Calls Try.prog 39 #[.string s] w fun e w' => e = .returned (.string ⟨(plainE s.data.toList).toArray⟩) ∧ Below w.heap.size w w' := by
 have hM : Mg w w ([]) := Mg.start w
 refine walk_of (l := [(0, .string s)]) Try.func39 rfl Try.ntmps39 rfl rfl ?_
 intro Q hret hnorm hP a hA
 refine wp_seq_k (fun K1 hK1 => ?_)
 refine wp_region_lit ?_
 refine seq_do hA rfl rfl rfl (does_assign rfl) ?_
 intro a hA
 refine seq_end ?_
 refine hK1 _ _ ?_
 refine wp_seq_k (fun K2 hK2 => ?_)
 refine wp_region_lit ?_
 refine s_new (vs := [.pointer none, .slice none 0 0]) (t := 60) hA hM rfl rfl rfl (fun g => .pointer (some ⟨g, 0, none⟩)) (does_alloc (z := .agg #[.pointer none, .slice none 0 0]) (by kernel_rfl) rfl) (by decide) ?_
 intro g3 w4 hM a hA
 replace hM : Mg w w4 (.bld g3 (Lib.byteCells []) :: []) := toBld hM quietL_nil
 refine seq_end ?_
 refine hK2 _ _ ?_
 refine wp_seq_k (fun K5 hK5 => ?_)
 refine wp_region_lit ?_
 refine seq_do hA rfl rfl rfl (does_assign rfl) ?_
 intro a hA
 refine seq_end ?_
 refine hK5 _ _ ?_
 refine wp_seq_k (fun K6 hK6 => ?_)
 refine wp_seq_k (fun K7 hK7 => ?_)
 refine wp_region_lit ?_
 refine seq_do hA rfl rfl rfl (does_move rfl) ?_
 intro a hA
 refine s_range hA hM rfl Try.underlying9 rfl rfl rfl rfl ?_
 intro g8 w9 hM a hA
 refine seq_end ?_
 refine hK7 _ _ ?_
 refine wp_block ?_
 refine wp_loop_n (fun m_ a w1 => ∃ (p : Nat) (acc : List UInt8) (ah : Int), m_ = s.size - p ∧ (acc ++ endsR s ah p = plainE s.data.toList ∧ acc.length ≤ 4 * p ∧ p ≤ s.size) ∧ Sl a 31 [(0, .string s), (2, .string (⟨#[]⟩)), (3, .pointer (some ⟨g3, 0, none⟩)), (4, .int .i32 ah), (7, .string s), (8, .pointer (some ⟨g8, 0, none⟩))] ∧ Mg w w1 (.obj g8 (.stringIter s p) :: .bld g3 (Lib.byteCells acc) :: [])) _ ⟨0, [], 0, rfl, ⟨by rw [endsR_zero]; rfl, by simp, Nat.zero_le _⟩, hA.keep _ ⟨rfl, rfl, rfl, rfl, rfl, rfl, trivial⟩, hM⟩ ?_
 clear hM hA
 rintro m_ a w10 ⟨p, acc, ah, rfl, hinv12, hA, hM⟩ K11 hK11
 obtain ⟨hrun, hacc, hp9⟩ := hinv12
 refine wp_seq_k (fun K13 hK13 => ?_)
 refine wp_region_lit ?_
 by_cases hx14 : p < s.size
 · obtain ⟨cr16, cq17, he18⟩ : ∃ r q, Utf8.decode s p = (r, q) := ⟨_, _, rfl⟩
   refine s_next (L' := (.obj g8 (.stringIter s (p + cq17)) :: .bld g3 (Lib.byteCells acc) :: [])) hA hM rfl rfl 0 rfl hx14 rfl rfl rfl he18 rfl ?_
   intro w15 hM a hA
   have h8 := unitsR_step hx14 he18
   have h9 := uR_ok he18
   unfold OkU uR at h9
   refine seq_do (v := .bool true) hA rfl rfl rfl (does_extract (vs := [.bool true, .int .i64 (((p : Nat) : Int)), .int .i32 (((cr16 : Nat) : Int))]) rfl rfl) ?_
   intro a hA
   refine seq_end ?_
   refine hK13 _ _ ?_
   refine wp_seq_k (fun K19 hK19 => ?_)
   refine wp_cond_true (hA.ev rfl) ?_
   refine wp_skip ?_
   refine hK19 _ _ ?_
   refine wp_block ?_
   refine wp_seq_k (fun K20 hK20 => ?_)
   refine wp_region_lit ?_
   refine seq_do (v := .int .i32 (((cr16 : Nat) : Int))) hA rfl rfl rfl (does_extract (vs := [.bool true, .int .i64 (((p : Nat) : Int)), .int .i32 (((cr16 : Nat) : Int))]) rfl rfl) ?_
   intro a hA
   refine seq_do hA rfl rfl rfl (does_assign rfl) ?_
   intro a hA
   refine seq_end ?_
   refine hK20 _ _ ?_
   refine wp_seq_k (fun K21 hK21 => ?_)
   refine wp_block ?_
   refine wp_seq_k (fun K22 hK22 => ?_)
   refine wp_region_lit ?_
   refine seq_do hA rfl rfl rfl (does_move rfl) ?_
   intro a hA
   rcases Bool.eq_false_or_eq_true ((ah == 13)) with hb23 | hb23
   · have hb23' := eq_of_beq hb23
     refine seq_do (v := .bool true) hA rfl rfl rfl (does_bin rfl rfl (fun w => (bin_eql w).trans (by rw [hb23]))) ?_
     intro a hA
     refine seq_do hA rfl rfl rfl (does_move rfl) ?_
     intro a hA
     refine seq_do hA rfl rfl rfl (does_move rfl) ?_
     intro a hA
     rcases Bool.eq_false_or_eq_true ((((cr16 : Nat) : Int) == 10)) with hb24 | hb24
     · have hb24' := eq_of_beq hb24
       refine seq_do (v := .bool true) hA rfl rfl rfl (does_bin rfl rfl (fun w => (bin_eql w).trans (by rw [hb24]))) ?_
       intro a hA
       refine seq_do hA rfl rfl rfl (does_move rfl) ?_
       intro a hA
       refine seq_skip hA rfl rfl rfl ?_
       intro a hA
       refine seq_skip hA rfl rfl rfl ?_
       intro a hA
       refine seq_do (v := .bool true) hA rfl rfl rfl (does_pick rfl rfl rfl rfl) ?_
       intro a hA
       refine seq_do (v := .bool true) hA rfl rfl rfl (does_pick rfl rfl rfl rfl) ?_
       intro a hA
       refine seq_do hA rfl rfl rfl (does_assign rfl) ?_
       intro a hA
       refine seq_end ?_
       refine hK22 _ _ ?_
       refine wp_cond_true (hA.ev rfl) ?_
       refine wp_skip ?_
       refine hK21 _ _ ?_
       refine wp_region_lit ?_
       refine seq_do hA rfl rfl rfl (does_move rfl) ?_
       intro a hA
       refine seq_do hA rfl rfl rfl (does_assign rfl) ?_
       intro a hA
       refine seq_end ?_
       have h6 := unitsR_step hx14 he18
       refine hK11 _ _ _ (by omega) ⟨p + cq17, acc, ((cr16 : Nat) : Int), rfl, ⟨by rw [← hrun, endsR_step hx14 he18, if_pos (by omega), List.nil_append], by omega, h6.2.2⟩, hA.keep _ ⟨rfl, rfl, rfl, rfl, rfl, rfl, trivial⟩, hM⟩
     · have hb24' := ne_of_beq_false hb24
       refine seq_do (v := .bool false) hA rfl rfl rfl (does_bin rfl rfl (fun w => (bin_eql w).trans (by rw [hb24]))) ?_
       intro a hA
       refine seq_do hA rfl rfl rfl (does_move rfl) ?_
       intro a hA
       refine seq_do hA rfl rfl rfl (does_move rfl) ?_
       intro a hA
       rcases Bool.eq_false_or_eq_true ((((cr16 : Nat) : Int) == 133)) with hb25 | hb25
       · have hb25' := eq_of_beq hb25
         refine seq_do (v := .bool true) hA rfl rfl rfl (does_bin rfl rfl (fun w => (bin_eql w).trans (by rw [hb25]))) ?_
         intro a hA
         refine seq_do (v := .bool true) hA rfl rfl rfl (does_pick rfl rfl rfl rfl) ?_
         intro a hA
         refine seq_do (v := .bool true) hA rfl rfl rfl (does_pick rfl rfl rfl rfl) ?_
         intro a hA
         refine seq_do hA rfl rfl rfl (does_assign rfl) ?_
         intro a hA
         refine seq_end ?_
         refine hK22 _ _ ?_
         refine wp_cond_true (hA.ev rfl) ?_
         refine wp_skip ?_
         refine hK21 _ _ ?_
         refine wp_region_lit ?_
         refine seq_do hA rfl rfl rfl (does_move rfl) ?_
         intro a hA
         refine seq_do hA rfl rfl rfl (does_assign rfl) ?_
         intro a hA
         refine seq_end ?_
         have h6 := unitsR_step hx14 he18
         refine hK11 _ _ _ (by omega) ⟨p + cq17, acc, ((cr16 : Nat) : Int), rfl, ⟨by rw [← hrun, endsR_step hx14 he18, if_pos (by omega), List.nil_append], by omega, h6.2.2⟩, hA.keep _ ⟨rfl, rfl, rfl, rfl, rfl, rfl, trivial⟩, hM⟩
       · have hb25' := ne_of_beq_false hb25
         refine seq_do (v := .bool false) hA rfl rfl rfl (does_bin rfl rfl (fun w => (bin_eql w).trans (by rw [hb25]))) ?_
         intro a hA
         refine seq_do (v := .bool false) hA rfl rfl rfl (does_pick rfl rfl rfl rfl) ?_
         intro a hA
         refine seq_do (v := .bool false) hA rfl rfl rfl (does_pick rfl rfl rfl rfl) ?_
         intro a hA
         refine seq_do hA rfl rfl rfl (does_assign rfl) ?_
         intro a hA
         refine seq_end ?_
         refine hK22 _ _ ?_
         refine wp_cond_false (hA.ev rfl) ?_
         refine wp_seq_k (fun K26 hK26 => ?_)
         refine wp_region_lit ?_
         refine seq_do hA rfl rfl rfl (does_move rfl) ?_
         intro a hA
         rcases Bool.eq_false_or_eq_true (endL (((cr16 : Nat) : Int))) with hb27 | hb27
         · refine seq_call hA rfl rfl rfl (enters_func rfl rfl (fun w => by kernel_rfl)) (endsLine_as hb27) ?_
           rintro _ w29 ⟨rfl, hb28⟩
           replace hM := hM.call hb28
           refine ⟨_, rfl, ?_⟩
           intro a hA
           refine seq_do hA rfl rfl rfl (does_assign rfl) ?_
           intro a hA
           refine seq_end ?_
           refine hK26 _ _ ?_
           refine wp_cond_true (hA.ev rfl) ?_
           refine wp_region_lit ?_
           refine seq_call hA rfl rfl rfl (enters_func rfl rfl (fun w => by kernel_rfl)) (Try.Builder_WriteRune_k w.heap.size g3 (Lib.byteCells acc) (10) (by omega) (by omega) _ (hM.has 1 rfl) (by rw [Lib.byteCells_length]; omega) hM.bel.size) ?_
           rintro _ w33 ⟨rfl, hB30, hb31, ho32⟩
           replace hM : Mg w w33 (.obj g8 (.stringIter s (p + cq17)) :: .bld g3 (Lib.byteCells (acc ++ Lib.encodeRune (10))) :: []) := (wrote_runeK hM 1 rfl hB30 hb31 ho32)
           refine ⟨_, rfl, ?_⟩
           intro a hA
           refine seq_end ?_
           refine hK21 _ _ ?_
           refine wp_region_lit ?_
           refine seq_do hA rfl rfl rfl (does_move rfl) ?_
           intro a hA
           refine seq_do hA rfl rfl rfl (does_assign rfl) ?_
           intro a hA
           refine seq_end ?_
           have h6 := unitsR_step hx14 he18
           have h5 := encode_le (10)
           refine hK11 _ _ _ (by omega) ⟨p + cq17, (acc ++ Lib.encodeRune (10)), ((cr16 : Nat) : Int), rfl, ⟨by rw [← hrun, endsR_step hx14 he18, if_neg (by omega), if_pos (show endsF.endLB _ = true from hb27), List.append_assoc], by rw [List.length_append]; omega, h6.2.2⟩, hA.keep _ ⟨rfl, rfl, rfl, rfl, rfl, rfl, trivial⟩, hM⟩
         · refine seq_call hA rfl rfl rfl (enters_func rfl rfl (fun w => by kernel_rfl)) (endsLine_as hb27) ?_
           rintro _ w35 ⟨rfl, hb34⟩
           replace hM := hM.call hb34
           refine ⟨_, rfl, ?_⟩
           intro a hA
           refine seq_do hA rfl rfl rfl (does_assign rfl) ?_
           intro a hA
           refine seq_end ?_
           refine hK26 _ _ ?_
           refine wp_cond_false (hA.ev rfl) ?_
           refine wp_region_lit ?_
           refine seq_do hA rfl rfl rfl (does_move rfl) ?_
           intro a hA
           refine seq_call hA rfl rfl rfl (enters_func rfl rfl (fun w => by kernel_rfl)) (Try.Builder_WriteRune_k w.heap.size g3 (Lib.byteCells acc) (((cr16 : Nat) : Int)) (by omega) (by omega) _ (hM.has 1 rfl) (by rw [Lib.byteCells_length]; omega) hM.bel.size) ?_
           rintro _ w39 ⟨rfl, hB36, hb37, ho38⟩
           replace hM : Mg w w39 (.obj g8 (.stringIter s (p + cq17)) :: .bld g3 (Lib.byteCells (acc ++ Lib.encodeRune (((cr16 : Nat) : Int)))) :: []) := (wrote_runeK hM 1 rfl hB36 hb37 ho38)
           refine ⟨_, rfl, ?_⟩
           intro a hA
           refine seq_end ?_
           refine hK21 _ _ ?_
           refine wp_region_lit ?_
           refine seq_do hA rfl rfl rfl (does_move rfl) ?_
           intro a hA
           refine seq_do hA rfl rfl rfl (does_assign rfl) ?_
           intro a hA
           refine seq_end ?_
           have h6 := unitsR_step hx14 he18
           have h5 := encode_le (((cr16 : Nat) : Int))
           refine hK11 _ _ _ (by omega) ⟨p + cq17, (acc ++ Lib.encodeRune (((cr16 : Nat) : Int))), ((cr16 : Nat) : Int), rfl, ⟨by rw [← hrun, endsR_step hx14 he18, if_neg (by omega), if_neg (by rw [show endsF.endLB _ = false from hb27]; decide), List.append_assoc], by rw [List.length_append]; omega, h6.2.2⟩, hA.keep _ ⟨rfl, rfl, rfl, rfl, rfl, rfl, trivial⟩, hM⟩
   · have hb23' := ne_of_beq_false hb23
     refine seq_do (v := .bool false) hA rfl rfl rfl (does_bin rfl rfl (fun w => (bin_eql w).trans (by rw [hb23]))) ?_
     intro a hA
     refine seq_do hA rfl rfl rfl (does_move rfl) ?_
     intro a hA
     refine seq_skip hA rfl rfl rfl ?_
     intro a hA
     refine seq_skip hA rfl rfl rfl ?_
     intro a hA
     refine seq_skip hA rfl rfl rfl ?_
     intro a hA
     refine seq_skipU hA rfl rfl rfl ?_
     intro a hA
     refine seq_skipU hA rfl rfl rfl ?_
     intro a hA
     refine seq_skip hA rfl rfl rfl ?_
     intro a hA
     refine seq_do (v := .bool false) hA rfl rfl rfl (does_pick rfl rfl rfl rfl) ?_
     intro a hA
     refine seq_do hA rfl rfl rfl (does_assign rfl) ?_
     intro a hA
     refine seq_end ?_
     refine hK22 _ _ ?_
     refine wp_cond_false (hA.ev rfl) ?_
     refine wp_seq_k (fun K40 hK40 => ?_)
     refine wp_region_lit ?_
     refine seq_do hA rfl rfl rfl (does_move rfl) ?_
     intro a hA
     rcases Bool.eq_false_or_eq_true (endL (((cr16 : Nat) : Int))) with hb41 | hb41
     · refine seq_call hA rfl rfl rfl (enters_func rfl rfl (fun w => by kernel_rfl)) (endsLine_as hb41) ?_
       rintro _ w43 ⟨rfl, hb42⟩
       replace hM := hM.call hb42
       refine ⟨_, rfl, ?_⟩
       intro a hA
       refine seq_do hA rfl rfl rfl (does_assign rfl) ?_
       intro a hA
       refine seq_end ?_
       refine hK40 _ _ ?_
       refine wp_cond_true (hA.ev rfl) ?_
       refine wp_region_lit ?_
       refine seq_call hA rfl rfl rfl (enters_func rfl rfl (fun w => by kernel_rfl)) (Try.Builder_WriteRune_k w.heap.size g3 (Lib.byteCells acc) (10) (by omega) (by omega) _ (hM.has 1 rfl) (by rw [Lib.byteCells_length]; omega) hM.bel.size) ?_
       rintro _ w47 ⟨rfl, hB44, hb45, ho46⟩
       replace hM : Mg w w47 (.obj g8 (.stringIter s (p + cq17)) :: .bld g3 (Lib.byteCells (acc ++ Lib.encodeRune (10))) :: []) := (wrote_runeK hM 1 rfl hB44 hb45 ho46)
       refine ⟨_, rfl, ?_⟩
       intro a hA
       refine seq_end ?_
       refine hK21 _ _ ?_
       refine wp_region_lit ?_
       refine seq_do hA rfl rfl rfl (does_move rfl) ?_
       intro a hA
       refine seq_do hA rfl rfl rfl (does_assign rfl) ?_
       intro a hA
       refine seq_end ?_
       have h6 := unitsR_step hx14 he18
       have h5 := encode_le (10)
       refine hK11 _ _ _ (by omega) ⟨p + cq17, (acc ++ Lib.encodeRune (10)), ((cr16 : Nat) : Int), rfl, ⟨by rw [← hrun, endsR_step hx14 he18, if_neg (by omega), if_pos (show endsF.endLB _ = true from hb41), List.append_assoc], by rw [List.length_append]; omega, h6.2.2⟩, hA.keep _ ⟨rfl, rfl, rfl, rfl, rfl, rfl, trivial⟩, hM⟩
     · refine seq_call hA rfl rfl rfl (enters_func rfl rfl (fun w => by kernel_rfl)) (endsLine_as hb41) ?_
       rintro _ w49 ⟨rfl, hb48⟩
       replace hM := hM.call hb48
       refine ⟨_, rfl, ?_⟩
       intro a hA
       refine seq_do hA rfl rfl rfl (does_assign rfl) ?_
       intro a hA
       refine seq_end ?_
       refine hK40 _ _ ?_
       refine wp_cond_false (hA.ev rfl) ?_
       refine wp_region_lit ?_
       refine seq_do hA rfl rfl rfl (does_move rfl) ?_
       intro a hA
       refine seq_call hA rfl rfl rfl (enters_func rfl rfl (fun w => by kernel_rfl)) (Try.Builder_WriteRune_k w.heap.size g3 (Lib.byteCells acc) (((cr16 : Nat) : Int)) (by omega) (by omega) _ (hM.has 1 rfl) (by rw [Lib.byteCells_length]; omega) hM.bel.size) ?_
       rintro _ w53 ⟨rfl, hB50, hb51, ho52⟩
       replace hM : Mg w w53 (.obj g8 (.stringIter s (p + cq17)) :: .bld g3 (Lib.byteCells (acc ++ Lib.encodeRune (((cr16 : Nat) : Int)))) :: []) := (wrote_runeK hM 1 rfl hB50 hb51 ho52)
       refine ⟨_, rfl, ?_⟩
       intro a hA
       refine seq_end ?_
       refine hK21 _ _ ?_
       refine wp_region_lit ?_
       refine seq_do hA rfl rfl rfl (does_move rfl) ?_
       intro a hA
       refine seq_do hA rfl rfl rfl (does_assign rfl) ?_
       intro a hA
       refine seq_end ?_
       have h6 := unitsR_step hx14 he18
       have h5 := encode_le (((cr16 : Nat) : Int))
       refine hK11 _ _ _ (by omega) ⟨p + cq17, (acc ++ Lib.encodeRune (((cr16 : Nat) : Int))), ((cr16 : Nat) : Int), rfl, ⟨by rw [← hrun, endsR_step hx14 he18, if_neg (by omega), if_neg (by rw [show endsF.endLB _ = false from hb41]; decide), List.append_assoc], by rw [List.length_append]; omega, h6.2.2⟩, hA.keep _ ⟨rfl, rfl, rfl, rfl, rfl, rfl, trivial⟩, hM⟩
 · refine s_over hA hM rfl rfl 0 rfl hx14 rfl rfl rfl ?_
   intro a hA
   refine seq_do (v := .bool false) hA rfl rfl rfl (does_extract (vs := [.bool false]) rfl rfl) ?_
   intro a hA
   refine seq_end ?_
   refine hK13 _ _ ?_
   refine wp_seq_k (fun K54 hK54 => ?_)
   refine wp_cond_false (hA.ev rfl) ?_
   refine wp_exit ?_
   refine hK6 _ _ ?_
   refine wp_seq_k (fun K55 hK55 => ?_)
   refine wp_region_lit ?_
   refine seq_call hA rfl rfl rfl (enters_func rfl rfl (fun w => by kernel_rfl)) (Try.Builder_String_any_k w.heap.size g3 acc _ (hM.has 1 rfl) hM.bel.size) ?_
   rintro _ w59 ⟨rfl, hB56, hb57, ho58⟩
   replace hM : Mg w w59 (.obj g8 (.stringIter s p) :: .bld g3 (Lib.byteCells acc) :: []) := (hM.wrote 1 rfl hb57 ho58 hB56)
   refine ⟨_, rfl, ?_⟩
   intro a hA
   refine seq_do hA rfl rfl rfl (does_assign rfl) ?_
   intro a hA
   refine seq_end ?_
   refine hK55 _ _ ?_
   refine wp_ret ?_
   refine hret _ _ ?_
   refine ends (v := .string ((⟨acc.toArray⟩ : ByteArray))) hA rfl (.cons (res_tmp rfl) .nil) rfl ?_
   rw [endsR_over hx14, List.append_nil] at hrun
   subst hrun
   exact ⟨rfl, hM.bel⟩
end Go.Proofs.Ytcjgjbaadmohbaa
