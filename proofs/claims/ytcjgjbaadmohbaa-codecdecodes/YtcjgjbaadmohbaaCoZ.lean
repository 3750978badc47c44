/- The walk of the document's utf8. -/
import Derived.Test.YtcjgjbaadmohbaaCoY
import Derived.Test.YtcjgjbaadmohbaaCoQ
namespace Go.Proofs.Ytcjgjbaadmohbaa
open Go.RowKit
set_option linter.unusedVariables false
set_option linter.unusedSimpArgs false
set_option maxRecDepth 100000
theorem CoZ_is1_21 : Is1 Try.prog 21 := ⟨⟨_, Try.underlying21, rfl⟩, by kernel_rfl⟩
theorem CoZ_is1_5 : Is1 Try.prog 5 := ⟨⟨_, Try.underlying5, rfl⟩, by kernel_rfl⟩
open Go.Lib
/-- Units as the document keeps them: a character, whether there is none, its place. -/
def unitV (us : List (Int × Int)) : List Value := us.flatMap fun u => if u.2 = -1 then [.int .i32 0, .bool true, .int .i64 u.1] else [.int .i32 u.2, .bool false, .int .i64 u.1]
theorem and_u8 {x : Int} (i : Nat) (m : Int) (hm : m = ((2 ^ i - 1 : Nat) : Int)) (hs : m ≤ 255) (h0 : 0 ≤ x) (h1 : x ≤ 255) : bits .and .u8 x m = x % ((2 ^ i : Nat) : Int) := by
  obtain ⟨n, rfl⟩ : ∃ n : Nat, x = (n : Int) := ⟨x.toNat, by omega⟩
  subst hm
  have h2 : n &&& (2 ^ i - 1) = n % 2 ^ i := Nat.and_two_pow_sub_one_eq_mod n i
  have e : (BitVec.ofInt IntKind.u8.bits (n : Int) &&& BitVec.ofInt IntKind.u8.bits (((2 ^ i - 1 : Nat)) : Int)).toNat = n % 2 ^ i := by
    rw [← h2, BitVec.ofInt_natCast, BitVec.ofInt_natCast, BitVec.toNat_and, BitVec.toNat_ofNat, BitVec.toNat_ofNat]
    show n % 256 &&& (2 ^ i - 1) % 256 = _
    rw [Nat.mod_eq_of_lt (by omega), Nat.mod_eq_of_lt (by omega)]
  show IntKind.u8.wrap ((BitVec.ofInt IntKind.u8.bits (n : Int) &&& BitVec.ofInt IntKind.u8.bits (((2 ^ i - 1 : Nat)) : Int)).toNat : Int) = _
  rw [e]
  have := Nat.mod_le n (2 ^ i)
  exact (in_u8 (by omega) (by omega)).trans (Int.natCast_emod n (2 ^ i))
theorem or_six {c x : Int} (h0 : 0 ≤ c) (h1 : c ≤ 33554431) (h2 : 0 ≤ x) (h3 : x ≤ 63) : bits .or .i32 (c * 64) x = c * 64 + x := by
  obtain ⟨a, rfl⟩ : ∃ a : Nat, c = (a : Int) := ⟨c.toNat, by omega⟩
  obtain ⟨n, rfl⟩ : ∃ n : Nat, x = (n : Int) := ⟨x.toNat, by omega⟩
  have := Nat.two_pow_add_eq_or_of_lt (i := 6) (b := n) (by omega) a
  rw [show (2 : Nat) ^ 6 = 64 from rfl] at this
  have e := or_i32 (64 * a) n (by omega) (by omega)
  rw [show (((64 * a : Nat)) : Int) = (a : Int) * 64 from by omega] at e
  rw [e, ← this]
  omega
/-- The units from a place on. -/
def restU (l : List UInt8) (i : Nat) : List (Int × Int) := unitsF (l.length - i) i (l.drop i)
theorem restU_zero (l : List UInt8) : restU l 0 = unitsU l := by unfold restU unitsU; rw [List.drop_zero, Nat.sub_zero]
theorem restU_over {l : List UInt8} {i : Nat} (h : ¬ i < l.length) : restU l i = [] := by unfold restU; rw [show l.length - i = 0 from by omega]; rfl
theorem restU_step {l : List UInt8} {i r q : Nat} (h : i < l.length) (e : decodeN (l.length - i) (l.getD i 0).toNat (l.getD (i + 1) 0).toNat (l.getD (i + 2) 0).toNat (l.getD (i + 3) 0).toNat = (r, q)) : restU l i = ((i : Int), uR r q) :: restU l (i + q) := by
  have hne : l.drop i ≠ [] := fun k => by
    have := congrArg List.length k
    rw [List.length_drop, List.length_nil] at this
    omega
  have hd : decodeL (l.drop i) = (r, q) := by
    rw [decodeL_N, getD_drop2, getD_drop2, getD_drop2, getD_drop2, List.length_drop]
    exact e
  have hw := decode_wide _ hne
  rw [hd, List.length_drop] at hw
  simp only at hw
  unfold restU
  obtain ⟨m, hm⟩ : ∃ m, l.length - i = m + 1 := ⟨l.length - i - 1, by omega⟩
  rw [hm, unitsF_cons hne, hd, List.drop_drop]
  simp only
  rw [unitsF_more m (l.length - (i + q)) _ _ (by rw [List.length_drop]; omega) (by rw [List.length_drop]; omega)]
set_option maxHeartbeats 4000000 in
theorem rutf8_any {w : World} {so : Option Addr} {cap : Nat} {l : List UInt8} (hb : Rb w so l) (hlen : l.length ≤ 1000000) : Calls Try.prog 49 #[.slice so l.length cap] w fun e w' => ∃ v, e = .returned v ∧ Mg w w' [.row 78 3 v (unitsU l).length (unitV (unitsU l))] := by
 have hM : Mg w w ([]) := Mg.start w
 refine walk_of (l := [(0, .slice so l.length cap)]) Try.func49 rfl Try.ntmps49 rfl rfl ?_
 intro Q hret hnorm hP a hA
 refine wp_seq_k (fun K1 hK1 => ?_)
 refine wp_region_lit ?_
 refine seq_do hA rfl rfl rfl (does_assign rfl) ?_
 intro a hA
 refine seq_end ?_
 refine hK1 _ _ ?_
 refine wp_seq_k (fun K2 hK2 => ?_)
 refine wp_region_lit ?_
 refine s_litE (e := 78) (sz := 3) (m := 0) (vs := []) hA hM rfl rfl rfl (does_buildSlice rfl (by kernel_rfl)) rfl rfl (.inl (by decide)) ?_
 intro g3 w4 hM a hA
 refine seq_do hA rfl rfl rfl (does_assign rfl) ?_
 intro a hA
 refine seq_end ?_
 refine hK2 _ _ ?_
 refine wp_seq_k (fun K5 hK5 => ?_)
 refine wp_seq_k (fun K6 hK6 => ?_)
 refine wp_region_lit ?_
 refine seq_do hA rfl rfl rfl (does_assign rfl) ?_
 intro a hA
 refine seq_end ?_
 refine hK6 _ _ ?_
 refine wp_block ?_
 refine wp_loop_n (fun m_ a w1 => ∃ (i : Nat) (acc : List (Int × Int)) (vo : Value), m_ = l.length - i ∧ (acc ++ restU l i = unitsU l ∧ i ≤ l.length ∧ acc.length ≤ i) ∧ Sl a 122 [(0, .slice so l.length cap), (2, .slice none 0 0), (3, vo), (4, .int .i64 (((i : Nat) : Int))), (12, .slice (some ⟨g3, 0, none⟩) 0 0)] ∧ Mg w w1 (.row 78 3 (vo) acc.length ((unitV acc)) :: [])) _ ⟨0, [], .slice (some ⟨g3, 0, none⟩) 0 0, rfl, ⟨by rw [restU_zero]; rfl, Nat.zero_le _, Nat.le_refl _⟩, hA.keep _ ⟨rfl, rfl, rfl, rfl, rfl, trivial⟩, hM⟩ ?_
 clear hM hA
 rintro m_ a w7 ⟨i, acc, vo, rfl, hinv9, hA, hM⟩ K8 hK8
 obtain ⟨hrun, hi9, hacc⟩ := hinv9
 refine wp_seq_k (fun K10 hK10 => ?_)
 refine wp_seq_k (fun K11 hK11 => ?_)
 refine wp_region_lit ?_
 refine seq_do hA rfl rfl rfl (does_move rfl) ?_
 intro a hA
 refine seq_do hA rfl rfl rfl (does_move rfl) ?_
 intro a hA
 refine seq_do (v := .int .i64 (((l.length : Nat) : Int))) hA rfl rfl rfl (does_len Try.underlying24 rfl) ?_
 intro a hA
 rcases Bool.eq_false_or_eq_true (decide (((i : Nat) : Int) < ((l.length : Nat) : Int))) with hb12 | hb12
 · have hb12' := of_decide_eq_true hb12
   refine seq_do (v := .bool true) hA rfl rfl rfl (does_bin rfl rfl (fun w => (bin_lss w).trans (by rw [hb12]))) ?_
   intro a hA
   refine seq_end ?_
   refine hK11 _ _ ?_
   refine wp_cond_true (hA.ev rfl) ?_
   refine wp_skip ?_
   refine hK10 _ _ ?_
   refine wp_block ?_
   refine wp_seq_k (fun K13 hK13 => ?_)
   refine wp_region_lit ?_
   refine seq_do hA rfl rfl rfl (does_assign rfl) ?_
   intro a hA
   refine seq_do hA rfl rfl rfl (does_assign rfl) ?_
   intro a hA
   refine seq_end ?_
   refine hK13 _ _ ?_
   refine wp_seq_k (fun K14 hK14 => ?_)
   refine wp_region_lit ?_
   refine seq_do hA rfl rfl rfl (does_move rfl) ?_
   intro a hA
   refine seq_do hA rfl rfl rfl (does_move rfl) ?_
   intro a hA
   obtain ⟨bx, ox, hx1, hx2, hx3⟩ := rb_open (i := i) hb (by omega)
   refine seq_do (v := .pointer (some ⟨bx, ox + (i), none⟩)) hA rfl rfl rfl (does_indexRow Try.underlying24 (by kernel_rfl) rfl rfl rfl hx1 (show i < l.length by omega)) ?_
   intro a hA
   refine seq_do (v := .int .u8 ((((l.getD i 0).toNat : Nat) : Int))) hA rfl rfl rfl (m_loadR hM hx2 (hx3 (i) (by omega)) CoZ_is1_5 rfl) ?_
   intro a hA
   have hu0 := (l.getD (i) 0).toNat_lt
   refine seq_do hA rfl rfl rfl (does_assign rfl) ?_
   intro a hA
   refine seq_end ?_
   refine hK14 _ _ ?_
   refine wp_seq_k (fun K15 hK15 => ?_)
   refine wp_block ?_
   refine wp_seq_k (fun K16 hK16 => ?_)
   refine wp_region_lit ?_
   refine seq_do hA rfl rfl rfl (does_move rfl) ?_
   intro a hA
   rcases Bool.eq_false_or_eq_true (decide ((((l.getD i 0).toNat : Nat) : Int) < 128)) with hb17 | hb17
   · have hb17' := of_decide_eq_true hb17
     refine seq_do (v := .bool true) hA rfl rfl rfl (does_bin rfl rfl (fun w => (bin_lss w).trans (by rw [hb17]))) ?_
     intro a hA
     refine seq_do hA rfl rfl rfl (does_assign rfl) ?_
     intro a hA
     refine seq_end ?_
     refine hK16 _ _ ?_
     refine wp_cond_true (hA.ev rfl) ?_
     refine wp_region_lit ?_
     refine seq_do hA rfl rfl rfl (does_move rfl) ?_
     intro a hA
     refine seq_do (v := .int .i32 ((((l.getD i 0).toNat : Nat) : Int))) hA rfl rfl rfl (does_convert rfl (ar_conv Try.underlying5 Try.underlying21 (in_i32 (by omega) (by omega)))) ?_
     intro a hA
     refine seq_do hA rfl rfl rfl (does_assign rfl) ?_
     intro a hA
     refine seq_do hA rfl rfl rfl (does_assign rfl) ?_
     intro a hA
     refine seq_end ?_
     refine hK15 _ _ ?_
     refine wp_seq_k (fun K18 hK18 => ?_)
     refine wp_region_lit ?_
     refine seq_do hA rfl rfl rfl (does_move rfl) ?_
     intro a hA
     refine seq_do (v := .bool true) hA rfl rfl rfl (does_bin rfl rfl (fun w => by kernel_rfl)) ?_
     intro a hA
     refine seq_do hA rfl rfl rfl (does_move rfl) ?_
     intro a hA
     refine seq_do hA rfl rfl rfl (does_move rfl) ?_
     intro a hA
     refine seq_do hA rfl rfl rfl (does_move rfl) ?_
     intro a hA
     refine seq_do (v := .int .i64 (((i + 1 : Nat) : Int))) hA rfl rfl rfl (does_bin rfl rfl (ar_add ((in_i64 (by omega) (by omega)).trans (by omega)))) ?_
     intro a hA
     refine seq_do hA rfl rfl rfl (does_move rfl) ?_
     intro a hA
     refine seq_do (v := .int .i64 (((l.length : Nat) : Int))) hA rfl rfl rfl (does_len Try.underlying24 rfl) ?_
     intro a hA
     rcases Bool.eq_false_or_eq_true (decide (((i + 1 : Nat) : Int) ≤ ((l.length : Nat) : Int))) with hb19 | hb19
     · have hb19' := of_decide_eq_true hb19
       refine seq_do (v := .bool true) hA rfl rfl rfl (does_bin rfl rfl (fun w => (bin_leq w).trans (by rw [hb19]))) ?_
       intro a hA
       refine seq_do (v := .bool true) hA rfl rfl rfl (does_pick rfl rfl rfl rfl) ?_
       intro a hA
       refine seq_do hA rfl rfl rfl (does_assign rfl) ?_
       intro a hA
       refine seq_end ?_
       refine hK18 _ _ ?_
       refine wp_seq_k (fun K20 hK20 => ?_)
       refine wp_seq_k (fun K21 hK21 => ?_)
       refine wp_region_lit ?_
       refine seq_do hA rfl rfl rfl (does_assign rfl) ?_
       intro a hA
       refine seq_end ?_
       refine hK21 _ _ ?_
       refine wp_block ?_
       refine wp_loop_rounds 5 ?_
       refine rounds_k ?_
       intro K22 hK22
       refine wp_seq_k (fun K23 hK23 => ?_)
       refine wp_seq_k (fun K24 hK24 => ?_)
       refine wp_region_lit ?_
       refine seq_do hA rfl rfl rfl (does_move rfl) ?_
       intro a hA
       refine seq_do hA rfl rfl rfl (does_move rfl) ?_
       intro a hA
       refine seq_do hA rfl rfl rfl (does_move rfl) ?_
       intro a hA
       refine seq_do hA rfl rfl rfl (does_move rfl) ?_
       intro a hA
       refine seq_do (v := .bool false) hA rfl rfl rfl (does_bin rfl rfl (fun w => by kernel_rfl)) ?_
       intro a hA
       refine seq_do (v := .bool false) hA rfl rfl rfl (does_pick rfl rfl rfl rfl) ?_
       intro a hA
       refine seq_end ?_
       refine hK24 _ _ ?_
       refine wp_cond_false (hA.ev rfl) ?_
       refine wp_exit ?_
       refine hK20 _ _ ?_
       refine wp_seq_k (fun K25 hK25 => ?_)
       refine wp_seq_k (fun K26 hK26 => ?_)
       refine wp_region_lit ?_
       refine seq_do hA rfl rfl rfl (does_move rfl) ?_
       intro a hA
       refine seq_do hA rfl rfl rfl (does_move rfl) ?_
       intro a hA
       refine seq_do hA rfl rfl rfl (does_move rfl) ?_
       intro a hA
       refine seq_do (v := .bool false) hA rfl rfl rfl (does_bin rfl rfl (fun w => by kernel_rfl)) ?_
       intro a hA
       refine seq_do (v := .bool false) hA rfl rfl rfl (does_pick rfl rfl rfl rfl) ?_
       intro a hA
       refine seq_end ?_
       refine hK26 _ _ ?_
       refine wp_cond_false (hA.ev rfl) ?_
       refine wp_skip ?_
       refine hK25 _ _ ?_
       refine wp_seq_k (fun K27 hK27 => ?_)
       refine wp_region_lit ?_
       refine seq_do hA rfl rfl rfl (does_move rfl) ?_
       intro a hA
       refine seq_end ?_
       refine hK27 _ _ ?_
       refine wp_cond_true (hA.ev rfl) ?_
       refine wp_seq_k (fun K28 hK28 => ?_)
       refine wp_region_lit ?_
       refine seq_do hA rfl rfl rfl (does_move rfl) ?_
       intro a hA
       refine seq_do hA rfl rfl rfl (does_move rfl) ?_
       intro a hA
       refine seq_do hA rfl rfl rfl (does_move rfl) ?_
       intro a hA
       refine seq_do (v := .agg #[.int .i32 ((((l.getD i 0).toNat : Nat) : Int)), .bool false, .int .i64 (((i : Nat) : Int))]) hA rfl rfl rfl (does_build rfl (fun w => by kernel_rfl)) ?_
       intro a hA
       refine s_litE (e := 78) (sz := 3) (m := 1) (vs := [.int .i32 ((((l.getD i 0).toNat : Nat) : Int)), .bool false, .int .i64 (((i : Nat) : Int))]) hA hM rfl rfl rfl (does_buildSlice rfl (by kernel_rfl)) rfl rfl (.inl (by decide)) ?_
       intro g29 w30 hM a hA
       refine s_appendE (e := 78) (sz := 3) (k := 1) (q := acc.length) (m := 1) (xs := (unitV acc)) (news := [.int .i32 ((((l.getD i 0).toNat : Nat) : Int)), .bool false, .int .i64 (((i : Nat) : Int))]) (L' := fun v31 => (.row 78 3 (.slice (some ⟨g29, 0, none⟩) 1 1) 1 ([.int .i32 ((((l.getD i 0).toNat : Nat) : Int)), .bool false, .int .i64 (((i : Nat) : Int))]) :: .row 78 3 (v31) (acc.length + 1) ((unitV acc) ++ [.int .i32 ((((l.getD i 0).toNat : Nat) : Int)), .bool false, .int .i64 (((i : Nat) : Int))]) :: [])) hA rfl rfl rfl (m_appendE (z := .agg #[.int .i32 0, .bool false, .int .i64 0]) (sz := 3) (by_ := 16) Try.underlying75 (by kernel_rfl) rfl rfl rfl hM 1 rfl rfl 0 rfl rfl rfl rfl (by omega)) (fun _ => rfl) ?_
       intro v31 w32 hM a hA
       refine seq_do hA rfl rfl rfl (does_assign rfl) ?_
       intro a hA
       refine seq_end ?_
       refine hK28 _ _ ?_
       refine wp_region_lit ?_
       refine seq_do hA rfl rfl rfl (does_move rfl) ?_
       intro a hA
       refine seq_do hA rfl rfl rfl (does_move rfl) ?_
       intro a hA
       refine seq_do (v := .int .i64 (((i + 1 : Nat) : Int))) hA rfl rfl rfl (does_bin rfl rfl (ar_add ((in_i64 (by omega) (by omega)).trans (by omega)))) ?_
       intro a hA
       refine seq_do hA rfl rfl rfl (does_assign rfl) ?_
       intro a hA
       refine seq_end ?_
       have hd : decodeN (l.length - i) (l.getD i 0).toNat (l.getD (i + 1) 0).toNat (l.getD (i + 2) 0).toNat (l.getD (i + 3) 0).toNat = (((((l.getD i 0).toNat : Nat) : Int)).toNat, 1) := by
         unfold Lib.decodeN
         repeat' split
         all_goals first | rfl | (exfalso; omega) | (refine Prod.ext ?_ rfl; show (_ : Nat) = _; omega)
       have hr9 : uR (((((l.getD i 0).toNat : Nat) : Int)).toNat) 1 = ((((l.getD i 0).toNat : Nat) : Int)) := by unfold uR; rw [if_neg (by omega)]; omega
       have hs9 := restU_step (show i < l.length by omega) hd
       rw [hr9] at hs9
       replace hM : Mg w w32 [.row 78 3 v31 (acc ++ [((i : Int), ((((l.getD i 0).toNat : Nat) : Int)))]).length (unitV (acc ++ [((i : Int), ((((l.getD i 0).toNat : Nat) : Int)))]))] := by
         have h9 := hM.sub (.cons _ (.cons_cons _ (.refl _)))
         have e9 : unitV (acc ++ [((i : Int), ((((l.getD i 0).toNat : Nat) : Int)))]) = unitV acc ++ [.int .i32 ((((l.getD i 0).toNat : Nat) : Int)), .bool false, .int .i64 (((i : Nat) : Int))] := by
           unfold unitV
           rw [List.flatMap_append, List.flatMap_singleton]
           rw [if_neg (show ¬ _ = (-1 : Int) by simp only; omega)]
         rw [e9, List.length_append]
         exact h9
       refine hK8 _ _ _ (by omega) ⟨i + 1, acc ++ [((i : Int), ((((l.getD i 0).toNat : Nat) : Int)))], v31, rfl, ⟨by rw [← hrun, hs9, List.append_assoc]; rfl, by omega, by rw [List.length_append]; simp only [List.length_cons, List.length_nil]; omega⟩, hA.keep _ ⟨rfl, rfl, rfl, rfl, rfl, trivial⟩, hM⟩
     · have hb19' := of_decide_eq_false hb19
       refine seq_do (v := .bool false) hA rfl rfl rfl (does_bin rfl rfl (fun w => (bin_leq w).trans (by rw [hb19]))) ?_
       intro a hA
       refine seq_do (v := .bool false) hA rfl rfl rfl (does_pick rfl rfl rfl rfl) ?_
       intro a hA
       refine seq_do hA rfl rfl rfl (does_assign rfl) ?_
       intro a hA
       refine seq_end ?_
       refine hK18 _ _ ?_
       refine wp_seq_k (fun K33 hK33 => ?_)
       refine wp_seq_k (fun K34 hK34 => ?_)
       refine wp_region_lit ?_
       refine seq_do hA rfl rfl rfl (does_assign rfl) ?_
       intro a hA
       refine seq_end ?_
       refine hK34 _ _ ?_
       refine wp_block ?_
       refine wp_loop_rounds 5 ?_
       refine rounds_k ?_
       intro K35 hK35
       refine wp_seq_k (fun K36 hK36 => ?_)
       refine wp_seq_k (fun K37 hK37 => ?_)
       refine wp_region_lit ?_
       refine seq_do hA rfl rfl rfl (does_move rfl) ?_
       intro a hA
       refine seq_do hA rfl rfl rfl (does_move rfl) ?_
       intro a hA
       refine seq_skip hA rfl rfl rfl ?_
       intro a hA
       refine seq_skip hA rfl rfl rfl ?_
       intro a hA
       refine seq_skip hA rfl rfl rfl ?_
       intro a hA
       refine seq_do (v := .bool false) hA rfl rfl rfl (does_pick rfl rfl rfl rfl) ?_
       intro a hA
       refine seq_end ?_
       refine hK37 _ _ ?_
       refine wp_cond_false (hA.ev rfl) ?_
       refine wp_exit ?_
       refine hK33 _ _ ?_
       refine wp_seq_k (fun K38 hK38 => ?_)
       refine wp_seq_k (fun K39 hK39 => ?_)
       refine wp_region_lit ?_
       refine seq_do hA rfl rfl rfl (does_move rfl) ?_
       intro a hA
       refine seq_do hA rfl rfl rfl (does_move rfl) ?_
       intro a hA
       refine seq_skip hA rfl rfl rfl ?_
       intro a hA
       refine seq_skip hA rfl rfl rfl ?_
       intro a hA
       refine seq_do (v := .bool false) hA rfl rfl rfl (does_pick rfl rfl rfl rfl) ?_
       intro a hA
       refine seq_end ?_
       refine hK39 _ _ ?_
       refine wp_cond_false (hA.ev rfl) ?_
       refine wp_skip ?_
       refine hK38 _ _ ?_
       refine wp_seq_k (fun K40 hK40 => ?_)
       refine wp_region_lit ?_
       refine seq_do hA rfl rfl rfl (does_move rfl) ?_
       intro a hA
       refine seq_end ?_
       refine hK40 _ _ ?_
       refine wp_cond_false (hA.ev rfl) ?_
       refine wp_seq_k (fun K41 hK41 => ?_)
       refine wp_region_lit ?_
       refine seq_do hA rfl rfl rfl (does_move rfl) ?_
       intro a hA
       refine seq_do hA rfl rfl rfl (does_move rfl) ?_
       intro a hA
       refine seq_do (v := .agg #[.int .i32 0, .bool true, .int .i64 (((i : Nat) : Int))]) hA rfl rfl rfl (does_build rfl (fun w => by kernel_rfl)) ?_
       intro a hA
       refine s_litE (e := 78) (sz := 3) (m := 1) (vs := [.int .i32 0, .bool true, .int .i64 (((i : Nat) : Int))]) hA hM rfl rfl rfl (does_buildSlice rfl (by kernel_rfl)) rfl rfl (.inl (by decide)) ?_
       intro g42 w43 hM a hA
       refine s_appendE (e := 78) (sz := 3) (k := 1) (q := acc.length) (m := 1) (xs := (unitV acc)) (news := [.int .i32 0, .bool true, .int .i64 (((i : Nat) : Int))]) (L' := fun v44 => (.row 78 3 (.slice (some ⟨g42, 0, none⟩) 1 1) 1 ([.int .i32 0, .bool true, .int .i64 (((i : Nat) : Int))]) :: .row 78 3 (v44) (acc.length + 1) ((unitV acc) ++ [.int .i32 0, .bool true, .int .i64 (((i : Nat) : Int))]) :: [])) hA rfl rfl rfl (m_appendE (z := .agg #[.int .i32 0, .bool false, .int .i64 0]) (sz := 3) (by_ := 16) Try.underlying75 (by kernel_rfl) rfl rfl rfl hM 1 rfl rfl 0 rfl rfl rfl rfl (by omega)) (fun _ => rfl) ?_
       intro v44 w45 hM a hA
       refine seq_do hA rfl rfl rfl (does_assign rfl) ?_
       intro a hA
       refine seq_end ?_
       refine hK41 _ _ ?_
       refine wp_region_lit ?_
       refine seq_do hA rfl rfl rfl (does_move rfl) ?_
       intro a hA
       refine seq_do (v := .int .i64 (((i + 1 : Nat) : Int))) hA rfl rfl rfl (does_bin rfl rfl (ar_add ((in_i64 (by omega) (by omega)).trans (by omega)))) ?_
       intro a hA
       refine seq_do hA rfl rfl rfl (does_assign rfl) ?_
       intro a hA
       refine seq_end ?_
       have hd : decodeN (l.length - i) (l.getD i 0).toNat (l.getD (i + 1) 0).toNat (l.getD (i + 2) 0).toNat (l.getD (i + 3) 0).toNat = (65533, 1) := by
         unfold Lib.decodeN
         repeat' split
         all_goals first | rfl | (exfalso; omega) | (refine Prod.ext ?_ rfl; show (_ : Nat) = _; omega)
       have hr9 : uR (65533) 1 = (-1) := by unfold uR; rw [if_pos ⟨rfl, by decide⟩]
       have hs9 := restU_step (show i < l.length by omega) hd
       rw [hr9] at hs9
       replace hM : Mg w w45 [.row 78 3 v44 (acc ++ [((i : Int), (-1))]).length (unitV (acc ++ [((i : Int), (-1))]))] := by
         have h9 := hM.sub (.cons _ (.cons_cons _ (.refl _)))
         have e9 : unitV (acc ++ [((i : Int), (-1))]) = unitV acc ++ [.int .i32 0, .bool true, .int .i64 (((i : Nat) : Int))] := by
           unfold unitV
           rw [List.flatMap_append, List.flatMap_singleton]
           rw [if_pos rfl]
         rw [e9, List.length_append]
         exact h9
       refine hK8 _ _ _ (by omega) ⟨i + 1, acc ++ [((i : Int), (-1))], v44, rfl, ⟨by rw [← hrun, hs9, List.append_assoc]; rfl, by omega, by rw [List.length_append]; simp only [List.length_cons, List.length_nil]; omega⟩, hA.keep _ ⟨rfl, rfl, rfl, rfl, rfl, trivial⟩, hM⟩
   · have hb17' := of_decide_eq_false hb17
     refine seq_do (v := .bool false) hA rfl rfl rfl (does_bin rfl rfl (fun w => (bin_lss w).trans (by rw [hb17]))) ?_
     intro a hA
     refine seq_do hA rfl rfl rfl (does_assign rfl) ?_
     intro a hA
     refine seq_end ?_
     refine hK16 _ _ ?_
     refine wp_cond_false (hA.ev rfl) ?_
     refine wp_seq_k (fun K46 hK46 => ?_)
     refine wp_region_lit ?_
     refine seq_do hA rfl rfl rfl (does_move rfl) ?_
     intro a hA
     refine seq_do (v := .int .u8 (((((l.getD i 0).toNat : Nat) : Int)) / 32)) hA rfl rfl rfl (does_bin rfl rfl (ar_shr (n := 5) rfl rfl rfl)) ?_
     intro a hA
     rcases Bool.eq_false_or_eq_true ((((((l.getD i 0).toNat : Nat) : Int)) / 32 == 6)) with hb47 | hb47
     · have hb47' := eq_of_beq hb47
       refine seq_do (v := .bool true) hA rfl rfl rfl (does_bin rfl rfl (fun w => (bin_eql w).trans (by rw [hb47]))) ?_
       intro a hA
       refine seq_do hA rfl rfl rfl (does_assign rfl) ?_
       intro a hA
       refine seq_end ?_
       refine hK46 _ _ ?_
       refine wp_cond_true (hA.ev rfl) ?_
       refine wp_region_lit ?_
       refine seq_do hA rfl rfl rfl (does_move rfl) ?_
       intro a hA
       refine seq_do (v := .int .u8 (((((l.getD i 0).toNat : Nat) : Int)) % 32)) hA rfl rfl rfl (does_bin rfl rfl (ar_and (and_u8 5 31 rfl (by decide) (by omega) (by omega)))) ?_
       intro a hA
       refine seq_do (v := .int .i32 (((((l.getD i 0).toNat : Nat) : Int)) % 32)) hA rfl rfl rfl (does_convert rfl (ar_conv Try.underlying5 Try.underlying21 (in_i32 (by omega) (by omega)))) ?_
       intro a hA
       refine seq_do hA rfl rfl rfl (does_assign rfl) ?_
       intro a hA
       refine seq_do hA rfl rfl rfl (does_assign rfl) ?_
       intro a hA
       refine seq_end ?_
       refine hK15 _ _ ?_
       refine wp_seq_k (fun K48 hK48 => ?_)
       refine wp_region_lit ?_
       refine seq_do hA rfl rfl rfl (does_move rfl) ?_
       intro a hA
       refine seq_do (v := .bool true) hA rfl rfl rfl (does_bin rfl rfl (fun w => by kernel_rfl)) ?_
       intro a hA
       refine seq_do hA rfl rfl rfl (does_move rfl) ?_
       intro a hA
       refine seq_do hA rfl rfl rfl (does_move rfl) ?_
       intro a hA
       refine seq_do hA rfl rfl rfl (does_move rfl) ?_
       intro a hA
       refine seq_do (v := .int .i64 (((i + 2 : Nat) : Int))) hA rfl rfl rfl (does_bin rfl rfl (ar_add ((in_i64 (by omega) (by omega)).trans (by omega)))) ?_
       intro a hA
       refine seq_do hA rfl rfl rfl (does_move rfl) ?_
       intro a hA
       refine seq_do (v := .int .i64 (((l.length : Nat) : Int))) hA rfl rfl rfl (does_len Try.underlying24 rfl) ?_
       intro a hA
       rcases Bool.eq_false_or_eq_true (decide (((i + 2 : Nat) : Int) ≤ ((l.length : Nat) : Int))) with hb49 | hb49
       · have hb49' := of_decide_eq_true hb49
         refine seq_do (v := .bool true) hA rfl rfl rfl (does_bin rfl rfl (fun w => (bin_leq w).trans (by rw [hb49]))) ?_
         intro a hA
         refine seq_do (v := .bool true) hA rfl rfl rfl (does_pick rfl rfl rfl rfl) ?_
         intro a hA
         refine seq_do hA rfl rfl rfl (does_assign rfl) ?_
         intro a hA
         refine seq_end ?_
         refine hK48 _ _ ?_
         refine wp_seq_k (fun K50 hK50 => ?_)
         refine wp_seq_k (fun K51 hK51 => ?_)
         refine wp_region_lit ?_
         refine seq_do hA rfl rfl rfl (does_assign rfl) ?_
         intro a hA
         refine seq_end ?_
         refine hK51 _ _ ?_
         refine wp_block ?_
         refine wp_loop_rounds 5 ?_
         refine rounds_k ?_
         intro K52 hK52
         refine wp_seq_k (fun K53 hK53 => ?_)
         refine wp_seq_k (fun K54 hK54 => ?_)
         refine wp_region_lit ?_
         refine seq_do hA rfl rfl rfl (does_move rfl) ?_
         intro a hA
         refine seq_do hA rfl rfl rfl (does_move rfl) ?_
         intro a hA
         refine seq_do hA rfl rfl rfl (does_move rfl) ?_
         intro a hA
         refine seq_do hA rfl rfl rfl (does_move rfl) ?_
         intro a hA
         refine seq_do (v := .bool true) hA rfl rfl rfl (does_bin rfl rfl (fun w => by kernel_rfl)) ?_
         intro a hA
         refine seq_do (v := .bool true) hA rfl rfl rfl (does_pick rfl rfl rfl rfl) ?_
         intro a hA
         refine seq_end ?_
         refine hK54 _ _ ?_
         refine wp_cond_true (hA.ev rfl) ?_
         refine wp_skip ?_
         refine hK53 _ _ ?_
         refine wp_seq_k (fun K55 hK55 => ?_)
         refine wp_block ?_
         refine wp_seq_k (fun K56 hK56 => ?_)
         refine wp_region_lit ?_
         refine seq_do hA rfl rfl rfl (does_move rfl) ?_
         intro a hA
         refine seq_do hA rfl rfl rfl (does_move rfl) ?_
         intro a hA
         refine seq_do hA rfl rfl rfl (does_move rfl) ?_
         intro a hA
         refine seq_do (v := .int .i64 (((i + 1 : Nat) : Int))) hA rfl rfl rfl (does_bin rfl rfl (ar_add ((in_i64 (by omega) (by omega)).trans (by omega)))) ?_
         intro a hA
         refine seq_do (v := .pointer (some ⟨bx, ox + (i + 1), none⟩)) hA rfl rfl rfl (does_indexRow Try.underlying24 (by kernel_rfl) rfl rfl rfl hx1 (show i + 1 < l.length by omega)) ?_
         intro a hA
         refine seq_do (v := .int .u8 ((((l.getD (i + 1) 0).toNat : Nat) : Int))) hA rfl rfl rfl (m_loadR hM hx2 (hx3 (i + 1) (by omega)) CoZ_is1_5 rfl) ?_
         intro a hA
         have hu1 := (l.getD (i + 1) 0).toNat_lt
         refine seq_do hA rfl rfl rfl (does_assign rfl) ?_
         intro a hA
         refine seq_end ?_
         refine hK56 _ _ ?_
         refine wp_seq_k (fun K57 hK57 => ?_)
         refine wp_region_lit ?_
         refine seq_do hA rfl rfl rfl (does_move rfl) ?_
         intro a hA
         refine seq_do (v := .int .u8 (((((l.getD (i + 1) 0).toNat : Nat) : Int)) / 64)) hA rfl rfl rfl (does_bin rfl rfl (ar_shr (n := 6) rfl rfl rfl)) ?_
         intro a hA
         rcases Bool.eq_false_or_eq_true ((((((l.getD (i + 1) 0).toNat : Nat) : Int)) / 64 == 2)) with hb58 | hb58
         · have hb58' := eq_of_beq hb58
           refine seq_do (v := .bool true) hA rfl rfl rfl (does_bin rfl rfl (fun w => (bin_eql w).trans (by rw [hb58]))) ?_
           intro a hA
           refine seq_do hA rfl rfl rfl (does_assign rfl) ?_
           intro a hA
           refine seq_end ?_
           refine hK57 _ _ ?_
           refine wp_region_lit ?_
           refine seq_do hA rfl rfl rfl (does_move rfl) ?_
           intro a hA
           refine seq_do (v := .int .i32 ((((((l.getD i 0).toNat : Nat) : Int)) % 32) * 64)) hA rfl rfl rfl (does_bin rfl rfl (ar_shl (n := 6) rfl rfl (in_i32 (by omega) (by omega)))) ?_
           intro a hA
           refine seq_do hA rfl rfl rfl (does_move rfl) ?_
           intro a hA
           refine seq_do (v := .int .u8 (((((l.getD (i + 1) 0).toNat : Nat) : Int)) % 64)) hA rfl rfl rfl (does_bin rfl rfl (ar_and (and_u8 6 63 rfl (by decide) (by omega) (by omega)))) ?_
           intro a hA
           refine seq_do (v := .int .i32 (((((l.getD (i + 1) 0).toNat : Nat) : Int)) % 64)) hA rfl rfl rfl (does_convert rfl (ar_conv Try.underlying5 Try.underlying21 (in_i32 (by omega) (by omega)))) ?_
           intro a hA
           refine seq_do (v := .int .i32 ((((((l.getD i 0).toNat : Nat) : Int)) % 32) * 64 + (((((l.getD (i + 1) 0).toNat : Nat) : Int)) % 64))) hA rfl rfl rfl (does_bin rfl rfl (ar_or (or_six (by omega) (by omega) (by omega) (by omega)))) ?_
           intro a hA
           refine seq_do hA rfl rfl rfl (does_assign rfl) ?_
           intro a hA
           refine seq_end ?_
           refine hK55 _ _ ?_
           refine wp_region_lit ?_
           refine seq_do hA rfl rfl rfl (does_move rfl) ?_
           intro a hA
           refine seq_do (v := .int .i64 2) hA rfl rfl rfl (does_bin rfl rfl (fun w => by kernel_rfl)) ?_
           intro a hA
           refine seq_do hA rfl rfl rfl (does_assign rfl) ?_
           intro a hA
           refine seq_end ?_
           refine hK52 _ _ ?_
           refine rounds_k ?_
           intro K59 hK59
           refine wp_seq_k (fun K60 hK60 => ?_)
           refine wp_seq_k (fun K61 hK61 => ?_)
           refine wp_region_lit ?_
           refine seq_do hA rfl rfl rfl (does_move rfl) ?_
           intro a hA
           refine seq_do hA rfl rfl rfl (does_move rfl) ?_
           intro a hA
           refine seq_do hA rfl rfl rfl (does_move rfl) ?_
           intro a hA
           refine seq_do hA rfl rfl rfl (does_move rfl) ?_
           intro a hA
           refine seq_do (v := .bool false) hA rfl rfl rfl (does_bin rfl rfl (fun w => by kernel_rfl)) ?_
           intro a hA
           refine seq_do (v := .bool false) hA rfl rfl rfl (does_pick rfl rfl rfl rfl) ?_
           intro a hA
           refine seq_end ?_
           refine hK61 _ _ ?_
           refine wp_cond_false (hA.ev rfl) ?_
           refine wp_exit ?_
           refine hK50 _ _ ?_
           refine wp_seq_k (fun K62 hK62 => ?_)
           refine wp_seq_k (fun K63 hK63 => ?_)
           refine wp_region_lit ?_
           refine seq_do hA rfl rfl rfl (does_move rfl) ?_
           intro a hA
           refine seq_do hA rfl rfl rfl (does_move rfl) ?_
           intro a hA
           refine seq_do hA rfl rfl rfl (does_move rfl) ?_
           intro a hA
           refine seq_do (v := .bool true) hA rfl rfl rfl (does_bin rfl rfl (fun w => by kernel_rfl)) ?_
           intro a hA
           refine seq_do (v := .bool true) hA rfl rfl rfl (does_pick rfl rfl rfl rfl) ?_
           intro a hA
           refine seq_end ?_
           refine hK63 _ _ ?_
           refine wp_cond_true (hA.ev rfl) ?_
           refine wp_seq_k (fun K64 hK64 => ?_)
           refine wp_region_lit ?_
           refine s_litE (e := 21) (sz := 1) (m := 5) (vs := [.int .i32 0, .int .i32 0, .int .i32 128, .int .i32 2048, .int .i32 65536]) hA hM rfl rfl rfl (does_buildSlice rfl (by kernel_rfl)) rfl rfl (.inl (by decide)) ?_
           intro g65 w66 hM a hA
           refine seq_do hA rfl rfl rfl (does_assign rfl) ?_
           intro a hA
           refine seq_end ?_
           refine hK64 _ _ ?_
           refine wp_region_lit ?_
           refine seq_do hA rfl rfl rfl (does_move rfl) ?_
           intro a hA
           refine seq_do hA rfl rfl rfl (does_move rfl) ?_
           intro a hA
           refine seq_do hA rfl rfl rfl (does_move rfl) ?_
           intro a hA
           refine seq_do (v := .pointer (some ⟨g65, 2, none⟩)) hA rfl rfl rfl (does_indexI rfl rfl (fun w => by kernel_rfl)) ?_
           intro a hA
           refine seq_do (v := .int .i32 128) hA rfl rfl rfl (m_loadE hM 0 rfl rfl CoZ_is1_21 rfl) ?_
           intro a hA
           rcases Bool.eq_false_or_eq_true (decide (128 ≤ (((((l.getD i 0).toNat : Nat) : Int)) % 32) * 64 + (((((l.getD (i + 1) 0).toNat : Nat) : Int)) % 64))) with hb67 | hb67
           · have hb67' := of_decide_eq_true hb67
             refine seq_do (v := .bool true) hA rfl rfl rfl (does_bin rfl rfl (fun w => (bin_geq w).trans (by rw [hb67]))) ?_
             intro a hA
             refine seq_do hA rfl rfl rfl (does_move rfl) ?_
             intro a hA
             refine seq_do hA rfl rfl rfl (does_move rfl) ?_
             intro a hA
             rcases Bool.eq_false_or_eq_true (decide ((((((l.getD i 0).toNat : Nat) : Int)) % 32) * 64 + (((((l.getD (i + 1) 0).toNat : Nat) : Int)) % 64) ≤ 1114111)) with hb68 | hb68
             · have hb68' := of_decide_eq_true hb68
               refine seq_do (v := .bool true) hA rfl rfl rfl (does_bin rfl rfl (fun w => (bin_leq w).trans (by rw [hb68]))) ?_
               intro a hA
               refine seq_do (v := .bool true) hA rfl rfl rfl (does_pick rfl rfl rfl rfl) ?_
               intro a hA
               refine seq_do hA rfl rfl rfl (does_move rfl) ?_
               intro a hA
               refine seq_do hA rfl rfl rfl (does_move rfl) ?_
               intro a hA
               rcases Bool.eq_false_or_eq_true (decide ((((((l.getD i 0).toNat : Nat) : Int)) % 32) * 64 + (((((l.getD (i + 1) 0).toNat : Nat) : Int)) % 64) < 55296)) with hb69 | hb69
               · have hb69' := of_decide_eq_true hb69
                 refine seq_do (v := .bool true) hA rfl rfl rfl (does_bin rfl rfl (fun w => (bin_lss w).trans (by rw [hb69]))) ?_
                 intro a hA
                 refine seq_do hA rfl rfl rfl (does_move rfl) ?_
                 intro a hA
                 refine seq_skip hA rfl rfl rfl ?_
                 intro a hA
                 refine seq_skip hA rfl rfl rfl ?_
                 intro a hA
                 refine seq_do (v := .bool true) hA rfl rfl rfl (does_pick rfl rfl rfl rfl) ?_
                 intro a hA
                 refine seq_do (v := .bool true) hA rfl rfl rfl (does_pick rfl rfl rfl rfl) ?_
                 intro a hA
                 refine seq_do hA rfl rfl rfl (does_assign rfl) ?_
                 intro a hA
                 refine seq_end ?_
                 refine hK62 _ _ ?_
                 refine wp_seq_k (fun K70 hK70 => ?_)
                 refine wp_region_lit ?_
                 refine seq_do hA rfl rfl rfl (does_move rfl) ?_
                 intro a hA
                 refine seq_end ?_
                 refine hK70 _ _ ?_
                 refine wp_cond_true (hA.ev rfl) ?_
                 refine wp_seq_k (fun K71 hK71 => ?_)
                 refine wp_region_lit ?_
                 refine seq_do hA rfl rfl rfl (does_move rfl) ?_
                 intro a hA
                 refine seq_do hA rfl rfl rfl (does_move rfl) ?_
                 intro a hA
                 refine seq_do hA rfl rfl rfl (does_move rfl) ?_
                 intro a hA
                 refine seq_do (v := .agg #[.int .i32 ((((((l.getD i 0).toNat : Nat) : Int)) % 32) * 64 + (((((l.getD (i + 1) 0).toNat : Nat) : Int)) % 64)), .bool false, .int .i64 (((i : Nat) : Int))]) hA rfl rfl rfl (does_build rfl (fun w => by kernel_rfl)) ?_
                 intro a hA
                 refine s_litE (e := 78) (sz := 3) (m := 1) (vs := [.int .i32 ((((((l.getD i 0).toNat : Nat) : Int)) % 32) * 64 + (((((l.getD (i + 1) 0).toNat : Nat) : Int)) % 64)), .bool false, .int .i64 (((i : Nat) : Int))]) hA hM rfl rfl rfl (does_buildSlice rfl (by kernel_rfl)) rfl rfl (.inl (by decide)) ?_
                 intro g72 w73 hM a hA
                 refine s_appendE (e := 78) (sz := 3) (k := 2) (q := acc.length) (m := 1) (xs := (unitV acc)) (news := [.int .i32 ((((((l.getD i 0).toNat : Nat) : Int)) % 32) * 64 + (((((l.getD (i + 1) 0).toNat : Nat) : Int)) % 64)), .bool false, .int .i64 (((i : Nat) : Int))]) (L' := fun v74 => (.row 78 3 (.slice (some ⟨g72, 0, none⟩) 1 1) 1 ([.int .i32 ((((((l.getD i 0).toNat : Nat) : Int)) % 32) * 64 + (((((l.getD (i + 1) 0).toNat : Nat) : Int)) % 64)), .bool false, .int .i64 (((i : Nat) : Int))]) :: .row 21 1 (.slice (some ⟨g65, 0, none⟩) 5 5) 5 ([.int .i32 0, .int .i32 0, .int .i32 128, .int .i32 2048, .int .i32 65536]) :: .row 78 3 (v74) (acc.length + 1) ((unitV acc) ++ [.int .i32 ((((((l.getD i 0).toNat : Nat) : Int)) % 32) * 64 + (((((l.getD (i + 1) 0).toNat : Nat) : Int)) % 64)), .bool false, .int .i64 (((i : Nat) : Int))]) :: [])) hA rfl rfl rfl (m_appendE (z := .agg #[.int .i32 0, .bool false, .int .i64 0]) (sz := 3) (by_ := 16) Try.underlying75 (by kernel_rfl) rfl rfl rfl hM 2 rfl rfl 0 rfl rfl rfl rfl (by omega)) (fun _ => rfl) ?_
                 intro v74 w75 hM a hA
                 refine seq_do hA rfl rfl rfl (does_assign rfl) ?_
                 intro a hA
                 refine seq_end ?_
                 refine hK71 _ _ ?_
                 refine wp_region_lit ?_
                 refine seq_do hA rfl rfl rfl (does_move rfl) ?_
                 intro a hA
                 refine seq_do hA rfl rfl rfl (does_move rfl) ?_
                 intro a hA
                 refine seq_do (v := .int .i64 (((i + 2 : Nat) : Int))) hA rfl rfl rfl (does_bin rfl rfl (ar_add ((in_i64 (by omega) (by omega)).trans (by omega)))) ?_
                 intro a hA
                 refine seq_do hA rfl rfl rfl (does_assign rfl) ?_
                 intro a hA
                 refine seq_end ?_
                 have hd : decodeN (l.length - i) (l.getD i 0).toNat (l.getD (i + 1) 0).toNat (l.getD (i + 2) 0).toNat (l.getD (i + 3) 0).toNat = (((((((l.getD i 0).toNat : Nat) : Int)) % 32) * 64 + (((((l.getD (i + 1) 0).toNat : Nat) : Int)) % 64)).toNat, 2) := by
                   unfold Lib.decodeN
                   repeat' split
                   all_goals first | rfl | (exfalso; omega) | (refine Prod.ext ?_ rfl; show (_ : Nat) = _; omega)
                 have hr9 : uR (((((((l.getD i 0).toNat : Nat) : Int)) % 32) * 64 + (((((l.getD (i + 1) 0).toNat : Nat) : Int)) % 64)).toNat) 2 = ((((((l.getD i 0).toNat : Nat) : Int)) % 32) * 64 + (((((l.getD (i + 1) 0).toNat : Nat) : Int)) % 64)) := by unfold uR; rw [if_neg (by omega)]; omega
                 have hs9 := restU_step (show i < l.length by omega) hd
                 rw [hr9] at hs9
                 replace hM : Mg w w75 [.row 78 3 v74 (acc ++ [((i : Int), ((((((l.getD i 0).toNat : Nat) : Int)) % 32) * 64 + (((((l.getD (i + 1) 0).toNat : Nat) : Int)) % 64)))]).length (unitV (acc ++ [((i : Int), ((((((l.getD i 0).toNat : Nat) : Int)) % 32) * 64 + (((((l.getD (i + 1) 0).toNat : Nat) : Int)) % 64)))]))] := by
                   have h9 := hM.sub (.cons _ (.cons _ (.cons_cons _ (.refl _))))
                   have e9 : unitV (acc ++ [((i : Int), ((((((l.getD i 0).toNat : Nat) : Int)) % 32) * 64 + (((((l.getD (i + 1) 0).toNat : Nat) : Int)) % 64)))]) = unitV acc ++ [.int .i32 ((((((l.getD i 0).toNat : Nat) : Int)) % 32) * 64 + (((((l.getD (i + 1) 0).toNat : Nat) : Int)) % 64)), .bool false, .int .i64 (((i : Nat) : Int))] := by
                     unfold unitV
                     rw [List.flatMap_append, List.flatMap_singleton]
                     rw [if_neg (show ¬ _ = (-1 : Int) by simp only; omega)]
                   rw [e9, List.length_append]
                   exact h9
                 refine hK8 _ _ _ (by omega) ⟨i + 2, acc ++ [((i : Int), ((((((l.getD i 0).toNat : Nat) : Int)) % 32) * 64 + (((((l.getD (i + 1) 0).toNat : Nat) : Int)) % 64)))], v74, rfl, ⟨by rw [← hrun, hs9, List.append_assoc]; rfl, by omega, by rw [List.length_append]; simp only [List.length_cons, List.length_nil]; omega⟩, hA.keep _ ⟨rfl, rfl, rfl, rfl, rfl, trivial⟩, hM⟩
               · have hb69' := of_decide_eq_false hb69
                 refine seq_do (v := .bool false) hA rfl rfl rfl (does_bin rfl rfl (fun w => (bin_lss w).trans (by rw [hb69]))) ?_
                 intro a hA
                 refine seq_do hA rfl rfl rfl (does_move rfl) ?_
                 intro a hA
                 refine seq_do hA rfl rfl rfl (does_move rfl) ?_
                 intro a hA
                 rcases Bool.eq_false_or_eq_true (decide (57343 < (((((l.getD i 0).toNat : Nat) : Int)) % 32) * 64 + (((((l.getD (i + 1) 0).toNat : Nat) : Int)) % 64))) with hb76 | hb76
                 · have hb76' := of_decide_eq_true hb76
                   refine seq_do (v := .bool true) hA rfl rfl rfl (does_bin rfl rfl (fun w => (bin_gtr w).trans (by rw [hb76]))) ?_
                   intro a hA
                   refine seq_do (v := .bool true) hA rfl rfl rfl (does_pick rfl rfl rfl rfl) ?_
                   intro a hA
                   refine seq_do (v := .bool true) hA rfl rfl rfl (does_pick rfl rfl rfl rfl) ?_
                   intro a hA
                   refine seq_do hA rfl rfl rfl (does_assign rfl) ?_
                   intro a hA
                   refine seq_end ?_
                   refine hK62 _ _ ?_
                   refine wp_seq_k (fun K77 hK77 => ?_)
                   refine wp_region_lit ?_
                   refine seq_do hA rfl rfl rfl (does_move rfl) ?_
                   intro a hA
                   refine seq_end ?_
                   refine hK77 _ _ ?_
                   refine wp_cond_true (hA.ev rfl) ?_
                   refine wp_seq_k (fun K78 hK78 => ?_)
                   refine wp_region_lit ?_
                   refine seq_do hA rfl rfl rfl (does_move rfl) ?_
                   intro a hA
                   refine seq_do hA rfl rfl rfl (does_move rfl) ?_
                   intro a hA
                   refine seq_do hA rfl rfl rfl (does_move rfl) ?_
                   intro a hA
                   refine seq_do (v := .agg #[.int .i32 ((((((l.getD i 0).toNat : Nat) : Int)) % 32) * 64 + (((((l.getD (i + 1) 0).toNat : Nat) : Int)) % 64)), .bool false, .int .i64 (((i : Nat) : Int))]) hA rfl rfl rfl (does_build rfl (fun w => by kernel_rfl)) ?_
                   intro a hA
                   refine s_litE (e := 78) (sz := 3) (m := 1) (vs := [.int .i32 ((((((l.getD i 0).toNat : Nat) : Int)) % 32) * 64 + (((((l.getD (i + 1) 0).toNat : Nat) : Int)) % 64)), .bool false, .int .i64 (((i : Nat) : Int))]) hA hM rfl rfl rfl (does_buildSlice rfl (by kernel_rfl)) rfl rfl (.inl (by decide)) ?_
                   intro g79 w80 hM a hA
                   refine s_appendE (e := 78) (sz := 3) (k := 2) (q := acc.length) (m := 1) (xs := (unitV acc)) (news := [.int .i32 ((((((l.getD i 0).toNat : Nat) : Int)) % 32) * 64 + (((((l.getD (i + 1) 0).toNat : Nat) : Int)) % 64)), .bool false, .int .i64 (((i : Nat) : Int))]) (L' := fun v81 => (.row 78 3 (.slice (some ⟨g79, 0, none⟩) 1 1) 1 ([.int .i32 ((((((l.getD i 0).toNat : Nat) : Int)) % 32) * 64 + (((((l.getD (i + 1) 0).toNat : Nat) : Int)) % 64)), .bool false, .int .i64 (((i : Nat) : Int))]) :: .row 21 1 (.slice (some ⟨g65, 0, none⟩) 5 5) 5 ([.int .i32 0, .int .i32 0, .int .i32 128, .int .i32 2048, .int .i32 65536]) :: .row 78 3 (v81) (acc.length + 1) ((unitV acc) ++ [.int .i32 ((((((l.getD i 0).toNat : Nat) : Int)) % 32) * 64 + (((((l.getD (i + 1) 0).toNat : Nat) : Int)) % 64)), .bool false, .int .i64 (((i : Nat) : Int))]) :: [])) hA rfl rfl rfl (m_appendE (z := .agg #[.int .i32 0, .bool false, .int .i64 0]) (sz := 3) (by_ := 16) Try.underlying75 (by kernel_rfl) rfl rfl rfl hM 2 rfl rfl 0 rfl rfl rfl rfl (by omega)) (fun _ => rfl) ?_
                   intro v81 w82 hM a hA
                   refine seq_do hA rfl rfl rfl (does_assign rfl) ?_
                   intro a hA
                   refine seq_end ?_
                   refine hK78 _ _ ?_
                   refine wp_region_lit ?_
                   refine seq_do hA rfl rfl rfl (does_move rfl) ?_
                   intro a hA
                   refine seq_do hA rfl rfl rfl (does_move rfl) ?_
                   intro a hA
                   refine seq_do (v := .int .i64 (((i + 2 : Nat) : Int))) hA rfl rfl rfl (does_bin rfl rfl (ar_add ((in_i64 (by omega) (by omega)).trans (by omega)))) ?_
                   intro a hA
                   refine seq_do hA rfl rfl rfl (does_assign rfl) ?_
                   intro a hA
                   refine seq_end ?_
                   have hd : decodeN (l.length - i) (l.getD i 0).toNat (l.getD (i + 1) 0).toNat (l.getD (i + 2) 0).toNat (l.getD (i + 3) 0).toNat = (((((((l.getD i 0).toNat : Nat) : Int)) % 32) * 64 + (((((l.getD (i + 1) 0).toNat : Nat) : Int)) % 64)).toNat, 2) := by
                     unfold Lib.decodeN
                     repeat' split
                     all_goals first | rfl | (exfalso; omega) | (refine Prod.ext ?_ rfl; show (_ : Nat) = _; omega)
                   have hr9 : uR (((((((l.getD i 0).toNat : Nat) : Int)) % 32) * 64 + (((((l.getD (i + 1) 0).toNat : Nat) : Int)) % 64)).toNat) 2 = ((((((l.getD i 0).toNat : Nat) : Int)) % 32) * 64 + (((((l.getD (i + 1) 0).toNat : Nat) : Int)) % 64)) := by unfold uR; rw [if_neg (by omega)]; omega
                   have hs9 := restU_step (show i < l.length by omega) hd
                   rw [hr9] at hs9
                   replace hM : Mg w w82 [.row 78 3 v81 (acc ++ [((i : Int), ((((((l.getD i 0).toNat : Nat) : Int)) % 32) * 64 + (((((l.getD (i + 1) 0).toNat : Nat) : Int)) % 64)))]).length (unitV (acc ++ [((i : Int), ((((((l.getD i 0).toNat : Nat) : Int)) % 32) * 64 + (((((l.getD (i + 1) 0).toNat : Nat) : Int)) % 64)))]))] := by
                     have h9 := hM.sub (.cons _ (.cons _ (.cons_cons _ (.refl _))))
                     have e9 : unitV (acc ++ [((i : Int), ((((((l.getD i 0).toNat : Nat) : Int)) % 32) * 64 + (((((l.getD (i + 1) 0).toNat : Nat) : Int)) % 64)))]) = unitV acc ++ [.int .i32 ((((((l.getD i 0).toNat : Nat) : Int)) % 32) * 64 + (((((l.getD (i + 1) 0).toNat : Nat) : Int)) % 64)), .bool false, .int .i64 (((i : Nat) : Int))] := by
                       unfold unitV
                       rw [List.flatMap_append, List.flatMap_singleton]
                       rw [if_neg (show ¬ _ = (-1 : Int) by simp only; omega)]
                     rw [e9, List.length_append]
                     exact h9
                   refine hK8 _ _ _ (by omega) ⟨i + 2, acc ++ [((i : Int), ((((((l.getD i 0).toNat : Nat) : Int)) % 32) * 64 + (((((l.getD (i + 1) 0).toNat : Nat) : Int)) % 64)))], v81, rfl, ⟨by rw [← hrun, hs9, List.append_assoc]; rfl, by omega, by rw [List.length_append]; simp only [List.length_cons, List.length_nil]; omega⟩, hA.keep _ ⟨rfl, rfl, rfl, rfl, rfl, trivial⟩, hM⟩
                 · have hb76' := of_decide_eq_false hb76
                   refine seq_do (v := .bool false) hA rfl rfl rfl (does_bin rfl rfl (fun w => (bin_gtr w).trans (by rw [hb76]))) ?_
                   intro a hA
                   refine seq_do (v := .bool false) hA rfl rfl rfl (does_pick rfl rfl rfl rfl) ?_
                   intro a hA
                   refine seq_do (v := .bool false) hA rfl rfl rfl (does_pick rfl rfl rfl rfl) ?_
                   intro a hA
                   refine seq_do hA rfl rfl rfl (does_assign rfl) ?_
                   intro a hA
                   refine seq_end ?_
                   refine hK62 _ _ ?_
                   refine wp_seq_k (fun K83 hK83 => ?_)
                   refine wp_region_lit ?_
                   refine seq_do hA rfl rfl rfl (does_move rfl) ?_
                   intro a hA
                   refine seq_end ?_
                   refine hK83 _ _ ?_
                   refine wp_cond_false (hA.ev rfl) ?_
                   refine wp_seq_k (fun K84 hK84 => ?_)
                   refine wp_region_lit ?_
                   refine seq_do hA rfl rfl rfl (does_move rfl) ?_
                   intro a hA
                   refine seq_do hA rfl rfl rfl (does_move rfl) ?_
                   intro a hA
                   refine seq_do (v := .agg #[.int .i32 0, .bool true, .int .i64 (((i : Nat) : Int))]) hA rfl rfl rfl (does_build rfl (fun w => by kernel_rfl)) ?_
                   intro a hA
                   refine s_litE (e := 78) (sz := 3) (m := 1) (vs := [.int .i32 0, .bool true, .int .i64 (((i : Nat) : Int))]) hA hM rfl rfl rfl (does_buildSlice rfl (by kernel_rfl)) rfl rfl (.inl (by decide)) ?_
                   intro g85 w86 hM a hA
                   refine s_appendE (e := 78) (sz := 3) (k := 2) (q := acc.length) (m := 1) (xs := (unitV acc)) (news := [.int .i32 0, .bool true, .int .i64 (((i : Nat) : Int))]) (L' := fun v87 => (.row 78 3 (.slice (some ⟨g85, 0, none⟩) 1 1) 1 ([.int .i32 0, .bool true, .int .i64 (((i : Nat) : Int))]) :: .row 21 1 (.slice (some ⟨g65, 0, none⟩) 5 5) 5 ([.int .i32 0, .int .i32 0, .int .i32 128, .int .i32 2048, .int .i32 65536]) :: .row 78 3 (v87) (acc.length + 1) ((unitV acc) ++ [.int .i32 0, .bool true, .int .i64 (((i : Nat) : Int))]) :: [])) hA rfl rfl rfl (m_appendE (z := .agg #[.int .i32 0, .bool false, .int .i64 0]) (sz := 3) (by_ := 16) Try.underlying75 (by kernel_rfl) rfl rfl rfl hM 2 rfl rfl 0 rfl rfl rfl rfl (by omega)) (fun _ => rfl) ?_
                   intro v87 w88 hM a hA
                   refine seq_do hA rfl rfl rfl (does_assign rfl) ?_
                   intro a hA
                   refine seq_end ?_
                   refine hK84 _ _ ?_
                   refine wp_region_lit ?_
                   refine seq_do hA rfl rfl rfl (does_move rfl) ?_
                   intro a hA
                   refine seq_do (v := .int .i64 (((i + 1 : Nat) : Int))) hA rfl rfl rfl (does_bin rfl rfl (ar_add ((in_i64 (by omega) (by omega)).trans (by omega)))) ?_
                   intro a hA
                   refine seq_do hA rfl rfl rfl (does_assign rfl) ?_
                   intro a hA
                   refine seq_end ?_
                   have hd : decodeN (l.length - i) (l.getD i 0).toNat (l.getD (i + 1) 0).toNat (l.getD (i + 2) 0).toNat (l.getD (i + 3) 0).toNat = (65533, 1) := by
                     unfold Lib.decodeN
                     repeat' split
                     all_goals first | rfl | (exfalso; omega) | (refine Prod.ext ?_ rfl; show (_ : Nat) = _; omega)
                   have hr9 : uR (65533) 1 = (-1) := by unfold uR; rw [if_pos ⟨rfl, by decide⟩]
                   have hs9 := restU_step (show i < l.length by omega) hd
                   rw [hr9] at hs9
                   replace hM : Mg w w88 [.row 78 3 v87 (acc ++ [((i : Int), (-1))]).length (unitV (acc ++ [((i : Int), (-1))]))] := by
                     have h9 := hM.sub (.cons _ (.cons _ (.cons_cons _ (.refl _))))
                     have e9 : unitV (acc ++ [((i : Int), (-1))]) = unitV acc ++ [.int .i32 0, .bool true, .int .i64 (((i : Nat) : Int))] := by
                       unfold unitV
                       rw [List.flatMap_append, List.flatMap_singleton]
                       rw [if_pos rfl]
                     rw [e9, List.length_append]
                     exact h9
                   refine hK8 _ _ _ (by omega) ⟨i + 1, acc ++ [((i : Int), (-1))], v87, rfl, ⟨by rw [← hrun, hs9, List.append_assoc]; rfl, by omega, by rw [List.length_append]; simp only [List.length_cons, List.length_nil]; omega⟩, hA.keep _ ⟨rfl, rfl, rfl, rfl, rfl, trivial⟩, hM⟩
             · have hb68' := of_decide_eq_false hb68
               refine seq_do (v := .bool false) hA rfl rfl rfl (does_bin rfl rfl (fun w => (bin_leq w).trans (by rw [hb68]))) ?_
               intro a hA
               refine seq_do (v := .bool false) hA rfl rfl rfl (does_pick rfl rfl rfl rfl) ?_
               intro a hA
               refine seq_do hA rfl rfl rfl (does_move rfl) ?_
               intro a hA
               refine seq_skip hA rfl rfl rfl ?_
               intro a hA
               refine seq_skip hA rfl rfl rfl ?_
               intro a hA
               refine seq_skip hA rfl rfl rfl ?_
               intro a hA
               refine seq_skipU hA rfl rfl rfl ?_
               intro a hA
               refine seq_skipU hA rfl rfl rfl ?_
               intro a hA
               refine seq_skip hA rfl rfl rfl ?_
               intro a hA
               refine seq_do (v := .bool false) hA rfl rfl rfl (does_pick rfl rfl rfl rfl) ?_
               intro a hA
               refine seq_do hA rfl rfl rfl (does_assign rfl) ?_
               intro a hA
               refine seq_end ?_
               refine hK62 _ _ ?_
               refine wp_seq_k (fun K89 hK89 => ?_)
               refine wp_region_lit ?_
               refine seq_do hA rfl rfl rfl (does_move rfl) ?_
               intro a hA
               refine seq_end ?_
               refine hK89 _ _ ?_
               refine wp_cond_false (hA.ev rfl) ?_
               refine wp_seq_k (fun K90 hK90 => ?_)
               refine wp_region_lit ?_
               refine seq_do hA rfl rfl rfl (does_move rfl) ?_
               intro a hA
               refine seq_do hA rfl rfl rfl (does_move rfl) ?_
               intro a hA
               refine seq_do (v := .agg #[.int .i32 0, .bool true, .int .i64 (((i : Nat) : Int))]) hA rfl rfl rfl (does_build rfl (fun w => by kernel_rfl)) ?_
               intro a hA
               refine s_litE (e := 78) (sz := 3) (m := 1) (vs := [.int .i32 0, .bool true, .int .i64 (((i : Nat) : Int))]) hA hM rfl rfl rfl (does_buildSlice rfl (by kernel_rfl)) rfl rfl (.inl (by decide)) ?_
               intro g91 w92 hM a hA
               refine s_appendE (e := 78) (sz := 3) (k := 2) (q := acc.length) (m := 1) (xs := (unitV acc)) (news := [.int .i32 0, .bool true, .int .i64 (((i : Nat) : Int))]) (L' := fun v93 => (.row 78 3 (.slice (some ⟨g91, 0, none⟩) 1 1) 1 ([.int .i32 0, .bool true, .int .i64 (((i : Nat) : Int))]) :: .row 21 1 (.slice (some ⟨g65, 0, none⟩) 5 5) 5 ([.int .i32 0, .int .i32 0, .int .i32 128, .int .i32 2048, .int .i32 65536]) :: .row 78 3 (v93) (acc.length + 1) ((unitV acc) ++ [.int .i32 0, .bool true, .int .i64 (((i : Nat) : Int))]) :: [])) hA rfl rfl rfl (m_appendE (z := .agg #[.int .i32 0, .bool false, .int .i64 0]) (sz := 3) (by_ := 16) Try.underlying75 (by kernel_rfl) rfl rfl rfl hM 2 rfl rfl 0 rfl rfl rfl rfl (by omega)) (fun _ => rfl) ?_
               intro v93 w94 hM a hA
               refine seq_do hA rfl rfl rfl (does_assign rfl) ?_
               intro a hA
               refine seq_end ?_
               refine hK90 _ _ ?_
               refine wp_region_lit ?_
               refine seq_do hA rfl rfl rfl (does_move rfl) ?_
               intro a hA
               refine seq_do (v := .int .i64 (((i + 1 : Nat) : Int))) hA rfl rfl rfl (does_bin rfl rfl (ar_add ((in_i64 (by omega) (by omega)).trans (by omega)))) ?_
               intro a hA
               refine seq_do hA rfl rfl rfl (does_assign rfl) ?_
               intro a hA
               refine seq_end ?_
               have hd : decodeN (l.length - i) (l.getD i 0).toNat (l.getD (i + 1) 0).toNat (l.getD (i + 2) 0).toNat (l.getD (i + 3) 0).toNat = (65533, 1) := by
                 unfold Lib.decodeN
                 repeat' split
                 all_goals first | rfl | (exfalso; omega) | (refine Prod.ext ?_ rfl; show (_ : Nat) = _; omega)
               have hr9 : uR (65533) 1 = (-1) := by unfold uR; rw [if_pos ⟨rfl, by decide⟩]
               have hs9 := restU_step (show i < l.length by omega) hd
               rw [hr9] at hs9
               replace hM : Mg w w94 [.row 78 3 v93 (acc ++ [((i : Int), (-1))]).length (unitV (acc ++ [((i : Int), (-1))]))] := by
                 have h9 := hM.sub (.cons _ (.cons _ (.cons_cons _ (.refl _))))
                 have e9 : unitV (acc ++ [((i : Int), (-1))]) = unitV acc ++ [.int .i32 0, .bool true, .int .i64 (((i : Nat) : Int))] := by
                   unfold unitV
                   rw [List.flatMap_append, List.flatMap_singleton]
                   rw [if_pos rfl]
                 rw [e9, List.length_append]
                 exact h9
               refine hK8 _ _ _ (by omega) ⟨i + 1, acc ++ [((i : Int), (-1))], v93, rfl, ⟨by rw [← hrun, hs9, List.append_assoc]; rfl, by omega, by rw [List.length_append]; simp only [List.length_cons, List.length_nil]; omega⟩, hA.keep _ ⟨rfl, rfl, rfl, rfl, rfl, trivial⟩, hM⟩
           · have hb67' := of_decide_eq_false hb67
             refine seq_do (v := .bool false) hA rfl rfl rfl (does_bin rfl rfl (fun w => (bin_geq w).trans (by rw [hb67]))) ?_
             intro a hA
             refine seq_do hA rfl rfl rfl (does_move rfl) ?_
             intro a hA
             refine seq_skip hA rfl rfl rfl ?_
             intro a hA
             refine seq_skip hA rfl rfl rfl ?_
             intro a hA
             refine seq_do (v := .bool false) hA rfl rfl rfl (does_pick rfl rfl rfl rfl) ?_
             intro a hA
             refine seq_do hA rfl rfl rfl (does_move rfl) ?_
             intro a hA
             refine seq_skip hA rfl rfl rfl ?_
             intro a hA
             refine seq_skip hA rfl rfl rfl ?_
             intro a hA
             refine seq_skip hA rfl rfl rfl ?_
             intro a hA
             refine seq_skipU hA rfl rfl rfl ?_
             intro a hA
             refine seq_skipU hA rfl rfl rfl ?_
             intro a hA
             refine seq_skip hA rfl rfl rfl ?_
             intro a hA
             refine seq_do (v := .bool false) hA rfl rfl rfl (does_pick rfl rfl rfl rfl) ?_
             intro a hA
             refine seq_do hA rfl rfl rfl (does_assign rfl) ?_
             intro a hA
             refine seq_end ?_
             refine hK62 _ _ ?_
             refine wp_seq_k (fun K95 hK95 => ?_)
             refine wp_region_lit ?_
             refine seq_do hA rfl rfl rfl (does_move rfl) ?_
             intro a hA
             refine seq_end ?_
             refine hK95 _ _ ?_
             refine wp_cond_false (hA.ev rfl) ?_
             refine wp_seq_k (fun K96 hK96 => ?_)
             refine wp_region_lit ?_
             refine seq_do hA rfl rfl rfl (does_move rfl) ?_
             intro a hA
             refine seq_do hA rfl rfl rfl (does_move rfl) ?_
             intro a hA
             refine seq_do (v := .agg #[.int .i32 0, .bool true, .int .i64 (((i : Nat) : Int))]) hA rfl rfl rfl (does_build rfl (fun w => by kernel_rfl)) ?_
             intro a hA
             refine s_litE (e := 78) (sz := 3) (m := 1) (vs := [.int .i32 0, .bool true, .int .i64 (((i : Nat) : Int))]) hA hM rfl rfl rfl (does_buildSlice rfl (by kernel_rfl)) rfl rfl (.inl (by decide)) ?_
             intro g97 w98 hM a hA
             refine s_appendE (e := 78) (sz := 3) (k := 2) (q := acc.length) (m := 1) (xs := (unitV acc)) (news := [.int .i32 0, .bool true, .int .i64 (((i : Nat) : Int))]) (L' := fun v99 => (.row 78 3 (.slice (some ⟨g97, 0, none⟩) 1 1) 1 ([.int .i32 0, .bool true, .int .i64 (((i : Nat) : Int))]) :: .row 21 1 (.slice (some ⟨g65, 0, none⟩) 5 5) 5 ([.int .i32 0, .int .i32 0, .int .i32 128, .int .i32 2048, .int .i32 65536]) :: .row 78 3 (v99) (acc.length + 1) ((unitV acc) ++ [.int .i32 0, .bool true, .int .i64 (((i : Nat) : Int))]) :: [])) hA rfl rfl rfl (m_appendE (z := .agg #[.int .i32 0, .bool false, .int .i64 0]) (sz := 3) (by_ := 16) Try.underlying75 (by kernel_rfl) rfl rfl rfl hM 2 rfl rfl 0 rfl rfl rfl rfl (by omega)) (fun _ => rfl) ?_
             intro v99 w100 hM a hA
             refine seq_do hA rfl rfl rfl (does_assign rfl) ?_
             intro a hA
             refine seq_end ?_
             refine hK96 _ _ ?_
             refine wp_region_lit ?_
             refine seq_do hA rfl rfl rfl (does_move rfl) ?_
             intro a hA
             refine seq_do (v := .int .i64 (((i + 1 : Nat) : Int))) hA rfl rfl rfl (does_bin rfl rfl (ar_add ((in_i64 (by omega) (by omega)).trans (by omega)))) ?_
             intro a hA
             refine seq_do hA rfl rfl rfl (does_assign rfl) ?_
             intro a hA
             refine seq_end ?_
             have hd : decodeN (l.length - i) (l.getD i 0).toNat (l.getD (i + 1) 0).toNat (l.getD (i + 2) 0).toNat (l.getD (i + 3) 0).toNat = (65533, 1) := by
               unfold Lib.decodeN
               repeat' split
               all_goals first | rfl | (exfalso; omega) | (refine Prod.ext ?_ rfl; show (_ : Nat) = _; omega)
             have hr9 : uR (65533) 1 = (-1) := by unfold uR; rw [if_pos ⟨rfl, by decide⟩]
             have hs9 := restU_step (show i < l.length by omega) hd
             rw [hr9] at hs9
             replace hM : Mg w w100 [.row 78 3 v99 (acc ++ [((i : Int), (-1))]).length (unitV (acc ++ [((i : Int), (-1))]))] := by
               have h9 := hM.sub (.cons _ (.cons _ (.cons_cons _ (.refl _))))
               have e9 : unitV (acc ++ [((i : Int), (-1))]) = unitV acc ++ [.int .i32 0, .bool true, .int .i64 (((i : Nat) : Int))] := by
                 unfold unitV
                 rw [List.flatMap_append, List.flatMap_singleton]
                 rw [if_pos rfl]
               rw [e9, List.length_append]
               exact h9
             refine hK8 _ _ _ (by omega) ⟨i + 1, acc ++ [((i : Int), (-1))], v99, rfl, ⟨by rw [← hrun, hs9, List.append_assoc]; rfl, by omega, by rw [List.length_append]; simp only [List.length_cons, List.length_nil]; omega⟩, hA.keep _ ⟨rfl, rfl, rfl, rfl, rfl, trivial⟩, hM⟩
         · have hb58' := ne_of_beq_false hb58
           refine seq_do (v := .bool false) hA rfl rfl rfl (does_bin rfl rfl (fun w => (bin_eql w).trans (by rw [hb58]))) ?_
           intro a hA
           refine seq_do hA rfl rfl rfl (does_assign rfl) ?_
           intro a hA
           refine seq_end ?_
           refine hK57 _ _ ?_
           refine wp_region_lit ?_
           refine seq_do hA rfl rfl rfl (does_move rfl) ?_
           intro a hA
           refine seq_do (v := .int .i32 ((((((l.getD i 0).toNat : Nat) : Int)) % 32) * 64)) hA rfl rfl rfl (does_bin rfl rfl (ar_shl (n := 6) rfl rfl (in_i32 (by omega) (by omega)))) ?_
           intro a hA
           refine seq_do hA rfl rfl rfl (does_move rfl) ?_
           intro a hA
           refine seq_do (v := .int .u8 (((((l.getD (i + 1) 0).toNat : Nat) : Int)) % 64)) hA rfl rfl rfl (does_bin rfl rfl (ar_and (and_u8 6 63 rfl (by decide) (by omega) (by omega)))) ?_
           intro a hA
           refine seq_do (v := .int .i32 (((((l.getD (i + 1) 0).toNat : Nat) : Int)) % 64)) hA rfl rfl rfl (does_convert rfl (ar_conv Try.underlying5 Try.underlying21 (in_i32 (by omega) (by omega)))) ?_
           intro a hA
           refine seq_do (v := .int .i32 ((((((l.getD i 0).toNat : Nat) : Int)) % 32) * 64 + (((((l.getD (i + 1) 0).toNat : Nat) : Int)) % 64))) hA rfl rfl rfl (does_bin rfl rfl (ar_or (or_six (by omega) (by omega) (by omega) (by omega)))) ?_
           intro a hA
           refine seq_do hA rfl rfl rfl (does_assign rfl) ?_
           intro a hA
           refine seq_end ?_
           refine hK55 _ _ ?_
           refine wp_region_lit ?_
           refine seq_do hA rfl rfl rfl (does_move rfl) ?_
           intro a hA
           refine seq_do (v := .int .i64 2) hA rfl rfl rfl (does_bin rfl rfl (fun w => by kernel_rfl)) ?_
           intro a hA
           refine seq_do hA rfl rfl rfl (does_assign rfl) ?_
           intro a hA
           refine seq_end ?_
           refine hK52 _ _ ?_
           refine rounds_k ?_
           intro K101 hK101
           refine wp_seq_k (fun K102 hK102 => ?_)
           refine wp_seq_k (fun K103 hK103 => ?_)
           refine wp_region_lit ?_
           refine seq_do hA rfl rfl rfl (does_move rfl) ?_
           intro a hA
           refine seq_do hA rfl rfl rfl (does_move rfl) ?_
           intro a hA
           refine seq_skip hA rfl rfl rfl ?_
           intro a hA
           refine seq_skip hA rfl rfl rfl ?_
           intro a hA
           refine seq_skip hA rfl rfl rfl ?_
           intro a hA
           refine seq_do (v := .bool false) hA rfl rfl rfl (does_pick rfl rfl rfl rfl) ?_
           intro a hA
           refine seq_end ?_
           refine hK103 _ _ ?_
           refine wp_cond_false (hA.ev rfl) ?_
           refine wp_exit ?_
           refine hK50 _ _ ?_
           refine wp_seq_k (fun K104 hK104 => ?_)
           refine wp_seq_k (fun K105 hK105 => ?_)
           refine wp_region_lit ?_
           refine seq_do hA rfl rfl rfl (does_move rfl) ?_
           intro a hA
           refine seq_do hA rfl rfl rfl (does_move rfl) ?_
           intro a hA
           refine seq_skip hA rfl rfl rfl ?_
           intro a hA
           refine seq_skip hA rfl rfl rfl ?_
           intro a hA
           refine seq_do (v := .bool false) hA rfl rfl rfl (does_pick rfl rfl rfl rfl) ?_
           intro a hA
           refine seq_end ?_
           refine hK105 _ _ ?_
           refine wp_cond_false (hA.ev rfl) ?_
           refine wp_skip ?_
           refine hK104 _ _ ?_
           refine wp_seq_k (fun K106 hK106 => ?_)
           refine wp_region_lit ?_
           refine seq_do hA rfl rfl rfl (does_move rfl) ?_
           intro a hA
           refine seq_end ?_
           refine hK106 _ _ ?_
           refine wp_cond_false (hA.ev rfl) ?_
           refine wp_seq_k (fun K107 hK107 => ?_)
           refine wp_region_lit ?_
           refine seq_do hA rfl rfl rfl (does_move rfl) ?_
           intro a hA
           refine seq_do hA rfl rfl rfl (does_move rfl) ?_
           intro a hA
           refine seq_do (v := .agg #[.int .i32 0, .bool true, .int .i64 (((i : Nat) : Int))]) hA rfl rfl rfl (does_build rfl (fun w => by kernel_rfl)) ?_
           intro a hA
           refine s_litE (e := 78) (sz := 3) (m := 1) (vs := [.int .i32 0, .bool true, .int .i64 (((i : Nat) : Int))]) hA hM rfl rfl rfl (does_buildSlice rfl (by kernel_rfl)) rfl rfl (.inl (by decide)) ?_
           intro g108 w109 hM a hA
           refine s_appendE (e := 78) (sz := 3) (k := 1) (q := acc.length) (m := 1) (xs := (unitV acc)) (news := [.int .i32 0, .bool true, .int .i64 (((i : Nat) : Int))]) (L' := fun v110 => (.row 78 3 (.slice (some ⟨g108, 0, none⟩) 1 1) 1 ([.int .i32 0, .bool true, .int .i64 (((i : Nat) : Int))]) :: .row 78 3 (v110) (acc.length + 1) ((unitV acc) ++ [.int .i32 0, .bool true, .int .i64 (((i : Nat) : Int))]) :: [])) hA rfl rfl rfl (m_appendE (z := .agg #[.int .i32 0, .bool false, .int .i64 0]) (sz := 3) (by_ := 16) Try.underlying75 (by kernel_rfl) rfl rfl rfl hM 1 rfl rfl 0 rfl rfl rfl rfl (by omega)) (fun _ => rfl) ?_
           intro v110 w111 hM a hA
           refine seq_do hA rfl rfl rfl (does_assign rfl) ?_
           intro a hA
           refine seq_end ?_
           refine hK107 _ _ ?_
           refine wp_region_lit ?_
           refine seq_do hA rfl rfl rfl (does_move rfl) ?_
           intro a hA
           refine seq_do (v := .int .i64 (((i + 1 : Nat) : Int))) hA rfl rfl rfl (does_bin rfl rfl (ar_add ((in_i64 (by omega) (by omega)).trans (by omega)))) ?_
           intro a hA
           refine seq_do hA rfl rfl rfl (does_assign rfl) ?_
           intro a hA
           refine seq_end ?_
           have hd : decodeN (l.length - i) (l.getD i 0).toNat (l.getD (i + 1) 0).toNat (l.getD (i + 2) 0).toNat (l.getD (i + 3) 0).toNat = (65533, 1) := by
             unfold Lib.decodeN
             repeat' split
             all_goals first | rfl | (exfalso; omega) | (refine Prod.ext ?_ rfl; show (_ : Nat) = _; omega)
           have hr9 : uR (65533) 1 = (-1) := by unfold uR; rw [if_pos ⟨rfl, by decide⟩]
           have hs9 := restU_step (show i < l.length by omega) hd
           rw [hr9] at hs9
           replace hM : Mg w w111 [.row 78 3 v110 (acc ++ [((i : Int), (-1))]).length (unitV (acc ++ [((i : Int), (-1))]))] := by
             have h9 := hM.sub (.cons _ (.cons_cons _ (.refl _)))
             have e9 : unitV (acc ++ [((i : Int), (-1))]) = unitV acc ++ [.int .i32 0, .bool true, .int .i64 (((i : Nat) : Int))] := by
               unfold unitV
               rw [List.flatMap_append, List.flatMap_singleton]
               rw [if_pos rfl]
             rw [e9, List.length_append]
             exact h9
           refine hK8 _ _ _ (by omega) ⟨i + 1, acc ++ [((i : Int), (-1))], v110, rfl, ⟨by rw [← hrun, hs9, List.append_assoc]; rfl, by omega, by rw [List.length_append]; simp only [List.length_cons, List.length_nil]; omega⟩, hA.keep _ ⟨rfl, rfl, rfl, rfl, rfl, trivial⟩, hM⟩
       · have hb49' := of_decide_eq_false hb49
         refine seq_do (v := .bool false) hA rfl rfl rfl (does_bin rfl rfl (fun w => (bin_leq w).trans (by rw [hb49]))) ?_
         intro a hA
         refine seq_do (v := .bool false) hA rfl rfl rfl (does_pick rfl rfl rfl rfl) ?_
         intro a hA
         refine seq_do hA rfl rfl rfl (does_assign rfl) ?_
         intro a hA
         refine seq_end ?_
         refine hK48 _ _ ?_
         refine wp_seq_k (fun K112 hK112 => ?_)
         refine wp_seq_k (fun K113 hK113 => ?_)
         refine wp_region_lit ?_
         refine seq_do hA rfl rfl rfl (does_assign rfl) ?_
         intro a hA
         refine seq_end ?_
         refine hK113 _ _ ?_
         refine wp_block ?_
         refine wp_loop_rounds 5 ?_
         refine rounds_k ?_
         intro K114 hK114
         refine wp_seq_k (fun K115 hK115 => ?_)
         refine wp_seq_k (fun K116 hK116 => ?_)
         refine wp_region_lit ?_
         refine seq_do hA rfl rfl rfl (does_move rfl) ?_
         intro a hA
         refine seq_do hA rfl rfl rfl (does_move rfl) ?_
         intro a hA
         refine seq_skip hA rfl rfl rfl ?_
         intro a hA
         refine seq_skip hA rfl rfl rfl ?_
         intro a hA
         refine seq_skip hA rfl rfl rfl ?_
         intro a hA
         refine seq_do (v := .bool false) hA rfl rfl rfl (does_pick rfl rfl rfl rfl) ?_
         intro a hA
         refine seq_end ?_
         refine hK116 _ _ ?_
         refine wp_cond_false (hA.ev rfl) ?_
         refine wp_exit ?_
         refine hK112 _ _ ?_
         refine wp_seq_k (fun K117 hK117 => ?_)
         refine wp_seq_k (fun K118 hK118 => ?_)
         refine wp_region_lit ?_
         refine seq_do hA rfl rfl rfl (does_move rfl) ?_
         intro a hA
         refine seq_do hA rfl rfl rfl (does_move rfl) ?_
         intro a hA
         refine seq_skip hA rfl rfl rfl ?_
         intro a hA
         refine seq_skip hA rfl rfl rfl ?_
         intro a hA
         refine seq_do (v := .bool false) hA rfl rfl rfl (does_pick rfl rfl rfl rfl) ?_
         intro a hA
         refine seq_end ?_
         refine hK118 _ _ ?_
         refine wp_cond_false (hA.ev rfl) ?_
         refine wp_skip ?_
         refine hK117 _ _ ?_
         refine wp_seq_k (fun K119 hK119 => ?_)
         refine wp_region_lit ?_
         refine seq_do hA rfl rfl rfl (does_move rfl) ?_
         intro a hA
         refine seq_end ?_
         refine hK119 _ _ ?_
         refine wp_cond_false (hA.ev rfl) ?_
         refine wp_seq_k (fun K120 hK120 => ?_)
         refine wp_region_lit ?_
         refine seq_do hA rfl rfl rfl (does_move rfl) ?_
         intro a hA
         refine seq_do hA rfl rfl rfl (does_move rfl) ?_
         intro a hA
         refine seq_do (v := .agg #[.int .i32 0, .bool true, .int .i64 (((i : Nat) : Int))]) hA rfl rfl rfl (does_build rfl (fun w => by kernel_rfl)) ?_
         intro a hA
         refine s_litE (e := 78) (sz := 3) (m := 1) (vs := [.int .i32 0, .bool true, .int .i64 (((i : Nat) : Int))]) hA hM rfl rfl rfl (does_buildSlice rfl (by kernel_rfl)) rfl rfl (.inl (by decide)) ?_
         intro g121 w122 hM a hA
         refine s_appendE (e := 78) (sz := 3) (k := 1) (q := acc.length) (m := 1) (xs := (unitV acc)) (news := [.int .i32 0, .bool true, .int .i64 (((i : Nat) : Int))]) (L' := fun v123 => (.row 78 3 (.slice (some ⟨g121, 0, none⟩) 1 1) 1 ([.int .i32 0, .bool true, .int .i64 (((i : Nat) : Int))]) :: .row 78 3 (v123) (acc.length + 1) ((unitV acc) ++ [.int .i32 0, .bool true, .int .i64 (((i : Nat) : Int))]) :: [])) hA rfl rfl rfl (m_appendE (z := .agg #[.int .i32 0, .bool false, .int .i64 0]) (sz := 3) (by_ := 16) Try.underlying75 (by kernel_rfl) rfl rfl rfl hM 1 rfl rfl 0 rfl rfl rfl rfl (by omega)) (fun _ => rfl) ?_
         intro v123 w124 hM a hA
         refine seq_do hA rfl rfl rfl (does_assign rfl) ?_
         intro a hA
         refine seq_end ?_
         refine hK120 _ _ ?_
         refine wp_region_lit ?_
         refine seq_do hA rfl rfl rfl (does_move rfl) ?_
         intro a hA
         refine seq_do (v := .int .i64 (((i + 1 : Nat) : Int))) hA rfl rfl rfl (does_bin rfl rfl (ar_add ((in_i64 (by omega) (by omega)).trans (by omega)))) ?_
         intro a hA
         refine seq_do hA rfl rfl rfl (does_assign rfl) ?_
         intro a hA
         refine seq_end ?_
         have hd : decodeN (l.length - i) (l.getD i 0).toNat (l.getD (i + 1) 0).toNat (l.getD (i + 2) 0).toNat (l.getD (i + 3) 0).toNat = (65533, 1) := by
           unfold Lib.decodeN
           repeat' split
           all_goals first | rfl | (exfalso; omega) | (refine Prod.ext ?_ rfl; show (_ : Nat) = _; omega)
         have hr9 : uR (65533) 1 = (-1) := by unfold uR; rw [if_pos ⟨rfl, by decide⟩]
         have hs9 := restU_step (show i < l.length by omega) hd
         rw [hr9] at hs9
         replace hM : Mg w w124 [.row 78 3 v123 (acc ++ [((i : Int), (-1))]).length (unitV (acc ++ [((i : Int), (-1))]))] := by
           have h9 := hM.sub (.cons _ (.cons_cons _ (.refl _)))
           have e9 : unitV (acc ++ [((i : Int), (-1))]) = unitV acc ++ [.int .i32 0, .bool true, .int .i64 (((i : Nat) : Int))] := by
             unfold unitV
             rw [List.flatMap_append, List.flatMap_singleton]
             rw [if_pos rfl]
           rw [e9, List.length_append]
           exact h9
         refine hK8 _ _ _ (by omega) ⟨i + 1, acc ++ [((i : Int), (-1))], v123, rfl, ⟨by rw [← hrun, hs9, List.append_assoc]; rfl, by omega, by rw [List.length_append]; simp only [List.length_cons, List.length_nil]; omega⟩, hA.keep _ ⟨rfl, rfl, rfl, rfl, rfl, trivial⟩, hM⟩
     · have hb47' := ne_of_beq_false hb47
       refine seq_do (v := .bool false) hA rfl rfl rfl (does_bin rfl rfl (fun w => (bin_eql w).trans (by rw [hb47]))) ?_
       intro a hA
       refine seq_do hA rfl rfl rfl (does_assign rfl) ?_
       intro a hA
       refine seq_end ?_
       refine hK46 _ _ ?_
       refine wp_cond_false (hA.ev rfl) ?_
       refine wp_seq_k (fun K125 hK125 => ?_)
       refine wp_region_lit ?_
       refine seq_do hA rfl rfl rfl (does_move rfl) ?_
       intro a hA
       refine seq_do (v := .int .u8 (((((l.getD i 0).toNat : Nat) : Int)) / 16)) hA rfl rfl rfl (does_bin rfl rfl (ar_shr (n := 4) rfl rfl rfl)) ?_
       intro a hA
       rcases Bool.eq_false_or_eq_true ((((((l.getD i 0).toNat : Nat) : Int)) / 16 == 14)) with hb126 | hb126
       · have hb126' := eq_of_beq hb126
         refine seq_do (v := .bool true) hA rfl rfl rfl (does_bin rfl rfl (fun w => (bin_eql w).trans (by rw [hb126]))) ?_
         intro a hA
         refine seq_do hA rfl rfl rfl (does_assign rfl) ?_
         intro a hA
         refine seq_end ?_
         refine hK125 _ _ ?_
         refine wp_cond_true (hA.ev rfl) ?_
         refine wp_region_lit ?_
         refine seq_do hA rfl rfl rfl (does_move rfl) ?_
         intro a hA
         refine seq_do (v := .int .u8 (((((l.getD i 0).toNat : Nat) : Int)) % 16)) hA rfl rfl rfl (does_bin rfl rfl (ar_and (and_u8 4 15 rfl (by decide) (by omega) (by omega)))) ?_
         intro a hA
         refine seq_do (v := .int .i32 (((((l.getD i 0).toNat : Nat) : Int)) % 16)) hA rfl rfl rfl (does_convert rfl (ar_conv Try.underlying5 Try.underlying21 (in_i32 (by omega) (by omega)))) ?_
         intro a hA
         refine seq_do hA rfl rfl rfl (does_assign rfl) ?_
         intro a hA
         refine seq_do hA rfl rfl rfl (does_assign rfl) ?_
         intro a hA
         refine seq_end ?_
         refine hK15 _ _ ?_
         refine wp_seq_k (fun K127 hK127 => ?_)
         refine wp_region_lit ?_
         refine seq_do hA rfl rfl rfl (does_move rfl) ?_
         intro a hA
         refine seq_do (v := .bool true) hA rfl rfl rfl (does_bin rfl rfl (fun w => by kernel_rfl)) ?_
         intro a hA
         refine seq_do hA rfl rfl rfl (does_move rfl) ?_
         intro a hA
         refine seq_do hA rfl rfl rfl (does_move rfl) ?_
         intro a hA
         refine seq_do hA rfl rfl rfl (does_move rfl) ?_
         intro a hA
         refine seq_do (v := .int .i64 (((i + 3 : Nat) : Int))) hA rfl rfl rfl (does_bin rfl rfl (ar_add ((in_i64 (by omega) (by omega)).trans (by omega)))) ?_
         intro a hA
         refine seq_do hA rfl rfl rfl (does_move rfl) ?_
         intro a hA
         refine seq_do (v := .int .i64 (((l.length : Nat) : Int))) hA rfl rfl rfl (does_len Try.underlying24 rfl) ?_
         intro a hA
         rcases Bool.eq_false_or_eq_true (decide (((i + 3 : Nat) : Int) ≤ ((l.length : Nat) : Int))) with hb128 | hb128
         · have hb128' := of_decide_eq_true hb128
           refine seq_do (v := .bool true) hA rfl rfl rfl (does_bin rfl rfl (fun w => (bin_leq w).trans (by rw [hb128]))) ?_
           intro a hA
           refine seq_do (v := .bool true) hA rfl rfl rfl (does_pick rfl rfl rfl rfl) ?_
           intro a hA
           refine seq_do hA rfl rfl rfl (does_assign rfl) ?_
           intro a hA
           refine seq_end ?_
           refine hK127 _ _ ?_
           refine wp_seq_k (fun K129 hK129 => ?_)
           refine wp_seq_k (fun K130 hK130 => ?_)
           refine wp_region_lit ?_
           refine seq_do hA rfl rfl rfl (does_assign rfl) ?_
           intro a hA
           refine seq_end ?_
           refine hK130 _ _ ?_
           refine wp_block ?_
           refine wp_loop_rounds 5 ?_
           refine rounds_k ?_
           intro K131 hK131
           refine wp_seq_k (fun K132 hK132 => ?_)
           refine wp_seq_k (fun K133 hK133 => ?_)
           refine wp_region_lit ?_
           refine seq_do hA rfl rfl rfl (does_move rfl) ?_
           intro a hA
           refine seq_do hA rfl rfl rfl (does_move rfl) ?_
           intro a hA
           refine seq_do hA rfl rfl rfl (does_move rfl) ?_
           intro a hA
           refine seq_do hA rfl rfl rfl (does_move rfl) ?_
           intro a hA
           refine seq_do (v := .bool true) hA rfl rfl rfl (does_bin rfl rfl (fun w => by kernel_rfl)) ?_
           intro a hA
           refine seq_do (v := .bool true) hA rfl rfl rfl (does_pick rfl rfl rfl rfl) ?_
           intro a hA
           refine seq_end ?_
           refine hK133 _ _ ?_
           refine wp_cond_true (hA.ev rfl) ?_
           refine wp_skip ?_
           refine hK132 _ _ ?_
           refine wp_seq_k (fun K134 hK134 => ?_)
           refine wp_block ?_
           refine wp_seq_k (fun K135 hK135 => ?_)
           refine wp_region_lit ?_
           refine seq_do hA rfl rfl rfl (does_move rfl) ?_
           intro a hA
           refine seq_do hA rfl rfl rfl (does_move rfl) ?_
           intro a hA
           refine seq_do hA rfl rfl rfl (does_move rfl) ?_
           intro a hA
           refine seq_do (v := .int .i64 (((i + 1 : Nat) : Int))) hA rfl rfl rfl (does_bin rfl rfl (ar_add ((in_i64 (by omega) (by omega)).trans (by omega)))) ?_
           intro a hA
           refine seq_do (v := .pointer (some ⟨bx, ox + (i + 1), none⟩)) hA rfl rfl rfl (does_indexRow Try.underlying24 (by kernel_rfl) rfl rfl rfl hx1 (show i + 1 < l.length by omega)) ?_
           intro a hA
           refine seq_do (v := .int .u8 ((((l.getD (i + 1) 0).toNat : Nat) : Int))) hA rfl rfl rfl (m_loadR hM hx2 (hx3 (i + 1) (by omega)) CoZ_is1_5 rfl) ?_
           intro a hA
           have hu1 := (l.getD (i + 1) 0).toNat_lt
           refine seq_do hA rfl rfl rfl (does_assign rfl) ?_
           intro a hA
           refine seq_end ?_
           refine hK135 _ _ ?_
           refine wp_seq_k (fun K136 hK136 => ?_)
           refine wp_region_lit ?_
           refine seq_do hA rfl rfl rfl (does_move rfl) ?_
           intro a hA
           refine seq_do (v := .int .u8 (((((l.getD (i + 1) 0).toNat : Nat) : Int)) / 64)) hA rfl rfl rfl (does_bin rfl rfl (ar_shr (n := 6) rfl rfl rfl)) ?_
           intro a hA
           rcases Bool.eq_false_or_eq_true ((((((l.getD (i + 1) 0).toNat : Nat) : Int)) / 64 == 2)) with hb137 | hb137
           · have hb137' := eq_of_beq hb137
             refine seq_do (v := .bool true) hA rfl rfl rfl (does_bin rfl rfl (fun w => (bin_eql w).trans (by rw [hb137]))) ?_
             intro a hA
             refine seq_do hA rfl rfl rfl (does_assign rfl) ?_
             intro a hA
             refine seq_end ?_
             refine hK136 _ _ ?_
             refine wp_region_lit ?_
             refine seq_do hA rfl rfl rfl (does_move rfl) ?_
             intro a hA
             refine seq_do (v := .int .i32 ((((((l.getD i 0).toNat : Nat) : Int)) % 16) * 64)) hA rfl rfl rfl (does_bin rfl rfl (ar_shl (n := 6) rfl rfl (in_i32 (by omega) (by omega)))) ?_
             intro a hA
             refine seq_do hA rfl rfl rfl (does_move rfl) ?_
             intro a hA
             refine seq_do (v := .int .u8 (((((l.getD (i + 1) 0).toNat : Nat) : Int)) % 64)) hA rfl rfl rfl (does_bin rfl rfl (ar_and (and_u8 6 63 rfl (by decide) (by omega) (by omega)))) ?_
             intro a hA
             refine seq_do (v := .int .i32 (((((l.getD (i + 1) 0).toNat : Nat) : Int)) % 64)) hA rfl rfl rfl (does_convert rfl (ar_conv Try.underlying5 Try.underlying21 (in_i32 (by omega) (by omega)))) ?_
             intro a hA
             refine seq_do (v := .int .i32 ((((((l.getD i 0).toNat : Nat) : Int)) % 16) * 64 + (((((l.getD (i + 1) 0).toNat : Nat) : Int)) % 64))) hA rfl rfl rfl (does_bin rfl rfl (ar_or (or_six (by omega) (by omega) (by omega) (by omega)))) ?_
             intro a hA
             refine seq_do hA rfl rfl rfl (does_assign rfl) ?_
             intro a hA
             refine seq_end ?_
             refine hK134 _ _ ?_
             refine wp_region_lit ?_
             refine seq_do hA rfl rfl rfl (does_move rfl) ?_
             intro a hA
             refine seq_do (v := .int .i64 2) hA rfl rfl rfl (does_bin rfl rfl (fun w => by kernel_rfl)) ?_
             intro a hA
             refine seq_do hA rfl rfl rfl (does_assign rfl) ?_
             intro a hA
             refine seq_end ?_
             refine hK131 _ _ ?_
             refine rounds_k ?_
             intro K138 hK138
             refine wp_seq_k (fun K139 hK139 => ?_)
             refine wp_seq_k (fun K140 hK140 => ?_)
             refine wp_region_lit ?_
             refine seq_do hA rfl rfl rfl (does_move rfl) ?_
             intro a hA
             refine seq_do hA rfl rfl rfl (does_move rfl) ?_
             intro a hA
             refine seq_do hA rfl rfl rfl (does_move rfl) ?_
             intro a hA
             refine seq_do hA rfl rfl rfl (does_move rfl) ?_
             intro a hA
             refine seq_do (v := .bool true) hA rfl rfl rfl (does_bin rfl rfl (fun w => by kernel_rfl)) ?_
             intro a hA
             refine seq_do (v := .bool true) hA rfl rfl rfl (does_pick rfl rfl rfl rfl) ?_
             intro a hA
             refine seq_end ?_
             refine hK140 _ _ ?_
             refine wp_cond_true (hA.ev rfl) ?_
             refine wp_skip ?_
             refine hK139 _ _ ?_
             refine wp_seq_k (fun K141 hK141 => ?_)
             refine wp_block ?_
             refine wp_seq_k (fun K142 hK142 => ?_)
             refine wp_region_lit ?_
             refine seq_do hA rfl rfl rfl (does_move rfl) ?_
             intro a hA
             refine seq_do hA rfl rfl rfl (does_move rfl) ?_
             intro a hA
             refine seq_do hA rfl rfl rfl (does_move rfl) ?_
             intro a hA
             refine seq_do (v := .int .i64 (((i + 2 : Nat) : Int))) hA rfl rfl rfl (does_bin rfl rfl (ar_add ((in_i64 (by omega) (by omega)).trans (by omega)))) ?_
             intro a hA
             refine seq_do (v := .pointer (some ⟨bx, ox + (i + 2), none⟩)) hA rfl rfl rfl (does_indexRow Try.underlying24 (by kernel_rfl) rfl rfl rfl hx1 (show i + 2 < l.length by omega)) ?_
             intro a hA
             refine seq_do (v := .int .u8 ((((l.getD (i + 2) 0).toNat : Nat) : Int))) hA rfl rfl rfl (m_loadR hM hx2 (hx3 (i + 2) (by omega)) CoZ_is1_5 rfl) ?_
             intro a hA
             have hu2 := (l.getD (i + 2) 0).toNat_lt
             refine seq_do hA rfl rfl rfl (does_assign rfl) ?_
             intro a hA
             refine seq_end ?_
             refine hK142 _ _ ?_
             refine wp_seq_k (fun K143 hK143 => ?_)
             refine wp_region_lit ?_
             refine seq_do hA rfl rfl rfl (does_move rfl) ?_
             intro a hA
             refine seq_do (v := .int .u8 (((((l.getD (i + 2) 0).toNat : Nat) : Int)) / 64)) hA rfl rfl rfl (does_bin rfl rfl (ar_shr (n := 6) rfl rfl rfl)) ?_
             intro a hA
             rcases Bool.eq_false_or_eq_true ((((((l.getD (i + 2) 0).toNat : Nat) : Int)) / 64 == 2)) with hb144 | hb144
             · have hb144' := eq_of_beq hb144
               refine seq_do (v := .bool true) hA rfl rfl rfl (does_bin rfl rfl (fun w => (bin_eql w).trans (by rw [hb144]))) ?_
               intro a hA
               refine seq_do hA rfl rfl rfl (does_assign rfl) ?_
               intro a hA
               refine seq_end ?_
               refine hK143 _ _ ?_
               refine wp_region_lit ?_
               refine seq_do hA rfl rfl rfl (does_move rfl) ?_
               intro a hA
               refine seq_do (v := .int .i32 (((((((l.getD i 0).toNat : Nat) : Int)) % 16) * 64 + (((((l.getD (i + 1) 0).toNat : Nat) : Int)) % 64)) * 64)) hA rfl rfl rfl (does_bin rfl rfl (ar_shl (n := 6) rfl rfl (in_i32 (by omega) (by omega)))) ?_
               intro a hA
               refine seq_do hA rfl rfl rfl (does_move rfl) ?_
               intro a hA
               refine seq_do (v := .int .u8 (((((l.getD (i + 2) 0).toNat : Nat) : Int)) % 64)) hA rfl rfl rfl (does_bin rfl rfl (ar_and (and_u8 6 63 rfl (by decide) (by omega) (by omega)))) ?_
               intro a hA
               refine seq_do (v := .int .i32 (((((l.getD (i + 2) 0).toNat : Nat) : Int)) % 64)) hA rfl rfl rfl (does_convert rfl (ar_conv Try.underlying5 Try.underlying21 (in_i32 (by omega) (by omega)))) ?_
               intro a hA
               refine seq_do (v := .int .i32 (((((((l.getD i 0).toNat : Nat) : Int)) % 16) * 64 + (((((l.getD (i + 1) 0).toNat : Nat) : Int)) % 64)) * 64 + (((((l.getD (i + 2) 0).toNat : Nat) : Int)) % 64))) hA rfl rfl rfl (does_bin rfl rfl (ar_or (or_six (by omega) (by omega) (by omega) (by omega)))) ?_
               intro a hA
               refine seq_do hA rfl rfl rfl (does_assign rfl) ?_
               intro a hA
               refine seq_end ?_
               refine hK141 _ _ ?_
               refine wp_region_lit ?_
               refine seq_do hA rfl rfl rfl (does_move rfl) ?_
               intro a hA
               refine seq_do (v := .int .i64 3) hA rfl rfl rfl (does_bin rfl rfl (fun w => by kernel_rfl)) ?_
               intro a hA
               refine seq_do hA rfl rfl rfl (does_assign rfl) ?_
               intro a hA
               refine seq_end ?_
               refine hK138 _ _ ?_
               refine rounds_k ?_
               intro K145 hK145
               refine wp_seq_k (fun K146 hK146 => ?_)
               refine wp_seq_k (fun K147 hK147 => ?_)
               refine wp_region_lit ?_
               refine seq_do hA rfl rfl rfl (does_move rfl) ?_
               intro a hA
               refine seq_do hA rfl rfl rfl (does_move rfl) ?_
               intro a hA
               refine seq_do hA rfl rfl rfl (does_move rfl) ?_
               intro a hA
               refine seq_do hA rfl rfl rfl (does_move rfl) ?_
               intro a hA
               refine seq_do (v := .bool false) hA rfl rfl rfl (does_bin rfl rfl (fun w => by kernel_rfl)) ?_
               intro a hA
               refine seq_do (v := .bool false) hA rfl rfl rfl (does_pick rfl rfl rfl rfl) ?_
               intro a hA
               refine seq_end ?_
               refine hK147 _ _ ?_
               refine wp_cond_false (hA.ev rfl) ?_
               refine wp_exit ?_
               refine hK129 _ _ ?_
               refine wp_seq_k (fun K148 hK148 => ?_)
               refine wp_seq_k (fun K149 hK149 => ?_)
               refine wp_region_lit ?_
               refine seq_do hA rfl rfl rfl (does_move rfl) ?_
               intro a hA
               refine seq_do hA rfl rfl rfl (does_move rfl) ?_
               intro a hA
               refine seq_do hA rfl rfl rfl (does_move rfl) ?_
               intro a hA
               refine seq_do (v := .bool true) hA rfl rfl rfl (does_bin rfl rfl (fun w => by kernel_rfl)) ?_
               intro a hA
               refine seq_do (v := .bool true) hA rfl rfl rfl (does_pick rfl rfl rfl rfl) ?_
               intro a hA
               refine seq_end ?_
               refine hK149 _ _ ?_
               refine wp_cond_true (hA.ev rfl) ?_
               refine wp_seq_k (fun K150 hK150 => ?_)
               refine wp_region_lit ?_
               refine s_litE (e := 21) (sz := 1) (m := 5) (vs := [.int .i32 0, .int .i32 0, .int .i32 128, .int .i32 2048, .int .i32 65536]) hA hM rfl rfl rfl (does_buildSlice rfl (by kernel_rfl)) rfl rfl (.inl (by decide)) ?_
               intro g151 w152 hM a hA
               refine seq_do hA rfl rfl rfl (does_assign rfl) ?_
               intro a hA
               refine seq_end ?_
               refine hK150 _ _ ?_
               refine wp_region_lit ?_
               refine seq_do hA rfl rfl rfl (does_move rfl) ?_
               intro a hA
               refine seq_do hA rfl rfl rfl (does_move rfl) ?_
               intro a hA
               refine seq_do hA rfl rfl rfl (does_move rfl) ?_
               intro a hA
               refine seq_do (v := .pointer (some ⟨g151, 3, none⟩)) hA rfl rfl rfl (does_indexI rfl rfl (fun w => by kernel_rfl)) ?_
               intro a hA
               refine seq_do (v := .int .i32 2048) hA rfl rfl rfl (m_loadE hM 0 rfl rfl CoZ_is1_21 rfl) ?_
               intro a hA
               rcases Bool.eq_false_or_eq_true (decide (2048 ≤ ((((((l.getD i 0).toNat : Nat) : Int)) % 16) * 64 + (((((l.getD (i + 1) 0).toNat : Nat) : Int)) % 64)) * 64 + (((((l.getD (i + 2) 0).toNat : Nat) : Int)) % 64))) with hb153 | hb153
               · have hb153' := of_decide_eq_true hb153
                 refine seq_do (v := .bool true) hA rfl rfl rfl (does_bin rfl rfl (fun w => (bin_geq w).trans (by rw [hb153]))) ?_
                 intro a hA
                 refine seq_do hA rfl rfl rfl (does_move rfl) ?_
                 intro a hA
                 refine seq_do hA rfl rfl rfl (does_move rfl) ?_
                 intro a hA
                 rcases Bool.eq_false_or_eq_true (decide (((((((l.getD i 0).toNat : Nat) : Int)) % 16) * 64 + (((((l.getD (i + 1) 0).toNat : Nat) : Int)) % 64)) * 64 + (((((l.getD (i + 2) 0).toNat : Nat) : Int)) % 64) ≤ 1114111)) with hb154 | hb154
                 · have hb154' := of_decide_eq_true hb154
                   refine seq_do (v := .bool true) hA rfl rfl rfl (does_bin rfl rfl (fun w => (bin_leq w).trans (by rw [hb154]))) ?_
                   intro a hA
                   refine seq_do (v := .bool true) hA rfl rfl rfl (does_pick rfl rfl rfl rfl) ?_
                   intro a hA
                   refine seq_do hA rfl rfl rfl (does_move rfl) ?_
                   intro a hA
                   refine seq_do hA rfl rfl rfl (does_move rfl) ?_
                   intro a hA
                   rcases Bool.eq_false_or_eq_true (decide (((((((l.getD i 0).toNat : Nat) : Int)) % 16) * 64 + (((((l.getD (i + 1) 0).toNat : Nat) : Int)) % 64)) * 64 + (((((l.getD (i + 2) 0).toNat : Nat) : Int)) % 64) < 55296)) with hb155 | hb155
                   · have hb155' := of_decide_eq_true hb155
                     refine seq_do (v := .bool true) hA rfl rfl rfl (does_bin rfl rfl (fun w => (bin_lss w).trans (by rw [hb155]))) ?_
                     intro a hA
                     refine seq_do hA rfl rfl rfl (does_move rfl) ?_
                     intro a hA
                     refine seq_skip hA rfl rfl rfl ?_
                     intro a hA
                     refine seq_skip hA rfl rfl rfl ?_
                     intro a hA
                     refine seq_do (v := .bool true) hA rfl rfl rfl (does_pick rfl rfl rfl rfl) ?_
                     intro a hA
                     refine seq_do (v := .bool true) hA rfl rfl rfl (does_pick rfl rfl rfl rfl) ?_
                     intro a hA
                     refine seq_do hA rfl rfl rfl (does_assign rfl) ?_
                     intro a hA
                     refine seq_end ?_
                     refine hK148 _ _ ?_
                     refine wp_seq_k (fun K156 hK156 => ?_)
                     refine wp_region_lit ?_
                     refine seq_do hA rfl rfl rfl (does_move rfl) ?_
                     intro a hA
                     refine seq_end ?_
                     refine hK156 _ _ ?_
                     refine wp_cond_true (hA.ev rfl) ?_
                     refine wp_seq_k (fun K157 hK157 => ?_)
                     refine wp_region_lit ?_
                     refine seq_do hA rfl rfl rfl (does_move rfl) ?_
                     intro a hA
                     refine seq_do hA rfl rfl rfl (does_move rfl) ?_
                     intro a hA
                     refine seq_do hA rfl rfl rfl (does_move rfl) ?_
                     intro a hA
                     refine seq_do (v := .agg #[.int .i32 (((((((l.getD i 0).toNat : Nat) : Int)) % 16) * 64 + (((((l.getD (i + 1) 0).toNat : Nat) : Int)) % 64)) * 64 + (((((l.getD (i + 2) 0).toNat : Nat) : Int)) % 64)), .bool false, .int .i64 (((i : Nat) : Int))]) hA rfl rfl rfl (does_build rfl (fun w => by kernel_rfl)) ?_
                     intro a hA
                     refine s_litE (e := 78) (sz := 3) (m := 1) (vs := [.int .i32 (((((((l.getD i 0).toNat : Nat) : Int)) % 16) * 64 + (((((l.getD (i + 1) 0).toNat : Nat) : Int)) % 64)) * 64 + (((((l.getD (i + 2) 0).toNat : Nat) : Int)) % 64)), .bool false, .int .i64 (((i : Nat) : Int))]) hA hM rfl rfl rfl (does_buildSlice rfl (by kernel_rfl)) rfl rfl (.inl (by decide)) ?_
                     intro g158 w159 hM a hA
                     refine s_appendE (e := 78) (sz := 3) (k := 2) (q := acc.length) (m := 1) (xs := (unitV acc)) (news := [.int .i32 (((((((l.getD i 0).toNat : Nat) : Int)) % 16) * 64 + (((((l.getD (i + 1) 0).toNat : Nat) : Int)) % 64)) * 64 + (((((l.getD (i + 2) 0).toNat : Nat) : Int)) % 64)), .bool false, .int .i64 (((i : Nat) : Int))]) (L' := fun v160 => (.row 78 3 (.slice (some ⟨g158, 0, none⟩) 1 1) 1 ([.int .i32 (((((((l.getD i 0).toNat : Nat) : Int)) % 16) * 64 + (((((l.getD (i + 1) 0).toNat : Nat) : Int)) % 64)) * 64 + (((((l.getD (i + 2) 0).toNat : Nat) : Int)) % 64)), .bool false, .int .i64 (((i : Nat) : Int))]) :: .row 21 1 (.slice (some ⟨g151, 0, none⟩) 5 5) 5 ([.int .i32 0, .int .i32 0, .int .i32 128, .int .i32 2048, .int .i32 65536]) :: .row 78 3 (v160) (acc.length + 1) ((unitV acc) ++ [.int .i32 (((((((l.getD i 0).toNat : Nat) : Int)) % 16) * 64 + (((((l.getD (i + 1) 0).toNat : Nat) : Int)) % 64)) * 64 + (((((l.getD (i + 2) 0).toNat : Nat) : Int)) % 64)), .bool false, .int .i64 (((i : Nat) : Int))]) :: [])) hA rfl rfl rfl (m_appendE (z := .agg #[.int .i32 0, .bool false, .int .i64 0]) (sz := 3) (by_ := 16) Try.underlying75 (by kernel_rfl) rfl rfl rfl hM 2 rfl rfl 0 rfl rfl rfl rfl (by omega)) (fun _ => rfl) ?_
                     intro v160 w161 hM a hA
                     refine seq_do hA rfl rfl rfl (does_assign rfl) ?_
                     intro a hA
                     refine seq_end ?_
                     refine hK157 _ _ ?_
                     refine wp_region_lit ?_
                     refine seq_do hA rfl rfl rfl (does_move rfl) ?_
                     intro a hA
                     refine seq_do hA rfl rfl rfl (does_move rfl) ?_
                     intro a hA
                     refine seq_do (v := .int .i64 (((i + 3 : Nat) : Int))) hA rfl rfl rfl (does_bin rfl rfl (ar_add ((in_i64 (by omega) (by omega)).trans (by omega)))) ?_
                     intro a hA
                     refine seq_do hA rfl rfl rfl (does_assign rfl) ?_
                     intro a hA
                     refine seq_end ?_
                     have hd : decodeN (l.length - i) (l.getD i 0).toNat (l.getD (i + 1) 0).toNat (l.getD (i + 2) 0).toNat (l.getD (i + 3) 0).toNat = ((((((((l.getD i 0).toNat : Nat) : Int)) % 16) * 64 + (((((l.getD (i + 1) 0).toNat : Nat) : Int)) % 64)) * 64 + (((((l.getD (i + 2) 0).toNat : Nat) : Int)) % 64)).toNat, 3) := by
                       unfold Lib.decodeN
                       repeat' split
                       all_goals first | rfl | (exfalso; omega) | (refine Prod.ext ?_ rfl; show (_ : Nat) = _; omega)
                     have hr9 : uR ((((((((l.getD i 0).toNat : Nat) : Int)) % 16) * 64 + (((((l.getD (i + 1) 0).toNat : Nat) : Int)) % 64)) * 64 + (((((l.getD (i + 2) 0).toNat : Nat) : Int)) % 64)).toNat) 3 = (((((((l.getD i 0).toNat : Nat) : Int)) % 16) * 64 + (((((l.getD (i + 1) 0).toNat : Nat) : Int)) % 64)) * 64 + (((((l.getD (i + 2) 0).toNat : Nat) : Int)) % 64)) := by unfold uR; rw [if_neg (by omega)]; omega
                     have hs9 := restU_step (show i < l.length by omega) hd
                     rw [hr9] at hs9
                     replace hM : Mg w w161 [.row 78 3 v160 (acc ++ [((i : Int), (((((((l.getD i 0).toNat : Nat) : Int)) % 16) * 64 + (((((l.getD (i + 1) 0).toNat : Nat) : Int)) % 64)) * 64 + (((((l.getD (i + 2) 0).toNat : Nat) : Int)) % 64)))]).length (unitV (acc ++ [((i : Int), (((((((l.getD i 0).toNat : Nat) : Int)) % 16) * 64 + (((((l.getD (i + 1) 0).toNat : Nat) : Int)) % 64)) * 64 + (((((l.getD (i + 2) 0).toNat : Nat) : Int)) % 64)))]))] := by
                       have h9 := hM.sub (.cons _ (.cons _ (.cons_cons _ (.refl _))))
                       have e9 : unitV (acc ++ [((i : Int), (((((((l.getD i 0).toNat : Nat) : Int)) % 16) * 64 + (((((l.getD (i + 1) 0).toNat : Nat) : Int)) % 64)) * 64 + (((((l.getD (i + 2) 0).toNat : Nat) : Int)) % 64)))]) = unitV acc ++ [.int .i32 (((((((l.getD i 0).toNat : Nat) : Int)) % 16) * 64 + (((((l.getD (i + 1) 0).toNat : Nat) : Int)) % 64)) * 64 + (((((l.getD (i + 2) 0).toNat : Nat) : Int)) % 64)), .bool false, .int .i64 (((i : Nat) : Int))] := by
                         unfold unitV
                         rw [List.flatMap_append, List.flatMap_singleton]
                         rw [if_neg (show ¬ _ = (-1 : Int) by simp only; omega)]
                       rw [e9, List.length_append]
                       exact h9
                     refine hK8 _ _ _ (by omega) ⟨i + 3, acc ++ [((i : Int), (((((((l.getD i 0).toNat : Nat) : Int)) % 16) * 64 + (((((l.getD (i + 1) 0).toNat : Nat) : Int)) % 64)) * 64 + (((((l.getD (i + 2) 0).toNat : Nat) : Int)) % 64)))], v160, rfl, ⟨by rw [← hrun, hs9, List.append_assoc]; rfl, by omega, by rw [List.length_append]; simp only [List.length_cons, List.length_nil]; omega⟩, hA.keep _ ⟨rfl, rfl, rfl, rfl, rfl, trivial⟩, hM⟩
                   · have hb155' := of_decide_eq_false hb155
                     refine seq_do (v := .bool false) hA rfl rfl rfl (does_bin rfl rfl (fun w => (bin_lss w).trans (by rw [hb155]))) ?_
                     intro a hA
                     refine seq_do hA rfl rfl rfl (does_move rfl) ?_
                     intro a hA
                     refine seq_do hA rfl rfl rfl (does_move rfl) ?_
                     intro a hA
                     rcases Bool.eq_false_or_eq_true (decide (57343 < ((((((l.getD i 0).toNat : Nat) : Int)) % 16) * 64 + (((((l.getD (i + 1) 0).toNat : Nat) : Int)) % 64)) * 64 + (((((l.getD (i + 2) 0).toNat : Nat) : Int)) % 64))) with hb162 | hb162
                     · have hb162' := of_decide_eq_true hb162
                       refine seq_do (v := .bool true) hA rfl rfl rfl (does_bin rfl rfl (fun w => (bin_gtr w).trans (by rw [hb162]))) ?_
                       intro a hA
                       refine seq_do (v := .bool true) hA rfl rfl rfl (does_pick rfl rfl rfl rfl) ?_
                       intro a hA
                       refine seq_do (v := .bool true) hA rfl rfl rfl (does_pick rfl rfl rfl rfl) ?_
                       intro a hA
                       refine seq_do hA rfl rfl rfl (does_assign rfl) ?_
                       intro a hA
                       refine seq_end ?_
                       refine hK148 _ _ ?_
                       refine wp_seq_k (fun K163 hK163 => ?_)
                       refine wp_region_lit ?_
                       refine seq_do hA rfl rfl rfl (does_move rfl) ?_
                       intro a hA
                       refine seq_end ?_
                       refine hK163 _ _ ?_
                       refine wp_cond_true (hA.ev rfl) ?_
                       refine wp_seq_k (fun K164 hK164 => ?_)
                       refine wp_region_lit ?_
                       refine seq_do hA rfl rfl rfl (does_move rfl) ?_
                       intro a hA
                       refine seq_do hA rfl rfl rfl (does_move rfl) ?_
                       intro a hA
                       refine seq_do hA rfl rfl rfl (does_move rfl) ?_
                       intro a hA
                       refine seq_do (v := .agg #[.int .i32 (((((((l.getD i 0).toNat : Nat) : Int)) % 16) * 64 + (((((l.getD (i + 1) 0).toNat : Nat) : Int)) % 64)) * 64 + (((((l.getD (i + 2) 0).toNat : Nat) : Int)) % 64)), .bool false, .int .i64 (((i : Nat) : Int))]) hA rfl rfl rfl (does_build rfl (fun w => by kernel_rfl)) ?_
                       intro a hA
                       refine s_litE (e := 78) (sz := 3) (m := 1) (vs := [.int .i32 (((((((l.getD i 0).toNat : Nat) : Int)) % 16) * 64 + (((((l.getD (i + 1) 0).toNat : Nat) : Int)) % 64)) * 64 + (((((l.getD (i + 2) 0).toNat : Nat) : Int)) % 64)), .bool false, .int .i64 (((i : Nat) : Int))]) hA hM rfl rfl rfl (does_buildSlice rfl (by kernel_rfl)) rfl rfl (.inl (by decide)) ?_
                       intro g165 w166 hM a hA
                       refine s_appendE (e := 78) (sz := 3) (k := 2) (q := acc.length) (m := 1) (xs := (unitV acc)) (news := [.int .i32 (((((((l.getD i 0).toNat : Nat) : Int)) % 16) * 64 + (((((l.getD (i + 1) 0).toNat : Nat) : Int)) % 64)) * 64 + (((((l.getD (i + 2) 0).toNat : Nat) : Int)) % 64)), .bool false, .int .i64 (((i : Nat) : Int))]) (L' := fun v167 => (.row 78 3 (.slice (some ⟨g165, 0, none⟩) 1 1) 1 ([.int .i32 (((((((l.getD i 0).toNat : Nat) : Int)) % 16) * 64 + (((((l.getD (i + 1) 0).toNat : Nat) : Int)) % 64)) * 64 + (((((l.getD (i + 2) 0).toNat : Nat) : Int)) % 64)), .bool false, .int .i64 (((i : Nat) : Int))]) :: .row 21 1 (.slice (some ⟨g151, 0, none⟩) 5 5) 5 ([.int .i32 0, .int .i32 0, .int .i32 128, .int .i32 2048, .int .i32 65536]) :: .row 78 3 (v167) (acc.length + 1) ((unitV acc) ++ [.int .i32 (((((((l.getD i 0).toNat : Nat) : Int)) % 16) * 64 + (((((l.getD (i + 1) 0).toNat : Nat) : Int)) % 64)) * 64 + (((((l.getD (i + 2) 0).toNat : Nat) : Int)) % 64)), .bool false, .int .i64 (((i : Nat) : Int))]) :: [])) hA rfl rfl rfl (m_appendE (z := .agg #[.int .i32 0, .bool false, .int .i64 0]) (sz := 3) (by_ := 16) Try.underlying75 (by kernel_rfl) rfl rfl rfl hM 2 rfl rfl 0 rfl rfl rfl rfl (by omega)) (fun _ => rfl) ?_
                       intro v167 w168 hM a hA
                       refine seq_do hA rfl rfl rfl (does_assign rfl) ?_
                       intro a hA
                       refine seq_end ?_
                       refine hK164 _ _ ?_
                       refine wp_region_lit ?_
                       refine seq_do hA rfl rfl rfl (does_move rfl) ?_
                       intro a hA
                       refine seq_do hA rfl rfl rfl (does_move rfl) ?_
                       intro a hA
                       refine seq_do (v := .int .i64 (((i + 3 : Nat) : Int))) hA rfl rfl rfl (does_bin rfl rfl (ar_add ((in_i64 (by omega) (by omega)).trans (by omega)))) ?_
                       intro a hA
                       refine seq_do hA rfl rfl rfl (does_assign rfl) ?_
                       intro a hA
                       refine seq_end ?_
                       have hd : decodeN (l.length - i) (l.getD i 0).toNat (l.getD (i + 1) 0).toNat (l.getD (i + 2) 0).toNat (l.getD (i + 3) 0).toNat = ((((((((l.getD i 0).toNat : Nat) : Int)) % 16) * 64 + (((((l.getD (i + 1) 0).toNat : Nat) : Int)) % 64)) * 64 + (((((l.getD (i + 2) 0).toNat : Nat) : Int)) % 64)).toNat, 3) := by
                         unfold Lib.decodeN
                         repeat' split
                         all_goals first | rfl | (exfalso; omega) | (refine Prod.ext ?_ rfl; show (_ : Nat) = _; omega)
                       have hr9 : uR ((((((((l.getD i 0).toNat : Nat) : Int)) % 16) * 64 + (((((l.getD (i + 1) 0).toNat : Nat) : Int)) % 64)) * 64 + (((((l.getD (i + 2) 0).toNat : Nat) : Int)) % 64)).toNat) 3 = (((((((l.getD i 0).toNat : Nat) : Int)) % 16) * 64 + (((((l.getD (i + 1) 0).toNat : Nat) : Int)) % 64)) * 64 + (((((l.getD (i + 2) 0).toNat : Nat) : Int)) % 64)) := by unfold uR; rw [if_neg (by omega)]; omega
                       have hs9 := restU_step (show i < l.length by omega) hd
                       rw [hr9] at hs9
                       replace hM : Mg w w168 [.row 78 3 v167 (acc ++ [((i : Int), (((((((l.getD i 0).toNat : Nat) : Int)) % 16) * 64 + (((((l.getD (i + 1) 0).toNat : Nat) : Int)) % 64)) * 64 + (((((l.getD (i + 2) 0).toNat : Nat) : Int)) % 64)))]).length (unitV (acc ++ [((i : Int), (((((((l.getD i 0).toNat : Nat) : Int)) % 16) * 64 + (((((l.getD (i + 1) 0).toNat : Nat) : Int)) % 64)) * 64 + (((((l.getD (i + 2) 0).toNat : Nat) : Int)) % 64)))]))] := by
                         have h9 := hM.sub (.cons _ (.cons _ (.cons_cons _ (.refl _))))
                         have e9 : unitV (acc ++ [((i : Int), (((((((l.getD i 0).toNat : Nat) : Int)) % 16) * 64 + (((((l.getD (i + 1) 0).toNat : Nat) : Int)) % 64)) * 64 + (((((l.getD (i + 2) 0).toNat : Nat) : Int)) % 64)))]) = unitV acc ++ [.int .i32 (((((((l.getD i 0).toNat : Nat) : Int)) % 16) * 64 + (((((l.getD (i + 1) 0).toNat : Nat) : Int)) % 64)) * 64 + (((((l.getD (i + 2) 0).toNat : Nat) : Int)) % 64)), .bool false, .int .i64 (((i : Nat) : Int))] := by
                           unfold unitV
                           rw [List.flatMap_append, List.flatMap_singleton]
                           rw [if_neg (show ¬ _ = (-1 : Int) by simp only; omega)]
                         rw [e9, List.length_append]
                         exact h9
                       refine hK8 _ _ _ (by omega) ⟨i + 3, acc ++ [((i : Int), (((((((l.getD i 0).toNat : Nat) : Int)) % 16) * 64 + (((((l.getD (i + 1) 0).toNat : Nat) : Int)) % 64)) * 64 + (((((l.getD (i + 2) 0).toNat : Nat) : Int)) % 64)))], v167, rfl, ⟨by rw [← hrun, hs9, List.append_assoc]; rfl, by omega, by rw [List.length_append]; simp only [List.length_cons, List.length_nil]; omega⟩, hA.keep _ ⟨rfl, rfl, rfl, rfl, rfl, trivial⟩, hM⟩
                     · have hb162' := of_decide_eq_false hb162
                       refine seq_do (v := .bool false) hA rfl rfl rfl (does_bin rfl rfl (fun w => (bin_gtr w).trans (by rw [hb162]))) ?_
                       intro a hA
                       refine seq_do (v := .bool false) hA rfl rfl rfl (does_pick rfl rfl rfl rfl) ?_
                       intro a hA
                       refine seq_do (v := .bool false) hA rfl rfl rfl (does_pick rfl rfl rfl rfl) ?_
                       intro a hA
                       refine seq_do hA rfl rfl rfl (does_assign rfl) ?_
                       intro a hA
                       refine seq_end ?_
                       refine hK148 _ _ ?_
                       refine wp_seq_k (fun K169 hK169 => ?_)
                       refine wp_region_lit ?_
                       refine seq_do hA rfl rfl rfl (does_move rfl) ?_
                       intro a hA
                       refine seq_end ?_
                       refine hK169 _ _ ?_
                       refine wp_cond_false (hA.ev rfl) ?_
                       refine wp_seq_k (fun K170 hK170 => ?_)
                       refine wp_region_lit ?_
                       refine seq_do hA rfl rfl rfl (does_move rfl) ?_
                       intro a hA
                       refine seq_do hA rfl rfl rfl (does_move rfl) ?_
                       intro a hA
                       refine seq_do (v := .agg #[.int .i32 0, .bool true, .int .i64 (((i : Nat) : Int))]) hA rfl rfl rfl (does_build rfl (fun w => by kernel_rfl)) ?_
                       intro a hA
                       refine s_litE (e := 78) (sz := 3) (m := 1) (vs := [.int .i32 0, .bool true, .int .i64 (((i : Nat) : Int))]) hA hM rfl rfl rfl (does_buildSlice rfl (by kernel_rfl)) rfl rfl (.inl (by decide)) ?_
                       intro g171 w172 hM a hA
                       refine s_appendE (e := 78) (sz := 3) (k := 2) (q := acc.length) (m := 1) (xs := (unitV acc)) (news := [.int .i32 0, .bool true, .int .i64 (((i : Nat) : Int))]) (L' := fun v173 => (.row 78 3 (.slice (some ⟨g171, 0, none⟩) 1 1) 1 ([.int .i32 0, .bool true, .int .i64 (((i : Nat) : Int))]) :: .row 21 1 (.slice (some ⟨g151, 0, none⟩) 5 5) 5 ([.int .i32 0, .int .i32 0, .int .i32 128, .int .i32 2048, .int .i32 65536]) :: .row 78 3 (v173) (acc.length + 1) ((unitV acc) ++ [.int .i32 0, .bool true, .int .i64 (((i : Nat) : Int))]) :: [])) hA rfl rfl rfl (m_appendE (z := .agg #[.int .i32 0, .bool false, .int .i64 0]) (sz := 3) (by_ := 16) Try.underlying75 (by kernel_rfl) rfl rfl rfl hM 2 rfl rfl 0 rfl rfl rfl rfl (by omega)) (fun _ => rfl) ?_
                       intro v173 w174 hM a hA
                       refine seq_do hA rfl rfl rfl (does_assign rfl) ?_
                       intro a hA
                       refine seq_end ?_
                       refine hK170 _ _ ?_
                       refine wp_region_lit ?_
                       refine seq_do hA rfl rfl rfl (does_move rfl) ?_
                       intro a hA
                       refine seq_do (v := .int .i64 (((i + 1 : Nat) : Int))) hA rfl rfl rfl (does_bin rfl rfl (ar_add ((in_i64 (by omega) (by omega)).trans (by omega)))) ?_
                       intro a hA
                       refine seq_do hA rfl rfl rfl (does_assign rfl) ?_
                       intro a hA
                       refine seq_end ?_
                       have hd : decodeN (l.length - i) (l.getD i 0).toNat (l.getD (i + 1) 0).toNat (l.getD (i + 2) 0).toNat (l.getD (i + 3) 0).toNat = (65533, 1) := by
                         unfold Lib.decodeN
                         repeat' split
                         all_goals first | rfl | (exfalso; omega) | (refine Prod.ext ?_ rfl; show (_ : Nat) = _; omega)
                       have hr9 : uR (65533) 1 = (-1) := by unfold uR; rw [if_pos ⟨rfl, by decide⟩]
                       have hs9 := restU_step (show i < l.length by omega) hd
                       rw [hr9] at hs9
                       replace hM : Mg w w174 [.row 78 3 v173 (acc ++ [((i : Int), (-1))]).length (unitV (acc ++ [((i : Int), (-1))]))] := by
                         have h9 := hM.sub (.cons _ (.cons _ (.cons_cons _ (.refl _))))
                         have e9 : unitV (acc ++ [((i : Int), (-1))]) = unitV acc ++ [.int .i32 0, .bool true, .int .i64 (((i : Nat) : Int))] := by
                           unfold unitV
                           rw [List.flatMap_append, List.flatMap_singleton]
                           rw [if_pos rfl]
                         rw [e9, List.length_append]
                         exact h9
                       refine hK8 _ _ _ (by omega) ⟨i + 1, acc ++ [((i : Int), (-1))], v173, rfl, ⟨by rw [← hrun, hs9, List.append_assoc]; rfl, by omega, by rw [List.length_append]; simp only [List.length_cons, List.length_nil]; omega⟩, hA.keep _ ⟨rfl, rfl, rfl, rfl, rfl, trivial⟩, hM⟩
                 · have hb154' := of_decide_eq_false hb154
                   refine seq_do (v := .bool false) hA rfl rfl rfl (does_bin rfl rfl (fun w => (bin_leq w).trans (by rw [hb154]))) ?_
                   intro a hA
                   refine seq_do (v := .bool false) hA rfl rfl rfl (does_pick rfl rfl rfl rfl) ?_
                   intro a hA
                   refine seq_do hA rfl rfl rfl (does_move rfl) ?_
                   intro a hA
                   refine seq_skip hA rfl rfl rfl ?_
                   intro a hA
                   refine seq_skip hA rfl rfl rfl ?_
                   intro a hA
                   refine seq_skip hA rfl rfl rfl ?_
                   intro a hA
                   refine seq_skipU hA rfl rfl rfl ?_
                   intro a hA
                   refine seq_skipU hA rfl rfl rfl ?_
                   intro a hA
                   refine seq_skip hA rfl rfl rfl ?_
                   intro a hA
                   refine seq_do (v := .bool false) hA rfl rfl rfl (does_pick rfl rfl rfl rfl) ?_
                   intro a hA
                   refine seq_do hA rfl rfl rfl (does_assign rfl) ?_
                   intro a hA
                   refine seq_end ?_
                   refine hK148 _ _ ?_
                   refine wp_seq_k (fun K175 hK175 => ?_)
                   refine wp_region_lit ?_
                   refine seq_do hA rfl rfl rfl (does_move rfl) ?_
                   intro a hA
                   refine seq_end ?_
                   refine hK175 _ _ ?_
                   refine wp_cond_false (hA.ev rfl) ?_
                   refine wp_seq_k (fun K176 hK176 => ?_)
                   refine wp_region_lit ?_
                   refine seq_do hA rfl rfl rfl (does_move rfl) ?_
                   intro a hA
                   refine seq_do hA rfl rfl rfl (does_move rfl) ?_
                   intro a hA
                   refine seq_do (v := .agg #[.int .i32 0, .bool true, .int .i64 (((i : Nat) : Int))]) hA rfl rfl rfl (does_build rfl (fun w => by kernel_rfl)) ?_
                   intro a hA
                   refine s_litE (e := 78) (sz := 3) (m := 1) (vs := [.int .i32 0, .bool true, .int .i64 (((i : Nat) : Int))]) hA hM rfl rfl rfl (does_buildSlice rfl (by kernel_rfl)) rfl rfl (.inl (by decide)) ?_
                   intro g177 w178 hM a hA
                   refine s_appendE (e := 78) (sz := 3) (k := 2) (q := acc.length) (m := 1) (xs := (unitV acc)) (news := [.int .i32 0, .bool true, .int .i64 (((i : Nat) : Int))]) (L' := fun v179 => (.row 78 3 (.slice (some ⟨g177, 0, none⟩) 1 1) 1 ([.int .i32 0, .bool true, .int .i64 (((i : Nat) : Int))]) :: .row 21 1 (.slice (some ⟨g151, 0, none⟩) 5 5) 5 ([.int .i32 0, .int .i32 0, .int .i32 128, .int .i32 2048, .int .i32 65536]) :: .row 78 3 (v179) (acc.length + 1) ((unitV acc) ++ [.int .i32 0, .bool true, .int .i64 (((i : Nat) : Int))]) :: [])) hA rfl rfl rfl (m_appendE (z := .agg #[.int .i32 0, .bool false, .int .i64 0]) (sz := 3) (by_ := 16) Try.underlying75 (by kernel_rfl) rfl rfl rfl hM 2 rfl rfl 0 rfl rfl rfl rfl (by omega)) (fun _ => rfl) ?_
                   intro v179 w180 hM a hA
                   refine seq_do hA rfl rfl rfl (does_assign rfl) ?_
                   intro a hA
                   refine seq_end ?_
                   refine hK176 _ _ ?_
                   refine wp_region_lit ?_
                   refine seq_do hA rfl rfl rfl (does_move rfl) ?_
                   intro a hA
                   refine seq_do (v := .int .i64 (((i + 1 : Nat) : Int))) hA rfl rfl rfl (does_bin rfl rfl (ar_add ((in_i64 (by omega) (by omega)).trans (by omega)))) ?_
                   intro a hA
                   refine seq_do hA rfl rfl rfl (does_assign rfl) ?_
                   intro a hA
                   refine seq_end ?_
                   have hd : decodeN (l.length - i) (l.getD i 0).toNat (l.getD (i + 1) 0).toNat (l.getD (i + 2) 0).toNat (l.getD (i + 3) 0).toNat = (65533, 1) := by
                     unfold Lib.decodeN
                     repeat' split
                     all_goals first | rfl | (exfalso; omega) | (refine Prod.ext ?_ rfl; show (_ : Nat) = _; omega)
                   have hr9 : uR (65533) 1 = (-1) := by unfold uR; rw [if_pos ⟨rfl, by decide⟩]
                   have hs9 := restU_step (show i < l.length by omega) hd
                   rw [hr9] at hs9
                   replace hM : Mg w w180 [.row 78 3 v179 (acc ++ [((i : Int), (-1))]).length (unitV (acc ++ [((i : Int), (-1))]))] := by
                     have h9 := hM.sub (.cons _ (.cons _ (.cons_cons _ (.refl _))))
                     have e9 : unitV (acc ++ [((i : Int), (-1))]) = unitV acc ++ [.int .i32 0, .bool true, .int .i64 (((i : Nat) : Int))] := by
                       unfold unitV
                       rw [List.flatMap_append, List.flatMap_singleton]
                       rw [if_pos rfl]
                     rw [e9, List.length_append]
                     exact h9
                   refine hK8 _ _ _ (by omega) ⟨i + 1, acc ++ [((i : Int), (-1))], v179, rfl, ⟨by rw [← hrun, hs9, List.append_assoc]; rfl, by omega, by rw [List.length_append]; simp only [List.length_cons, List.length_nil]; omega⟩, hA.keep _ ⟨rfl, rfl, rfl, rfl, rfl, trivial⟩, hM⟩
               · have hb153' := of_decide_eq_false hb153
                 refine seq_do (v := .bool false) hA rfl rfl rfl (does_bin rfl rfl (fun w => (bin_geq w).trans (by rw [hb153]))) ?_
                 intro a hA
                 refine seq_do hA rfl rfl rfl (does_move rfl) ?_
                 intro a hA
                 refine seq_skip hA rfl rfl rfl ?_
                 intro a hA
                 refine seq_skip hA rfl rfl rfl ?_
                 intro a hA
                 refine seq_do (v := .bool false) hA rfl rfl rfl (does_pick rfl rfl rfl rfl) ?_
                 intro a hA
                 refine seq_do hA rfl rfl rfl (does_move rfl) ?_
                 intro a hA
                 refine seq_skip hA rfl rfl rfl ?_
                 intro a hA
                 refine seq_skip hA rfl rfl rfl ?_
                 intro a hA
                 refine seq_skip hA rfl rfl rfl ?_
                 intro a hA
                 refine seq_skipU hA rfl rfl rfl ?_
                 intro a hA
                 refine seq_skipU hA rfl rfl rfl ?_
                 intro a hA
                 refine seq_skip hA rfl rfl rfl ?_
                 intro a hA
                 refine seq_do (v := .bool false) hA rfl rfl rfl (does_pick rfl rfl rfl rfl) ?_
                 intro a hA
                 refine seq_do hA rfl rfl rfl (does_assign rfl) ?_
                 intro a hA
                 refine seq_end ?_
                 refine hK148 _ _ ?_
                 refine wp_seq_k (fun K181 hK181 => ?_)
                 refine wp_region_lit ?_
                 refine seq_do hA rfl rfl rfl (does_move rfl) ?_
                 intro a hA
                 refine seq_end ?_
                 refine hK181 _ _ ?_
                 refine wp_cond_false (hA.ev rfl) ?_
                 refine wp_seq_k (fun K182 hK182 => ?_)
                 refine wp_region_lit ?_
                 refine seq_do hA rfl rfl rfl (does_move rfl) ?_
                 intro a hA
                 refine seq_do hA rfl rfl rfl (does_move rfl) ?_
                 intro a hA
                 refine seq_do (v := .agg #[.int .i32 0, .bool true, .int .i64 (((i : Nat) : Int))]) hA rfl rfl rfl (does_build rfl (fun w => by kernel_rfl)) ?_
                 intro a hA
                 refine s_litE (e := 78) (sz := 3) (m := 1) (vs := [.int .i32 0, .bool true, .int .i64 (((i : Nat) : Int))]) hA hM rfl rfl rfl (does_buildSlice rfl (by kernel_rfl)) rfl rfl (.inl (by decide)) ?_
                 intro g183 w184 hM a hA
                 refine s_appendE (e := 78) (sz := 3) (k := 2) (q := acc.length) (m := 1) (xs := (unitV acc)) (news := [.int .i32 0, .bool true, .int .i64 (((i : Nat) : Int))]) (L' := fun v185 => (.row 78 3 (.slice (some ⟨g183, 0, none⟩) 1 1) 1 ([.int .i32 0, .bool true, .int .i64 (((i : Nat) : Int))]) :: .row 21 1 (.slice (some ⟨g151, 0, none⟩) 5 5) 5 ([.int .i32 0, .int .i32 0, .int .i32 128, .int .i32 2048, .int .i32 65536]) :: .row 78 3 (v185) (acc.length + 1) ((unitV acc) ++ [.int .i32 0, .bool true, .int .i64 (((i : Nat) : Int))]) :: [])) hA rfl rfl rfl (m_appendE (z := .agg #[.int .i32 0, .bool false, .int .i64 0]) (sz := 3) (by_ := 16) Try.underlying75 (by kernel_rfl) rfl rfl rfl hM 2 rfl rfl 0 rfl rfl rfl rfl (by omega)) (fun _ => rfl) ?_
                 intro v185 w186 hM a hA
                 refine seq_do hA rfl rfl rfl (does_assign rfl) ?_
                 intro a hA
                 refine seq_end ?_
                 refine hK182 _ _ ?_
                 refine wp_region_lit ?_
                 refine seq_do hA rfl rfl rfl (does_move rfl) ?_
                 intro a hA
                 refine seq_do (v := .int .i64 (((i + 1 : Nat) : Int))) hA rfl rfl rfl (does_bin rfl rfl (ar_add ((in_i64 (by omega) (by omega)).trans (by omega)))) ?_
                 intro a hA
                 refine seq_do hA rfl rfl rfl (does_assign rfl) ?_
                 intro a hA
                 refine seq_end ?_
                 have hd : decodeN (l.length - i) (l.getD i 0).toNat (l.getD (i + 1) 0).toNat (l.getD (i + 2) 0).toNat (l.getD (i + 3) 0).toNat = (65533, 1) := by
                   unfold Lib.decodeN
                   repeat' split
                   all_goals first | rfl | (exfalso; omega) | (refine Prod.ext ?_ rfl; show (_ : Nat) = _; omega)
                 have hr9 : uR (65533) 1 = (-1) := by unfold uR; rw [if_pos ⟨rfl, by decide⟩]
                 have hs9 := restU_step (show i < l.length by omega) hd
                 rw [hr9] at hs9
                 replace hM : Mg w w186 [.row 78 3 v185 (acc ++ [((i : Int), (-1))]).length (unitV (acc ++ [((i : Int), (-1))]))] := by
                   have h9 := hM.sub (.cons _ (.cons _ (.cons_cons _ (.refl _))))
                   have e9 : unitV (acc ++ [((i : Int), (-1))]) = unitV acc ++ [.int .i32 0, .bool true, .int .i64 (((i : Nat) : Int))] := by
                     unfold unitV
                     rw [List.flatMap_append, List.flatMap_singleton]
                     rw [if_pos rfl]
                   rw [e9, List.length_append]
                   exact h9
                 refine hK8 _ _ _ (by omega) ⟨i + 1, acc ++ [((i : Int), (-1))], v185, rfl, ⟨by rw [← hrun, hs9, List.append_assoc]; rfl, by omega, by rw [List.length_append]; simp only [List.length_cons, List.length_nil]; omega⟩, hA.keep _ ⟨rfl, rfl, rfl, rfl, rfl, trivial⟩, hM⟩
             · have hb144' := ne_of_beq_false hb144
               refine seq_do (v := .bool false) hA rfl rfl rfl (does_bin rfl rfl (fun w => (bin_eql w).trans (by rw [hb144]))) ?_
               intro a hA
               refine seq_do hA rfl rfl rfl (does_assign rfl) ?_
               intro a hA
               refine seq_end ?_
               refine hK143 _ _ ?_
               refine wp_region_lit ?_
               refine seq_do hA rfl rfl rfl (does_move rfl) ?_
               intro a hA
               refine seq_do (v := .int .i32 (((((((l.getD i 0).toNat : Nat) : Int)) % 16) * 64 + (((((l.getD (i + 1) 0).toNat : Nat) : Int)) % 64)) * 64)) hA rfl rfl rfl (does_bin rfl rfl (ar_shl (n := 6) rfl rfl (in_i32 (by omega) (by omega)))) ?_
               intro a hA
               refine seq_do hA rfl rfl rfl (does_move rfl) ?_
               intro a hA
               refine seq_do (v := .int .u8 (((((l.getD (i + 2) 0).toNat : Nat) : Int)) % 64)) hA rfl rfl rfl (does_bin rfl rfl (ar_and (and_u8 6 63 rfl (by decide) (by omega) (by omega)))) ?_
               intro a hA
               refine seq_do (v := .int .i32 (((((l.getD (i + 2) 0).toNat : Nat) : Int)) % 64)) hA rfl rfl rfl (does_convert rfl (ar_conv Try.underlying5 Try.underlying21 (in_i32 (by omega) (by omega)))) ?_
               intro a hA
               refine seq_do (v := .int .i32 (((((((l.getD i 0).toNat : Nat) : Int)) % 16) * 64 + (((((l.getD (i + 1) 0).toNat : Nat) : Int)) % 64)) * 64 + (((((l.getD (i + 2) 0).toNat : Nat) : Int)) % 64))) hA rfl rfl rfl (does_bin rfl rfl (ar_or (or_six (by omega) (by omega) (by omega) (by omega)))) ?_
               intro a hA
               refine seq_do hA rfl rfl rfl (does_assign rfl) ?_
               intro a hA
               refine seq_end ?_
               refine hK141 _ _ ?_
               refine wp_region_lit ?_
               refine seq_do hA rfl rfl rfl (does_move rfl) ?_
               intro a hA
               refine seq_do (v := .int .i64 3) hA rfl rfl rfl (does_bin rfl rfl (fun w => by kernel_rfl)) ?_
               intro a hA
               refine seq_do hA rfl rfl rfl (does_assign rfl) ?_
               intro a hA
               refine seq_end ?_
               refine hK138 _ _ ?_
               refine rounds_k ?_
               intro K187 hK187
               refine wp_seq_k (fun K188 hK188 => ?_)
               refine wp_seq_k (fun K189 hK189 => ?_)
               refine wp_region_lit ?_
               refine seq_do hA rfl rfl rfl (does_move rfl) ?_
               intro a hA
               refine seq_do hA rfl rfl rfl (does_move rfl) ?_
               intro a hA
               refine seq_skip hA rfl rfl rfl ?_
               intro a hA
               refine seq_skip hA rfl rfl rfl ?_
               intro a hA
               refine seq_skip hA rfl rfl rfl ?_
               intro a hA
               refine seq_do (v := .bool false) hA rfl rfl rfl (does_pick rfl rfl rfl rfl) ?_
               intro a hA
               refine seq_end ?_
               refine hK189 _ _ ?_
               refine wp_cond_false (hA.ev rfl) ?_
               refine wp_exit ?_
               refine hK129 _ _ ?_
               refine wp_seq_k (fun K190 hK190 => ?_)
               refine wp_seq_k (fun K191 hK191 => ?_)
               refine wp_region_lit ?_
               refine seq_do hA rfl rfl rfl (does_move rfl) ?_
               intro a hA
               refine seq_do hA rfl rfl rfl (does_move rfl) ?_
               intro a hA
               refine seq_skip hA rfl rfl rfl ?_
               intro a hA
               refine seq_skip hA rfl rfl rfl ?_
               intro a hA
               refine seq_do (v := .bool false) hA rfl rfl rfl (does_pick rfl rfl rfl rfl) ?_
               intro a hA
               refine seq_end ?_
               refine hK191 _ _ ?_
               refine wp_cond_false (hA.ev rfl) ?_
               refine wp_skip ?_
               refine hK190 _ _ ?_
               refine wp_seq_k (fun K192 hK192 => ?_)
               refine wp_region_lit ?_
               refine seq_do hA rfl rfl rfl (does_move rfl) ?_
               intro a hA
               refine seq_end ?_
               refine hK192 _ _ ?_
               refine wp_cond_false (hA.ev rfl) ?_
               refine wp_seq_k (fun K193 hK193 => ?_)
               refine wp_region_lit ?_
               refine seq_do hA rfl rfl rfl (does_move rfl) ?_
               intro a hA
               refine seq_do hA rfl rfl rfl (does_move rfl) ?_
               intro a hA
               refine seq_do (v := .agg #[.int .i32 0, .bool true, .int .i64 (((i : Nat) : Int))]) hA rfl rfl rfl (does_build rfl (fun w => by kernel_rfl)) ?_
               intro a hA
               refine s_litE (e := 78) (sz := 3) (m := 1) (vs := [.int .i32 0, .bool true, .int .i64 (((i : Nat) : Int))]) hA hM rfl rfl rfl (does_buildSlice rfl (by kernel_rfl)) rfl rfl (.inl (by decide)) ?_
               intro g194 w195 hM a hA
               refine s_appendE (e := 78) (sz := 3) (k := 1) (q := acc.length) (m := 1) (xs := (unitV acc)) (news := [.int .i32 0, .bool true, .int .i64 (((i : Nat) : Int))]) (L' := fun v196 => (.row 78 3 (.slice (some ⟨g194, 0, none⟩) 1 1) 1 ([.int .i32 0, .bool true, .int .i64 (((i : Nat) : Int))]) :: .row 78 3 (v196) (acc.length + 1) ((unitV acc) ++ [.int .i32 0, .bool true, .int .i64 (((i : Nat) : Int))]) :: [])) hA rfl rfl rfl (m_appendE (z := .agg #[.int .i32 0, .bool false, .int .i64 0]) (sz := 3) (by_ := 16) Try.underlying75 (by kernel_rfl) rfl rfl rfl hM 1 rfl rfl 0 rfl rfl rfl rfl (by omega)) (fun _ => rfl) ?_
               intro v196 w197 hM a hA
               refine seq_do hA rfl rfl rfl (does_assign rfl) ?_
               intro a hA
               refine seq_end ?_
               refine hK193 _ _ ?_
               refine wp_region_lit ?_
               refine seq_do hA rfl rfl rfl (does_move rfl) ?_
               intro a hA
               refine seq_do (v := .int .i64 (((i + 1 : Nat) : Int))) hA rfl rfl rfl (does_bin rfl rfl (ar_add ((in_i64 (by omega) (by omega)).trans (by omega)))) ?_
               intro a hA
               refine seq_do hA rfl rfl rfl (does_assign rfl) ?_
               intro a hA
               refine seq_end ?_
               have hd : decodeN (l.length - i) (l.getD i 0).toNat (l.getD (i + 1) 0).toNat (l.getD (i + 2) 0).toNat (l.getD (i + 3) 0).toNat = (65533, 1) := by
                 unfold Lib.decodeN
                 repeat' split
                 all_goals first | rfl | (exfalso; omega) | (refine Prod.ext ?_ rfl; show (_ : Nat) = _; omega)
               have hr9 : uR (65533) 1 = (-1) := by unfold uR; rw [if_pos ⟨rfl, by decide⟩]
               have hs9 := restU_step (show i < l.length by omega) hd
               rw [hr9] at hs9
               replace hM : Mg w w197 [.row 78 3 v196 (acc ++ [((i : Int), (-1))]).length (unitV (acc ++ [((i : Int), (-1))]))] := by
                 have h9 := hM.sub (.cons _ (.cons_cons _ (.refl _)))
                 have e9 : unitV (acc ++ [((i : Int), (-1))]) = unitV acc ++ [.int .i32 0, .bool true, .int .i64 (((i : Nat) : Int))] := by
                   unfold unitV
                   rw [List.flatMap_append, List.flatMap_singleton]
                   rw [if_pos rfl]
                 rw [e9, List.length_append]
                 exact h9
               refine hK8 _ _ _ (by omega) ⟨i + 1, acc ++ [((i : Int), (-1))], v196, rfl, ⟨by rw [← hrun, hs9, List.append_assoc]; rfl, by omega, by rw [List.length_append]; simp only [List.length_cons, List.length_nil]; omega⟩, hA.keep _ ⟨rfl, rfl, rfl, rfl, rfl, trivial⟩, hM⟩
           · have hb137' := ne_of_beq_false hb137
             refine seq_do (v := .bool false) hA rfl rfl rfl (does_bin rfl rfl (fun w => (bin_eql w).trans (by rw [hb137]))) ?_
             intro a hA
             refine seq_do hA rfl rfl rfl (does_assign rfl) ?_
             intro a hA
             refine seq_end ?_
             refine hK136 _ _ ?_
             refine wp_region_lit ?_
             refine seq_do hA rfl rfl rfl (does_move rfl) ?_
             intro a hA
             refine seq_do (v := .int .i32 ((((((l.getD i 0).toNat : Nat) : Int)) % 16) * 64)) hA rfl rfl rfl (does_bin rfl rfl (ar_shl (n := 6) rfl rfl (in_i32 (by omega) (by omega)))) ?_
             intro a hA
             refine seq_do hA rfl rfl rfl (does_move rfl) ?_
             intro a hA
             refine seq_do (v := .int .u8 (((((l.getD (i + 1) 0).toNat : Nat) : Int)) % 64)) hA rfl rfl rfl (does_bin rfl rfl (ar_and (and_u8 6 63 rfl (by decide) (by omega) (by omega)))) ?_
             intro a hA
             refine seq_do (v := .int .i32 (((((l.getD (i + 1) 0).toNat : Nat) : Int)) % 64)) hA rfl rfl rfl (does_convert rfl (ar_conv Try.underlying5 Try.underlying21 (in_i32 (by omega) (by omega)))) ?_
             intro a hA
             refine seq_do (v := .int .i32 ((((((l.getD i 0).toNat : Nat) : Int)) % 16) * 64 + (((((l.getD (i + 1) 0).toNat : Nat) : Int)) % 64))) hA rfl rfl rfl (does_bin rfl rfl (ar_or (or_six (by omega) (by omega) (by omega) (by omega)))) ?_
             intro a hA
             refine seq_do hA rfl rfl rfl (does_assign rfl) ?_
             intro a hA
             refine seq_end ?_
             refine hK134 _ _ ?_
             refine wp_region_lit ?_
             refine seq_do hA rfl rfl rfl (does_move rfl) ?_
             intro a hA
             refine seq_do (v := .int .i64 2) hA rfl rfl rfl (does_bin rfl rfl (fun w => by kernel_rfl)) ?_
             intro a hA
             refine seq_do hA rfl rfl rfl (does_assign rfl) ?_
             intro a hA
             refine seq_end ?_
             refine hK131 _ _ ?_
             refine rounds_k ?_
             intro K198 hK198
             refine wp_seq_k (fun K199 hK199 => ?_)
             refine wp_seq_k (fun K200 hK200 => ?_)
             refine wp_region_lit ?_
             refine seq_do hA rfl rfl rfl (does_move rfl) ?_
             intro a hA
             refine seq_do hA rfl rfl rfl (does_move rfl) ?_
             intro a hA
             refine seq_skip hA rfl rfl rfl ?_
             intro a hA
             refine seq_skip hA rfl rfl rfl ?_
             intro a hA
             refine seq_skip hA rfl rfl rfl ?_
             intro a hA
             refine seq_do (v := .bool false) hA rfl rfl rfl (does_pick rfl rfl rfl rfl) ?_
             intro a hA
             refine seq_end ?_
             refine hK200 _ _ ?_
             refine wp_cond_false (hA.ev rfl) ?_
             refine wp_exit ?_
             refine hK129 _ _ ?_
             refine wp_seq_k (fun K201 hK201 => ?_)
             refine wp_seq_k (fun K202 hK202 => ?_)
             refine wp_region_lit ?_
             refine seq_do hA rfl rfl rfl (does_move rfl) ?_
             intro a hA
             refine seq_do hA rfl rfl rfl (does_move rfl) ?_
             intro a hA
             refine seq_skip hA rfl rfl rfl ?_
             intro a hA
             refine seq_skip hA rfl rfl rfl ?_
             intro a hA
             refine seq_do (v := .bool false) hA rfl rfl rfl (does_pick rfl rfl rfl rfl) ?_
             intro a hA
             refine seq_end ?_
             refine hK202 _ _ ?_
             refine wp_cond_false (hA.ev rfl) ?_
             refine wp_skip ?_
             refine hK201 _ _ ?_
             refine wp_seq_k (fun K203 hK203 => ?_)
             refine wp_region_lit ?_
             refine seq_do hA rfl rfl rfl (does_move rfl) ?_
             intro a hA
             refine seq_end ?_
             refine hK203 _ _ ?_
             refine wp_cond_false (hA.ev rfl) ?_
             refine wp_seq_k (fun K204 hK204 => ?_)
             refine wp_region_lit ?_
             refine seq_do hA rfl rfl rfl (does_move rfl) ?_
             intro a hA
             refine seq_do hA rfl rfl rfl (does_move rfl) ?_
             intro a hA
             refine seq_do (v := .agg #[.int .i32 0, .bool true, .int .i64 (((i : Nat) : Int))]) hA rfl rfl rfl (does_build rfl (fun w => by kernel_rfl)) ?_
             intro a hA
             refine s_litE (e := 78) (sz := 3) (m := 1) (vs := [.int .i32 0, .bool true, .int .i64 (((i : Nat) : Int))]) hA hM rfl rfl rfl (does_buildSlice rfl (by kernel_rfl)) rfl rfl (.inl (by decide)) ?_
             intro g205 w206 hM a hA
             refine s_appendE (e := 78) (sz := 3) (k := 1) (q := acc.length) (m := 1) (xs := (unitV acc)) (news := [.int .i32 0, .bool true, .int .i64 (((i : Nat) : Int))]) (L' := fun v207 => (.row 78 3 (.slice (some ⟨g205, 0, none⟩) 1 1) 1 ([.int .i32 0, .bool true, .int .i64 (((i : Nat) : Int))]) :: .row 78 3 (v207) (acc.length + 1) ((unitV acc) ++ [.int .i32 0, .bool true, .int .i64 (((i : Nat) : Int))]) :: [])) hA rfl rfl rfl (m_appendE (z := .agg #[.int .i32 0, .bool false, .int .i64 0]) (sz := 3) (by_ := 16) Try.underlying75 (by kernel_rfl) rfl rfl rfl hM 1 rfl rfl 0 rfl rfl rfl rfl (by omega)) (fun _ => rfl) ?_
             intro v207 w208 hM a hA
             refine seq_do hA rfl rfl rfl (does_assign rfl) ?_
             intro a hA
             refine seq_end ?_
             refine hK204 _ _ ?_
             refine wp_region_lit ?_
             refine seq_do hA rfl rfl rfl (does_move rfl) ?_
             intro a hA
             refine seq_do (v := .int .i64 (((i + 1 : Nat) : Int))) hA rfl rfl rfl (does_bin rfl rfl (ar_add ((in_i64 (by omega) (by omega)).trans (by omega)))) ?_
             intro a hA
             refine seq_do hA rfl rfl rfl (does_assign rfl) ?_
             intro a hA
             refine seq_end ?_
             have hd : decodeN (l.length - i) (l.getD i 0).toNat (l.getD (i + 1) 0).toNat (l.getD (i + 2) 0).toNat (l.getD (i + 3) 0).toNat = (65533, 1) := by
               unfold Lib.decodeN
               repeat' split
               all_goals first | rfl | (exfalso; omega) | (refine Prod.ext ?_ rfl; show (_ : Nat) = _; omega)
             have hr9 : uR (65533) 1 = (-1) := by unfold uR; rw [if_pos ⟨rfl, by decide⟩]
             have hs9 := restU_step (show i < l.length by omega) hd
             rw [hr9] at hs9
             replace hM : Mg w w208 [.row 78 3 v207 (acc ++ [((i : Int), (-1))]).length (unitV (acc ++ [((i : Int), (-1))]))] := by
               have h9 := hM.sub (.cons _ (.cons_cons _ (.refl _)))
               have e9 : unitV (acc ++ [((i : Int), (-1))]) = unitV acc ++ [.int .i32 0, .bool true, .int .i64 (((i : Nat) : Int))] := by
                 unfold unitV
                 rw [List.flatMap_append, List.flatMap_singleton]
                 rw [if_pos rfl]
               rw [e9, List.length_append]
               exact h9
             refine hK8 _ _ _ (by omega) ⟨i + 1, acc ++ [((i : Int), (-1))], v207, rfl, ⟨by rw [← hrun, hs9, List.append_assoc]; rfl, by omega, by rw [List.length_append]; simp only [List.length_cons, List.length_nil]; omega⟩, hA.keep _ ⟨rfl, rfl, rfl, rfl, rfl, trivial⟩, hM⟩
         · have hb128' := of_decide_eq_false hb128
           refine seq_do (v := .bool false) hA rfl rfl rfl (does_bin rfl rfl (fun w => (bin_leq w).trans (by rw [hb128]))) ?_
           intro a hA
           refine seq_do (v := .bool false) hA rfl rfl rfl (does_pick rfl rfl rfl rfl) ?_
           intro a hA
           refine seq_do hA rfl rfl rfl (does_assign rfl) ?_
           intro a hA
           refine seq_end ?_
           refine hK127 _ _ ?_
           refine wp_seq_k (fun K209 hK209 => ?_)
           refine wp_seq_k (fun K210 hK210 => ?_)
           refine wp_region_lit ?_
           refine seq_do hA rfl rfl rfl (does_assign rfl) ?_
           intro a hA
           refine seq_end ?_
           refine hK210 _ _ ?_
           refine wp_block ?_
           refine wp_loop_rounds 5 ?_
           refine rounds_k ?_
           intro K211 hK211
           refine wp_seq_k (fun K212 hK212 => ?_)
           refine wp_seq_k (fun K213 hK213 => ?_)
           refine wp_region_lit ?_
           refine seq_do hA rfl rfl rfl (does_move rfl) ?_
           intro a hA
           refine seq_do hA rfl rfl rfl (does_move rfl) ?_
           intro a hA
           refine seq_skip hA rfl rfl rfl ?_
           intro a hA
           refine seq_skip hA rfl rfl rfl ?_
           intro a hA
           refine seq_skip hA rfl rfl rfl ?_
           intro a hA
           refine seq_do (v := .bool false) hA rfl rfl rfl (does_pick rfl rfl rfl rfl) ?_
           intro a hA
           refine seq_end ?_
           refine hK213 _ _ ?_
           refine wp_cond_false (hA.ev rfl) ?_
           refine wp_exit ?_
           refine hK209 _ _ ?_
           refine wp_seq_k (fun K214 hK214 => ?_)
           refine wp_seq_k (fun K215 hK215 => ?_)
           refine wp_region_lit ?_
           refine seq_do hA rfl rfl rfl (does_move rfl) ?_
           intro a hA
           refine seq_do hA rfl rfl rfl (does_move rfl) ?_
           intro a hA
           refine seq_skip hA rfl rfl rfl ?_
           intro a hA
           refine seq_skip hA rfl rfl rfl ?_
           intro a hA
           refine seq_do (v := .bool false) hA rfl rfl rfl (does_pick rfl rfl rfl rfl) ?_
           intro a hA
           refine seq_end ?_
           refine hK215 _ _ ?_
           refine wp_cond_false (hA.ev rfl) ?_
           refine wp_skip ?_
           refine hK214 _ _ ?_
           refine wp_seq_k (fun K216 hK216 => ?_)
           refine wp_region_lit ?_
           refine seq_do hA rfl rfl rfl (does_move rfl) ?_
           intro a hA
           refine seq_end ?_
           refine hK216 _ _ ?_
           refine wp_cond_false (hA.ev rfl) ?_
           refine wp_seq_k (fun K217 hK217 => ?_)
           refine wp_region_lit ?_
           refine seq_do hA rfl rfl rfl (does_move rfl) ?_
           intro a hA
           refine seq_do hA rfl rfl rfl (does_move rfl) ?_
           intro a hA
           refine seq_do (v := .agg #[.int .i32 0, .bool true, .int .i64 (((i : Nat) : Int))]) hA rfl rfl rfl (does_build rfl (fun w => by kernel_rfl)) ?_
           intro a hA
           refine s_litE (e := 78) (sz := 3) (m := 1) (vs := [.int .i32 0, .bool true, .int .i64 (((i : Nat) : Int))]) hA hM rfl rfl rfl (does_buildSlice rfl (by kernel_rfl)) rfl rfl (.inl (by decide)) ?_
           intro g218 w219 hM a hA
           refine s_appendE (e := 78) (sz := 3) (k := 1) (q := acc.length) (m := 1) (xs := (unitV acc)) (news := [.int .i32 0, .bool true, .int .i64 (((i : Nat) : Int))]) (L' := fun v220 => (.row 78 3 (.slice (some ⟨g218, 0, none⟩) 1 1) 1 ([.int .i32 0, .bool true, .int .i64 (((i : Nat) : Int))]) :: .row 78 3 (v220) (acc.length + 1) ((unitV acc) ++ [.int .i32 0, .bool true, .int .i64 (((i : Nat) : Int))]) :: [])) hA rfl rfl rfl (m_appendE (z := .agg #[.int .i32 0, .bool false, .int .i64 0]) (sz := 3) (by_ := 16) Try.underlying75 (by kernel_rfl) rfl rfl rfl hM 1 rfl rfl 0 rfl rfl rfl rfl (by omega)) (fun _ => rfl) ?_
           intro v220 w221 hM a hA
           refine seq_do hA rfl rfl rfl (does_assign rfl) ?_
           intro a hA
           refine seq_end ?_
           refine hK217 _ _ ?_
           refine wp_region_lit ?_
           refine seq_do hA rfl rfl rfl (does_move rfl) ?_
           intro a hA
           refine seq_do (v := .int .i64 (((i + 1 : Nat) : Int))) hA rfl rfl rfl (does_bin rfl rfl (ar_add ((in_i64 (by omega) (by omega)).trans (by omega)))) ?_
           intro a hA
           refine seq_do hA rfl rfl rfl (does_assign rfl) ?_
           intro a hA
           refine seq_end ?_
           have hd : decodeN (l.length - i) (l.getD i 0).toNat (l.getD (i + 1) 0).toNat (l.getD (i + 2) 0).toNat (l.getD (i + 3) 0).toNat = (65533, 1) := by
             unfold Lib.decodeN
             repeat' split
             all_goals first | rfl | (exfalso; omega) | (refine Prod.ext ?_ rfl; show (_ : Nat) = _; omega)
           have hr9 : uR (65533) 1 = (-1) := by unfold uR; rw [if_pos ⟨rfl, by decide⟩]
           have hs9 := restU_step (show i < l.length by omega) hd
           rw [hr9] at hs9
           replace hM : Mg w w221 [.row 78 3 v220 (acc ++ [((i : Int), (-1))]).length (unitV (acc ++ [((i : Int), (-1))]))] := by
             have h9 := hM.sub (.cons _ (.cons_cons _ (.refl _)))
             have e9 : unitV (acc ++ [((i : Int), (-1))]) = unitV acc ++ [.int .i32 0, .bool true, .int .i64 (((i : Nat) : Int))] := by
               unfold unitV
               rw [List.flatMap_append, List.flatMap_singleton]
               rw [if_pos rfl]
             rw [e9, List.length_append]
             exact h9
           refine hK8 _ _ _ (by omega) ⟨i + 1, acc ++ [((i : Int), (-1))], v220, rfl, ⟨by rw [← hrun, hs9, List.append_assoc]; rfl, by omega, by rw [List.length_append]; simp only [List.length_cons, List.length_nil]; omega⟩, hA.keep _ ⟨rfl, rfl, rfl, rfl, rfl, trivial⟩, hM⟩
       · have hb126' := ne_of_beq_false hb126
         refine seq_do (v := .bool false) hA rfl rfl rfl (does_bin rfl rfl (fun w => (bin_eql w).trans (by rw [hb126]))) ?_
         intro a hA
         refine seq_do hA rfl rfl rfl (does_assign rfl) ?_
         intro a hA
         refine seq_end ?_
         refine hK125 _ _ ?_
         refine wp_cond_false (hA.ev rfl) ?_
         refine wp_seq_k (fun K222 hK222 => ?_)
         refine wp_region_lit ?_
         refine seq_do hA rfl rfl rfl (does_move rfl) ?_
         intro a hA
         refine seq_do (v := .int .u8 (((((l.getD i 0).toNat : Nat) : Int)) / 8)) hA rfl rfl rfl (does_bin rfl rfl (ar_shr (n := 3) rfl rfl rfl)) ?_
         intro a hA
         rcases Bool.eq_false_or_eq_true ((((((l.getD i 0).toNat : Nat) : Int)) / 8 == 30)) with hb223 | hb223
         · have hb223' := eq_of_beq hb223
           refine seq_do (v := .bool true) hA rfl rfl rfl (does_bin rfl rfl (fun w => (bin_eql w).trans (by rw [hb223]))) ?_
           intro a hA
           refine seq_do hA rfl rfl rfl (does_assign rfl) ?_
           intro a hA
           refine seq_end ?_
           refine hK222 _ _ ?_
           refine wp_cond_true (hA.ev rfl) ?_
           refine wp_region_lit ?_
           refine seq_do hA rfl rfl rfl (does_move rfl) ?_
           intro a hA
           refine seq_do (v := .int .u8 (((((l.getD i 0).toNat : Nat) : Int)) % 8)) hA rfl rfl rfl (does_bin rfl rfl (ar_and (and_u8 3 7 rfl (by decide) (by omega) (by omega)))) ?_
           intro a hA
           refine seq_do (v := .int .i32 (((((l.getD i 0).toNat : Nat) : Int)) % 8)) hA rfl rfl rfl (does_convert rfl (ar_conv Try.underlying5 Try.underlying21 (in_i32 (by omega) (by omega)))) ?_
           intro a hA
           refine seq_do hA rfl rfl rfl (does_assign rfl) ?_
           intro a hA
           refine seq_do hA rfl rfl rfl (does_assign rfl) ?_
           intro a hA
           refine seq_end ?_
           refine hK15 _ _ ?_
           refine wp_seq_k (fun K224 hK224 => ?_)
           refine wp_region_lit ?_
           refine seq_do hA rfl rfl rfl (does_move rfl) ?_
           intro a hA
           refine seq_do (v := .bool true) hA rfl rfl rfl (does_bin rfl rfl (fun w => by kernel_rfl)) ?_
           intro a hA
           refine seq_do hA rfl rfl rfl (does_move rfl) ?_
           intro a hA
           refine seq_do hA rfl rfl rfl (does_move rfl) ?_
           intro a hA
           refine seq_do hA rfl rfl rfl (does_move rfl) ?_
           intro a hA
           refine seq_do (v := .int .i64 (((i + 4 : Nat) : Int))) hA rfl rfl rfl (does_bin rfl rfl (ar_add ((in_i64 (by omega) (by omega)).trans (by omega)))) ?_
           intro a hA
           refine seq_do hA rfl rfl rfl (does_move rfl) ?_
           intro a hA
           refine seq_do (v := .int .i64 (((l.length : Nat) : Int))) hA rfl rfl rfl (does_len Try.underlying24 rfl) ?_
           intro a hA
           rcases Bool.eq_false_or_eq_true (decide (((i + 4 : Nat) : Int) ≤ ((l.length : Nat) : Int))) with hb225 | hb225
           · have hb225' := of_decide_eq_true hb225
             refine seq_do (v := .bool true) hA rfl rfl rfl (does_bin rfl rfl (fun w => (bin_leq w).trans (by rw [hb225]))) ?_
             intro a hA
             refine seq_do (v := .bool true) hA rfl rfl rfl (does_pick rfl rfl rfl rfl) ?_
             intro a hA
             refine seq_do hA rfl rfl rfl (does_assign rfl) ?_
             intro a hA
             refine seq_end ?_
             refine hK224 _ _ ?_
             refine wp_seq_k (fun K226 hK226 => ?_)
             refine wp_seq_k (fun K227 hK227 => ?_)
             refine wp_region_lit ?_
             refine seq_do hA rfl rfl rfl (does_assign rfl) ?_
             intro a hA
             refine seq_end ?_
             refine hK227 _ _ ?_
             refine wp_block ?_
             refine wp_loop_rounds 5 ?_
             refine rounds_k ?_
             intro K228 hK228
             refine wp_seq_k (fun K229 hK229 => ?_)
             refine wp_seq_k (fun K230 hK230 => ?_)
             refine wp_region_lit ?_
             refine seq_do hA rfl rfl rfl (does_move rfl) ?_
             intro a hA
             refine seq_do hA rfl rfl rfl (does_move rfl) ?_
             intro a hA
             refine seq_do hA rfl rfl rfl (does_move rfl) ?_
             intro a hA
             refine seq_do hA rfl rfl rfl (does_move rfl) ?_
             intro a hA
             refine seq_do (v := .bool true) hA rfl rfl rfl (does_bin rfl rfl (fun w => by kernel_rfl)) ?_
             intro a hA
             refine seq_do (v := .bool true) hA rfl rfl rfl (does_pick rfl rfl rfl rfl) ?_
             intro a hA
             refine seq_end ?_
             refine hK230 _ _ ?_
             refine wp_cond_true (hA.ev rfl) ?_
             refine wp_skip ?_
             refine hK229 _ _ ?_
             refine wp_seq_k (fun K231 hK231 => ?_)
             refine wp_block ?_
             refine wp_seq_k (fun K232 hK232 => ?_)
             refine wp_region_lit ?_
             refine seq_do hA rfl rfl rfl (does_move rfl) ?_
             intro a hA
             refine seq_do hA rfl rfl rfl (does_move rfl) ?_
             intro a hA
             refine seq_do hA rfl rfl rfl (does_move rfl) ?_
             intro a hA
             refine seq_do (v := .int .i64 (((i + 1 : Nat) : Int))) hA rfl rfl rfl (does_bin rfl rfl (ar_add ((in_i64 (by omega) (by omega)).trans (by omega)))) ?_
             intro a hA
             refine seq_do (v := .pointer (some ⟨bx, ox + (i + 1), none⟩)) hA rfl rfl rfl (does_indexRow Try.underlying24 (by kernel_rfl) rfl rfl rfl hx1 (show i + 1 < l.length by omega)) ?_
             intro a hA
             refine seq_do (v := .int .u8 ((((l.getD (i + 1) 0).toNat : Nat) : Int))) hA rfl rfl rfl (m_loadR hM hx2 (hx3 (i + 1) (by omega)) CoZ_is1_5 rfl) ?_
             intro a hA
             have hu1 := (l.getD (i + 1) 0).toNat_lt
             refine seq_do hA rfl rfl rfl (does_assign rfl) ?_
             intro a hA
             refine seq_end ?_
             refine hK232 _ _ ?_
             refine wp_seq_k (fun K233 hK233 => ?_)
             refine wp_region_lit ?_
             refine seq_do hA rfl rfl rfl (does_move rfl) ?_
             intro a hA
             refine seq_do (v := .int .u8 (((((l.getD (i + 1) 0).toNat : Nat) : Int)) / 64)) hA rfl rfl rfl (does_bin rfl rfl (ar_shr (n := 6) rfl rfl rfl)) ?_
             intro a hA
             rcases Bool.eq_false_or_eq_true ((((((l.getD (i + 1) 0).toNat : Nat) : Int)) / 64 == 2)) with hb234 | hb234
             · have hb234' := eq_of_beq hb234
               refine seq_do (v := .bool true) hA rfl rfl rfl (does_bin rfl rfl (fun w => (bin_eql w).trans (by rw [hb234]))) ?_
               intro a hA
               refine seq_do hA rfl rfl rfl (does_assign rfl) ?_
               intro a hA
               refine seq_end ?_
               refine hK233 _ _ ?_
               refine wp_region_lit ?_
               refine seq_do hA rfl rfl rfl (does_move rfl) ?_
               intro a hA
               refine seq_do (v := .int .i32 ((((((l.getD i 0).toNat : Nat) : Int)) % 8) * 64)) hA rfl rfl rfl (does_bin rfl rfl (ar_shl (n := 6) rfl rfl (in_i32 (by omega) (by omega)))) ?_
               intro a hA
               refine seq_do hA rfl rfl rfl (does_move rfl) ?_
               intro a hA
               refine seq_do (v := .int .u8 (((((l.getD (i + 1) 0).toNat : Nat) : Int)) % 64)) hA rfl rfl rfl (does_bin rfl rfl (ar_and (and_u8 6 63 rfl (by decide) (by omega) (by omega)))) ?_
               intro a hA
               refine seq_do (v := .int .i32 (((((l.getD (i + 1) 0).toNat : Nat) : Int)) % 64)) hA rfl rfl rfl (does_convert rfl (ar_conv Try.underlying5 Try.underlying21 (in_i32 (by omega) (by omega)))) ?_
               intro a hA
               refine seq_do (v := .int .i32 ((((((l.getD i 0).toNat : Nat) : Int)) % 8) * 64 + (((((l.getD (i + 1) 0).toNat : Nat) : Int)) % 64))) hA rfl rfl rfl (does_bin rfl rfl (ar_or (or_six (by omega) (by omega) (by omega) (by omega)))) ?_
               intro a hA
               refine seq_do hA rfl rfl rfl (does_assign rfl) ?_
               intro a hA
               refine seq_end ?_
               refine hK231 _ _ ?_
               refine wp_region_lit ?_
               refine seq_do hA rfl rfl rfl (does_move rfl) ?_
               intro a hA
               refine seq_do (v := .int .i64 2) hA rfl rfl rfl (does_bin rfl rfl (fun w => by kernel_rfl)) ?_
               intro a hA
               refine seq_do hA rfl rfl rfl (does_assign rfl) ?_
               intro a hA
               refine seq_end ?_
               refine hK228 _ _ ?_
               refine rounds_k ?_
               intro K235 hK235
               refine wp_seq_k (fun K236 hK236 => ?_)
               refine wp_seq_k (fun K237 hK237 => ?_)
               refine wp_region_lit ?_
               refine seq_do hA rfl rfl rfl (does_move rfl) ?_
               intro a hA
               refine seq_do hA rfl rfl rfl (does_move rfl) ?_
               intro a hA
               refine seq_do hA rfl rfl rfl (does_move rfl) ?_
               intro a hA
               refine seq_do hA rfl rfl rfl (does_move rfl) ?_
               intro a hA
               refine seq_do (v := .bool true) hA rfl rfl rfl (does_bin rfl rfl (fun w => by kernel_rfl)) ?_
               intro a hA
               refine seq_do (v := .bool true) hA rfl rfl rfl (does_pick rfl rfl rfl rfl) ?_
               intro a hA
               refine seq_end ?_
               refine hK237 _ _ ?_
               refine wp_cond_true (hA.ev rfl) ?_
               refine wp_skip ?_
               refine hK236 _ _ ?_
               refine wp_seq_k (fun K238 hK238 => ?_)
               refine wp_block ?_
               refine wp_seq_k (fun K239 hK239 => ?_)
               refine wp_region_lit ?_
               refine seq_do hA rfl rfl rfl (does_move rfl) ?_
               intro a hA
               refine seq_do hA rfl rfl rfl (does_move rfl) ?_
               intro a hA
               refine seq_do hA rfl rfl rfl (does_move rfl) ?_
               intro a hA
               refine seq_do (v := .int .i64 (((i + 2 : Nat) : Int))) hA rfl rfl rfl (does_bin rfl rfl (ar_add ((in_i64 (by omega) (by omega)).trans (by omega)))) ?_
               intro a hA
               refine seq_do (v := .pointer (some ⟨bx, ox + (i + 2), none⟩)) hA rfl rfl rfl (does_indexRow Try.underlying24 (by kernel_rfl) rfl rfl rfl hx1 (show i + 2 < l.length by omega)) ?_
               intro a hA
               refine seq_do (v := .int .u8 ((((l.getD (i + 2) 0).toNat : Nat) : Int))) hA rfl rfl rfl (m_loadR hM hx2 (hx3 (i + 2) (by omega)) CoZ_is1_5 rfl) ?_
               intro a hA
               have hu2 := (l.getD (i + 2) 0).toNat_lt
               refine seq_do hA rfl rfl rfl (does_assign rfl) ?_
               intro a hA
               refine seq_end ?_
               refine hK239 _ _ ?_
               refine wp_seq_k (fun K240 hK240 => ?_)
               refine wp_region_lit ?_
               refine seq_do hA rfl rfl rfl (does_move rfl) ?_
               intro a hA
               refine seq_do (v := .int .u8 (((((l.getD (i + 2) 0).toNat : Nat) : Int)) / 64)) hA rfl rfl rfl (does_bin rfl rfl (ar_shr (n := 6) rfl rfl rfl)) ?_
               intro a hA
               rcases Bool.eq_false_or_eq_true ((((((l.getD (i + 2) 0).toNat : Nat) : Int)) / 64 == 2)) with hb241 | hb241
               · have hb241' := eq_of_beq hb241
                 refine seq_do (v := .bool true) hA rfl rfl rfl (does_bin rfl rfl (fun w => (bin_eql w).trans (by rw [hb241]))) ?_
                 intro a hA
                 refine seq_do hA rfl rfl rfl (does_assign rfl) ?_
                 intro a hA
                 refine seq_end ?_
                 refine hK240 _ _ ?_
                 refine wp_region_lit ?_
                 refine seq_do hA rfl rfl rfl (does_move rfl) ?_
                 intro a hA
                 refine seq_do (v := .int .i32 (((((((l.getD i 0).toNat : Nat) : Int)) % 8) * 64 + (((((l.getD (i + 1) 0).toNat : Nat) : Int)) % 64)) * 64)) hA rfl rfl rfl (does_bin rfl rfl (ar_shl (n := 6) rfl rfl (in_i32 (by omega) (by omega)))) ?_
                 intro a hA
                 refine seq_do hA rfl rfl rfl (does_move rfl) ?_
                 intro a hA
                 refine seq_do (v := .int .u8 (((((l.getD (i + 2) 0).toNat : Nat) : Int)) % 64)) hA rfl rfl rfl (does_bin rfl rfl (ar_and (and_u8 6 63 rfl (by decide) (by omega) (by omega)))) ?_
                 intro a hA
                 refine seq_do (v := .int .i32 (((((l.getD (i + 2) 0).toNat : Nat) : Int)) % 64)) hA rfl rfl rfl (does_convert rfl (ar_conv Try.underlying5 Try.underlying21 (in_i32 (by omega) (by omega)))) ?_
                 intro a hA
                 refine seq_do (v := .int .i32 (((((((l.getD i 0).toNat : Nat) : Int)) % 8) * 64 + (((((l.getD (i + 1) 0).toNat : Nat) : Int)) % 64)) * 64 + (((((l.getD (i + 2) 0).toNat : Nat) : Int)) % 64))) hA rfl rfl rfl (does_bin rfl rfl (ar_or (or_six (by omega) (by omega) (by omega) (by omega)))) ?_
                 intro a hA
                 refine seq_do hA rfl rfl rfl (does_assign rfl) ?_
                 intro a hA
                 refine seq_end ?_
                 refine hK238 _ _ ?_
                 refine wp_region_lit ?_
                 refine seq_do hA rfl rfl rfl (does_move rfl) ?_
                 intro a hA
                 refine seq_do (v := .int .i64 3) hA rfl rfl rfl (does_bin rfl rfl (fun w => by kernel_rfl)) ?_
                 intro a hA
                 refine seq_do hA rfl rfl rfl (does_assign rfl) ?_
                 intro a hA
                 refine seq_end ?_
                 refine hK235 _ _ ?_
                 refine rounds_k ?_
                 intro K242 hK242
                 refine wp_seq_k (fun K243 hK243 => ?_)
                 refine wp_seq_k (fun K244 hK244 => ?_)
                 refine wp_region_lit ?_
                 refine seq_do hA rfl rfl rfl (does_move rfl) ?_
                 intro a hA
                 refine seq_do hA rfl rfl rfl (does_move rfl) ?_
                 intro a hA
                 refine seq_do hA rfl rfl rfl (does_move rfl) ?_
                 intro a hA
                 refine seq_do hA rfl rfl rfl (does_move rfl) ?_
                 intro a hA
                 refine seq_do (v := .bool true) hA rfl rfl rfl (does_bin rfl rfl (fun w => by kernel_rfl)) ?_
                 intro a hA
                 refine seq_do (v := .bool true) hA rfl rfl rfl (does_pick rfl rfl rfl rfl) ?_
                 intro a hA
                 refine seq_end ?_
                 refine hK244 _ _ ?_
                 refine wp_cond_true (hA.ev rfl) ?_
                 refine wp_skip ?_
                 refine hK243 _ _ ?_
                 refine wp_seq_k (fun K245 hK245 => ?_)
                 refine wp_block ?_
                 refine wp_seq_k (fun K246 hK246 => ?_)
                 refine wp_region_lit ?_
                 refine seq_do hA rfl rfl rfl (does_move rfl) ?_
                 intro a hA
                 refine seq_do hA rfl rfl rfl (does_move rfl) ?_
                 intro a hA
                 refine seq_do hA rfl rfl rfl (does_move rfl) ?_
                 intro a hA
                 refine seq_do (v := .int .i64 (((i + 3 : Nat) : Int))) hA rfl rfl rfl (does_bin rfl rfl (ar_add ((in_i64 (by omega) (by omega)).trans (by omega)))) ?_
                 intro a hA
                 refine seq_do (v := .pointer (some ⟨bx, ox + (i + 3), none⟩)) hA rfl rfl rfl (does_indexRow Try.underlying24 (by kernel_rfl) rfl rfl rfl hx1 (show i + 3 < l.length by omega)) ?_
                 intro a hA
                 refine seq_do (v := .int .u8 ((((l.getD (i + 3) 0).toNat : Nat) : Int))) hA rfl rfl rfl (m_loadR hM hx2 (hx3 (i + 3) (by omega)) CoZ_is1_5 rfl) ?_
                 intro a hA
                 have hu3 := (l.getD (i + 3) 0).toNat_lt
                 refine seq_do hA rfl rfl rfl (does_assign rfl) ?_
                 intro a hA
                 refine seq_end ?_
                 refine hK246 _ _ ?_
                 refine wp_seq_k (fun K247 hK247 => ?_)
                 refine wp_region_lit ?_
                 refine seq_do hA rfl rfl rfl (does_move rfl) ?_
                 intro a hA
                 refine seq_do (v := .int .u8 (((((l.getD (i + 3) 0).toNat : Nat) : Int)) / 64)) hA rfl rfl rfl (does_bin rfl rfl (ar_shr (n := 6) rfl rfl rfl)) ?_
                 intro a hA
                 rcases Bool.eq_false_or_eq_true ((((((l.getD (i + 3) 0).toNat : Nat) : Int)) / 64 == 2)) with hb248 | hb248
                 · have hb248' := eq_of_beq hb248
                   refine seq_do (v := .bool true) hA rfl rfl rfl (does_bin rfl rfl (fun w => (bin_eql w).trans (by rw [hb248]))) ?_
                   intro a hA
                   refine seq_do hA rfl rfl rfl (does_assign rfl) ?_
                   intro a hA
                   refine seq_end ?_
                   refine hK247 _ _ ?_
                   refine wp_region_lit ?_
                   refine seq_do hA rfl rfl rfl (does_move rfl) ?_
                   intro a hA
                   refine seq_do (v := .int .i32 ((((((((l.getD i 0).toNat : Nat) : Int)) % 8) * 64 + (((((l.getD (i + 1) 0).toNat : Nat) : Int)) % 64)) * 64 + (((((l.getD (i + 2) 0).toNat : Nat) : Int)) % 64)) * 64)) hA rfl rfl rfl (does_bin rfl rfl (ar_shl (n := 6) rfl rfl (in_i32 (by omega) (by omega)))) ?_
                   intro a hA
                   refine seq_do hA rfl rfl rfl (does_move rfl) ?_
                   intro a hA
                   refine seq_do (v := .int .u8 (((((l.getD (i + 3) 0).toNat : Nat) : Int)) % 64)) hA rfl rfl rfl (does_bin rfl rfl (ar_and (and_u8 6 63 rfl (by decide) (by omega) (by omega)))) ?_
                   intro a hA
                   refine seq_do (v := .int .i32 (((((l.getD (i + 3) 0).toNat : Nat) : Int)) % 64)) hA rfl rfl rfl (does_convert rfl (ar_conv Try.underlying5 Try.underlying21 (in_i32 (by omega) (by omega)))) ?_
                   intro a hA
                   refine seq_do (v := .int .i32 ((((((((l.getD i 0).toNat : Nat) : Int)) % 8) * 64 + (((((l.getD (i + 1) 0).toNat : Nat) : Int)) % 64)) * 64 + (((((l.getD (i + 2) 0).toNat : Nat) : Int)) % 64)) * 64 + (((((l.getD (i + 3) 0).toNat : Nat) : Int)) % 64))) hA rfl rfl rfl (does_bin rfl rfl (ar_or (or_six (by omega) (by omega) (by omega) (by omega)))) ?_
                   intro a hA
                   refine seq_do hA rfl rfl rfl (does_assign rfl) ?_
                   intro a hA
                   refine seq_end ?_
                   refine hK245 _ _ ?_
                   refine wp_region_lit ?_
                   refine seq_do hA rfl rfl rfl (does_move rfl) ?_
                   intro a hA
                   refine seq_do (v := .int .i64 4) hA rfl rfl rfl (does_bin rfl rfl (fun w => by kernel_rfl)) ?_
                   intro a hA
                   refine seq_do hA rfl rfl rfl (does_assign rfl) ?_
                   intro a hA
                   refine seq_end ?_
                   refine hK242 _ _ ?_
                   refine rounds_k ?_
                   intro K249 hK249
                   refine wp_seq_k (fun K250 hK250 => ?_)
                   refine wp_seq_k (fun K251 hK251 => ?_)
                   refine wp_region_lit ?_
                   refine seq_do hA rfl rfl rfl (does_move rfl) ?_
                   intro a hA
                   refine seq_do hA rfl rfl rfl (does_move rfl) ?_
                   intro a hA
                   refine seq_do hA rfl rfl rfl (does_move rfl) ?_
                   intro a hA
                   refine seq_do hA rfl rfl rfl (does_move rfl) ?_
                   intro a hA
                   refine seq_do (v := .bool false) hA rfl rfl rfl (does_bin rfl rfl (fun w => by kernel_rfl)) ?_
                   intro a hA
                   refine seq_do (v := .bool false) hA rfl rfl rfl (does_pick rfl rfl rfl rfl) ?_
                   intro a hA
                   refine seq_end ?_
                   refine hK251 _ _ ?_
                   refine wp_cond_false (hA.ev rfl) ?_
                   refine wp_exit ?_
                   refine hK226 _ _ ?_
                   refine wp_seq_k (fun K252 hK252 => ?_)
                   refine wp_seq_k (fun K253 hK253 => ?_)
                   refine wp_region_lit ?_
                   refine seq_do hA rfl rfl rfl (does_move rfl) ?_
                   intro a hA
                   refine seq_do hA rfl rfl rfl (does_move rfl) ?_
                   intro a hA
                   refine seq_do hA rfl rfl rfl (does_move rfl) ?_
                   intro a hA
                   refine seq_do (v := .bool true) hA rfl rfl rfl (does_bin rfl rfl (fun w => by kernel_rfl)) ?_
                   intro a hA
                   refine seq_do (v := .bool true) hA rfl rfl rfl (does_pick rfl rfl rfl rfl) ?_
                   intro a hA
                   refine seq_end ?_
                   refine hK253 _ _ ?_
                   refine wp_cond_true (hA.ev rfl) ?_
                   refine wp_seq_k (fun K254 hK254 => ?_)
                   refine wp_region_lit ?_
                   refine s_litE (e := 21) (sz := 1) (m := 5) (vs := [.int .i32 0, .int .i32 0, .int .i32 128, .int .i32 2048, .int .i32 65536]) hA hM rfl rfl rfl (does_buildSlice rfl (by kernel_rfl)) rfl rfl (.inl (by decide)) ?_
                   intro g255 w256 hM a hA
                   refine seq_do hA rfl rfl rfl (does_assign rfl) ?_
                   intro a hA
                   refine seq_end ?_
                   refine hK254 _ _ ?_
                   refine wp_region_lit ?_
                   refine seq_do hA rfl rfl rfl (does_move rfl) ?_
                   intro a hA
                   refine seq_do hA rfl rfl rfl (does_move rfl) ?_
                   intro a hA
                   refine seq_do hA rfl rfl rfl (does_move rfl) ?_
                   intro a hA
                   refine seq_do (v := .pointer (some ⟨g255, 4, none⟩)) hA rfl rfl rfl (does_indexI rfl rfl (fun w => by kernel_rfl)) ?_
                   intro a hA
                   refine seq_do (v := .int .i32 65536) hA rfl rfl rfl (m_loadE hM 0 rfl rfl CoZ_is1_21 rfl) ?_
                   intro a hA
                   rcases Bool.eq_false_or_eq_true (decide (65536 ≤ (((((((l.getD i 0).toNat : Nat) : Int)) % 8) * 64 + (((((l.getD (i + 1) 0).toNat : Nat) : Int)) % 64)) * 64 + (((((l.getD (i + 2) 0).toNat : Nat) : Int)) % 64)) * 64 + (((((l.getD (i + 3) 0).toNat : Nat) : Int)) % 64))) with hb257 | hb257
                   · have hb257' := of_decide_eq_true hb257
                     refine seq_do (v := .bool true) hA rfl rfl rfl (does_bin rfl rfl (fun w => (bin_geq w).trans (by rw [hb257]))) ?_
                     intro a hA
                     refine seq_do hA rfl rfl rfl (does_move rfl) ?_
                     intro a hA
                     refine seq_do hA rfl rfl rfl (does_move rfl) ?_
                     intro a hA
                     rcases Bool.eq_false_or_eq_true (decide ((((((((l.getD i 0).toNat : Nat) : Int)) % 8) * 64 + (((((l.getD (i + 1) 0).toNat : Nat) : Int)) % 64)) * 64 + (((((l.getD (i + 2) 0).toNat : Nat) : Int)) % 64)) * 64 + (((((l.getD (i + 3) 0).toNat : Nat) : Int)) % 64) ≤ 1114111)) with hb258 | hb258
                     · have hb258' := of_decide_eq_true hb258
                       refine seq_do (v := .bool true) hA rfl rfl rfl (does_bin rfl rfl (fun w => (bin_leq w).trans (by rw [hb258]))) ?_
                       intro a hA
                       refine seq_do (v := .bool true) hA rfl rfl rfl (does_pick rfl rfl rfl rfl) ?_
                       intro a hA
                       refine seq_do hA rfl rfl rfl (does_move rfl) ?_
                       intro a hA
                       refine seq_do hA rfl rfl rfl (does_move rfl) ?_
                       intro a hA
                       rcases Bool.eq_false_or_eq_true (decide ((((((((l.getD i 0).toNat : Nat) : Int)) % 8) * 64 + (((((l.getD (i + 1) 0).toNat : Nat) : Int)) % 64)) * 64 + (((((l.getD (i + 2) 0).toNat : Nat) : Int)) % 64)) * 64 + (((((l.getD (i + 3) 0).toNat : Nat) : Int)) % 64) < 55296)) with hb259 | hb259
                       · have hb259' := of_decide_eq_true hb259
                         refine seq_do (v := .bool true) hA rfl rfl rfl (does_bin rfl rfl (fun w => (bin_lss w).trans (by rw [hb259]))) ?_
                         intro a hA
                         refine seq_do hA rfl rfl rfl (does_move rfl) ?_
                         intro a hA
                         refine seq_skip hA rfl rfl rfl ?_
                         intro a hA
                         refine seq_skip hA rfl rfl rfl ?_
                         intro a hA
                         refine seq_do (v := .bool true) hA rfl rfl rfl (does_pick rfl rfl rfl rfl) ?_
                         intro a hA
                         refine seq_do (v := .bool true) hA rfl rfl rfl (does_pick rfl rfl rfl rfl) ?_
                         intro a hA
                         refine seq_do hA rfl rfl rfl (does_assign rfl) ?_
                         intro a hA
                         refine seq_end ?_
                         refine hK252 _ _ ?_
                         refine wp_seq_k (fun K260 hK260 => ?_)
                         refine wp_region_lit ?_
                         refine seq_do hA rfl rfl rfl (does_move rfl) ?_
                         intro a hA
                         refine seq_end ?_
                         refine hK260 _ _ ?_
                         refine wp_cond_true (hA.ev rfl) ?_
                         refine wp_seq_k (fun K261 hK261 => ?_)
                         refine wp_region_lit ?_
                         refine seq_do hA rfl rfl rfl (does_move rfl) ?_
                         intro a hA
                         refine seq_do hA rfl rfl rfl (does_move rfl) ?_
                         intro a hA
                         refine seq_do hA rfl rfl rfl (does_move rfl) ?_
                         intro a hA
                         refine seq_do (v := .agg #[.int .i32 ((((((((l.getD i 0).toNat : Nat) : Int)) % 8) * 64 + (((((l.getD (i + 1) 0).toNat : Nat) : Int)) % 64)) * 64 + (((((l.getD (i + 2) 0).toNat : Nat) : Int)) % 64)) * 64 + (((((l.getD (i + 3) 0).toNat : Nat) : Int)) % 64)), .bool false, .int .i64 (((i : Nat) : Int))]) hA rfl rfl rfl (does_build rfl (fun w => by kernel_rfl)) ?_
                         intro a hA
                         refine s_litE (e := 78) (sz := 3) (m := 1) (vs := [.int .i32 ((((((((l.getD i 0).toNat : Nat) : Int)) % 8) * 64 + (((((l.getD (i + 1) 0).toNat : Nat) : Int)) % 64)) * 64 + (((((l.getD (i + 2) 0).toNat : Nat) : Int)) % 64)) * 64 + (((((l.getD (i + 3) 0).toNat : Nat) : Int)) % 64)), .bool false, .int .i64 (((i : Nat) : Int))]) hA hM rfl rfl rfl (does_buildSlice rfl (by kernel_rfl)) rfl rfl (.inl (by decide)) ?_
                         intro g262 w263 hM a hA
                         refine s_appendE (e := 78) (sz := 3) (k := 2) (q := acc.length) (m := 1) (xs := (unitV acc)) (news := [.int .i32 ((((((((l.getD i 0).toNat : Nat) : Int)) % 8) * 64 + (((((l.getD (i + 1) 0).toNat : Nat) : Int)) % 64)) * 64 + (((((l.getD (i + 2) 0).toNat : Nat) : Int)) % 64)) * 64 + (((((l.getD (i + 3) 0).toNat : Nat) : Int)) % 64)), .bool false, .int .i64 (((i : Nat) : Int))]) (L' := fun v264 => (.row 78 3 (.slice (some ⟨g262, 0, none⟩) 1 1) 1 ([.int .i32 ((((((((l.getD i 0).toNat : Nat) : Int)) % 8) * 64 + (((((l.getD (i + 1) 0).toNat : Nat) : Int)) % 64)) * 64 + (((((l.getD (i + 2) 0).toNat : Nat) : Int)) % 64)) * 64 + (((((l.getD (i + 3) 0).toNat : Nat) : Int)) % 64)), .bool false, .int .i64 (((i : Nat) : Int))]) :: .row 21 1 (.slice (some ⟨g255, 0, none⟩) 5 5) 5 ([.int .i32 0, .int .i32 0, .int .i32 128, .int .i32 2048, .int .i32 65536]) :: .row 78 3 (v264) (acc.length + 1) ((unitV acc) ++ [.int .i32 ((((((((l.getD i 0).toNat : Nat) : Int)) % 8) * 64 + (((((l.getD (i + 1) 0).toNat : Nat) : Int)) % 64)) * 64 + (((((l.getD (i + 2) 0).toNat : Nat) : Int)) % 64)) * 64 + (((((l.getD (i + 3) 0).toNat : Nat) : Int)) % 64)), .bool false, .int .i64 (((i : Nat) : Int))]) :: [])) hA rfl rfl rfl (m_appendE (z := .agg #[.int .i32 0, .bool false, .int .i64 0]) (sz := 3) (by_ := 16) Try.underlying75 (by kernel_rfl) rfl rfl rfl hM 2 rfl rfl 0 rfl rfl rfl rfl (by omega)) (fun _ => rfl) ?_
                         intro v264 w265 hM a hA
                         refine seq_do hA rfl rfl rfl (does_assign rfl) ?_
                         intro a hA
                         refine seq_end ?_
                         refine hK261 _ _ ?_
                         refine wp_region_lit ?_
                         refine seq_do hA rfl rfl rfl (does_move rfl) ?_
                         intro a hA
                         refine seq_do hA rfl rfl rfl (does_move rfl) ?_
                         intro a hA
                         refine seq_do (v := .int .i64 (((i + 4 : Nat) : Int))) hA rfl rfl rfl (does_bin rfl rfl (ar_add ((in_i64 (by omega) (by omega)).trans (by omega)))) ?_
                         intro a hA
                         refine seq_do hA rfl rfl rfl (does_assign rfl) ?_
                         intro a hA
                         refine seq_end ?_
                         have hd : decodeN (l.length - i) (l.getD i 0).toNat (l.getD (i + 1) 0).toNat (l.getD (i + 2) 0).toNat (l.getD (i + 3) 0).toNat = (((((((((l.getD i 0).toNat : Nat) : Int)) % 8) * 64 + (((((l.getD (i + 1) 0).toNat : Nat) : Int)) % 64)) * 64 + (((((l.getD (i + 2) 0).toNat : Nat) : Int)) % 64)) * 64 + (((((l.getD (i + 3) 0).toNat : Nat) : Int)) % 64)).toNat, 4) := by
                           unfold Lib.decodeN
                           repeat' split
                           all_goals first | rfl | (exfalso; omega) | (refine Prod.ext ?_ rfl; show (_ : Nat) = _; omega)
                         have hr9 : uR (((((((((l.getD i 0).toNat : Nat) : Int)) % 8) * 64 + (((((l.getD (i + 1) 0).toNat : Nat) : Int)) % 64)) * 64 + (((((l.getD (i + 2) 0).toNat : Nat) : Int)) % 64)) * 64 + (((((l.getD (i + 3) 0).toNat : Nat) : Int)) % 64)).toNat) 4 = ((((((((l.getD i 0).toNat : Nat) : Int)) % 8) * 64 + (((((l.getD (i + 1) 0).toNat : Nat) : Int)) % 64)) * 64 + (((((l.getD (i + 2) 0).toNat : Nat) : Int)) % 64)) * 64 + (((((l.getD (i + 3) 0).toNat : Nat) : Int)) % 64)) := by unfold uR; rw [if_neg (by omega)]; omega
                         have hs9 := restU_step (show i < l.length by omega) hd
                         rw [hr9] at hs9
                         replace hM : Mg w w265 [.row 78 3 v264 (acc ++ [((i : Int), ((((((((l.getD i 0).toNat : Nat) : Int)) % 8) * 64 + (((((l.getD (i + 1) 0).toNat : Nat) : Int)) % 64)) * 64 + (((((l.getD (i + 2) 0).toNat : Nat) : Int)) % 64)) * 64 + (((((l.getD (i + 3) 0).toNat : Nat) : Int)) % 64)))]).length (unitV (acc ++ [((i : Int), ((((((((l.getD i 0).toNat : Nat) : Int)) % 8) * 64 + (((((l.getD (i + 1) 0).toNat : Nat) : Int)) % 64)) * 64 + (((((l.getD (i + 2) 0).toNat : Nat) : Int)) % 64)) * 64 + (((((l.getD (i + 3) 0).toNat : Nat) : Int)) % 64)))]))] := by
                           have h9 := hM.sub (.cons _ (.cons _ (.cons_cons _ (.refl _))))
                           have e9 : unitV (acc ++ [((i : Int), ((((((((l.getD i 0).toNat : Nat) : Int)) % 8) * 64 + (((((l.getD (i + 1) 0).toNat : Nat) : Int)) % 64)) * 64 + (((((l.getD (i + 2) 0).toNat : Nat) : Int)) % 64)) * 64 + (((((l.getD (i + 3) 0).toNat : Nat) : Int)) % 64)))]) = unitV acc ++ [.int .i32 ((((((((l.getD i 0).toNat : Nat) : Int)) % 8) * 64 + (((((l.getD (i + 1) 0).toNat : Nat) : Int)) % 64)) * 64 + (((((l.getD (i + 2) 0).toNat : Nat) : Int)) % 64)) * 64 + (((((l.getD (i + 3) 0).toNat : Nat) : Int)) % 64)), .bool false, .int .i64 (((i : Nat) : Int))] := by
                             unfold unitV
                             rw [List.flatMap_append, List.flatMap_singleton]
                             rw [if_neg (show ¬ _ = (-1 : Int) by simp only; omega)]
                           rw [e9, List.length_append]
                           exact h9
                         refine hK8 _ _ _ (by omega) ⟨i + 4, acc ++ [((i : Int), ((((((((l.getD i 0).toNat : Nat) : Int)) % 8) * 64 + (((((l.getD (i + 1) 0).toNat : Nat) : Int)) % 64)) * 64 + (((((l.getD (i + 2) 0).toNat : Nat) : Int)) % 64)) * 64 + (((((l.getD (i + 3) 0).toNat : Nat) : Int)) % 64)))], v264, rfl, ⟨by rw [← hrun, hs9, List.append_assoc]; rfl, by omega, by rw [List.length_append]; simp only [List.length_cons, List.length_nil]; omega⟩, hA.keep _ ⟨rfl, rfl, rfl, rfl, rfl, trivial⟩, hM⟩
                       · have hb259' := of_decide_eq_false hb259
                         refine seq_do (v := .bool false) hA rfl rfl rfl (does_bin rfl rfl (fun w => (bin_lss w).trans (by rw [hb259]))) ?_
                         intro a hA
                         refine seq_do hA rfl rfl rfl (does_move rfl) ?_
                         intro a hA
                         refine seq_do hA rfl rfl rfl (does_move rfl) ?_
                         intro a hA
                         rcases Bool.eq_false_or_eq_true (decide (57343 < (((((((l.getD i 0).toNat : Nat) : Int)) % 8) * 64 + (((((l.getD (i + 1) 0).toNat : Nat) : Int)) % 64)) * 64 + (((((l.getD (i + 2) 0).toNat : Nat) : Int)) % 64)) * 64 + (((((l.getD (i + 3) 0).toNat : Nat) : Int)) % 64))) with hb266 | hb266
                         · have hb266' := of_decide_eq_true hb266
                           refine seq_do (v := .bool true) hA rfl rfl rfl (does_bin rfl rfl (fun w => (bin_gtr w).trans (by rw [hb266]))) ?_
                           intro a hA
                           refine seq_do (v := .bool true) hA rfl rfl rfl (does_pick rfl rfl rfl rfl) ?_
                           intro a hA
                           refine seq_do (v := .bool true) hA rfl rfl rfl (does_pick rfl rfl rfl rfl) ?_
                           intro a hA
                           refine seq_do hA rfl rfl rfl (does_assign rfl) ?_
                           intro a hA
                           refine seq_end ?_
                           refine hK252 _ _ ?_
                           refine wp_seq_k (fun K267 hK267 => ?_)
                           refine wp_region_lit ?_
                           refine seq_do hA rfl rfl rfl (does_move rfl) ?_
                           intro a hA
                           refine seq_end ?_
                           refine hK267 _ _ ?_
                           refine wp_cond_true (hA.ev rfl) ?_
                           refine wp_seq_k (fun K268 hK268 => ?_)
                           refine wp_region_lit ?_
                           refine seq_do hA rfl rfl rfl (does_move rfl) ?_
                           intro a hA
                           refine seq_do hA rfl rfl rfl (does_move rfl) ?_
                           intro a hA
                           refine seq_do hA rfl rfl rfl (does_move rfl) ?_
                           intro a hA
                           refine seq_do (v := .agg #[.int .i32 ((((((((l.getD i 0).toNat : Nat) : Int)) % 8) * 64 + (((((l.getD (i + 1) 0).toNat : Nat) : Int)) % 64)) * 64 + (((((l.getD (i + 2) 0).toNat : Nat) : Int)) % 64)) * 64 + (((((l.getD (i + 3) 0).toNat : Nat) : Int)) % 64)), .bool false, .int .i64 (((i : Nat) : Int))]) hA rfl rfl rfl (does_build rfl (fun w => by kernel_rfl)) ?_
                           intro a hA
                           refine s_litE (e := 78) (sz := 3) (m := 1) (vs := [.int .i32 ((((((((l.getD i 0).toNat : Nat) : Int)) % 8) * 64 + (((((l.getD (i + 1) 0).toNat : Nat) : Int)) % 64)) * 64 + (((((l.getD (i + 2) 0).toNat : Nat) : Int)) % 64)) * 64 + (((((l.getD (i + 3) 0).toNat : Nat) : Int)) % 64)), .bool false, .int .i64 (((i : Nat) : Int))]) hA hM rfl rfl rfl (does_buildSlice rfl (by kernel_rfl)) rfl rfl (.inl (by decide)) ?_
                           intro g269 w270 hM a hA
                           refine s_appendE (e := 78) (sz := 3) (k := 2) (q := acc.length) (m := 1) (xs := (unitV acc)) (news := [.int .i32 ((((((((l.getD i 0).toNat : Nat) : Int)) % 8) * 64 + (((((l.getD (i + 1) 0).toNat : Nat) : Int)) % 64)) * 64 + (((((l.getD (i + 2) 0).toNat : Nat) : Int)) % 64)) * 64 + (((((l.getD (i + 3) 0).toNat : Nat) : Int)) % 64)), .bool false, .int .i64 (((i : Nat) : Int))]) (L' := fun v271 => (.row 78 3 (.slice (some ⟨g269, 0, none⟩) 1 1) 1 ([.int .i32 ((((((((l.getD i 0).toNat : Nat) : Int)) % 8) * 64 + (((((l.getD (i + 1) 0).toNat : Nat) : Int)) % 64)) * 64 + (((((l.getD (i + 2) 0).toNat : Nat) : Int)) % 64)) * 64 + (((((l.getD (i + 3) 0).toNat : Nat) : Int)) % 64)), .bool false, .int .i64 (((i : Nat) : Int))]) :: .row 21 1 (.slice (some ⟨g255, 0, none⟩) 5 5) 5 ([.int .i32 0, .int .i32 0, .int .i32 128, .int .i32 2048, .int .i32 65536]) :: .row 78 3 (v271) (acc.length + 1) ((unitV acc) ++ [.int .i32 ((((((((l.getD i 0).toNat : Nat) : Int)) % 8) * 64 + (((((l.getD (i + 1) 0).toNat : Nat) : Int)) % 64)) * 64 + (((((l.getD (i + 2) 0).toNat : Nat) : Int)) % 64)) * 64 + (((((l.getD (i + 3) 0).toNat : Nat) : Int)) % 64)), .bool false, .int .i64 (((i : Nat) : Int))]) :: [])) hA rfl rfl rfl (m_appendE (z := .agg #[.int .i32 0, .bool false, .int .i64 0]) (sz := 3) (by_ := 16) Try.underlying75 (by kernel_rfl) rfl rfl rfl hM 2 rfl rfl 0 rfl rfl rfl rfl (by omega)) (fun _ => rfl) ?_
                           intro v271 w272 hM a hA
                           refine seq_do hA rfl rfl rfl (does_assign rfl) ?_
                           intro a hA
                           refine seq_end ?_
                           refine hK268 _ _ ?_
                           refine wp_region_lit ?_
                           refine seq_do hA rfl rfl rfl (does_move rfl) ?_
                           intro a hA
                           refine seq_do hA rfl rfl rfl (does_move rfl) ?_
                           intro a hA
                           refine seq_do (v := .int .i64 (((i + 4 : Nat) : Int))) hA rfl rfl rfl (does_bin rfl rfl (ar_add ((in_i64 (by omega) (by omega)).trans (by omega)))) ?_
                           intro a hA
                           refine seq_do hA rfl rfl rfl (does_assign rfl) ?_
                           intro a hA
                           refine seq_end ?_
                           have hd : decodeN (l.length - i) (l.getD i 0).toNat (l.getD (i + 1) 0).toNat (l.getD (i + 2) 0).toNat (l.getD (i + 3) 0).toNat = (((((((((l.getD i 0).toNat : Nat) : Int)) % 8) * 64 + (((((l.getD (i + 1) 0).toNat : Nat) : Int)) % 64)) * 64 + (((((l.getD (i + 2) 0).toNat : Nat) : Int)) % 64)) * 64 + (((((l.getD (i + 3) 0).toNat : Nat) : Int)) % 64)).toNat, 4) := by
                             unfold Lib.decodeN
                             repeat' split
                             all_goals first | rfl | (exfalso; omega) | (refine Prod.ext ?_ rfl; show (_ : Nat) = _; omega)
                           have hr9 : uR (((((((((l.getD i 0).toNat : Nat) : Int)) % 8) * 64 + (((((l.getD (i + 1) 0).toNat : Nat) : Int)) % 64)) * 64 + (((((l.getD (i + 2) 0).toNat : Nat) : Int)) % 64)) * 64 + (((((l.getD (i + 3) 0).toNat : Nat) : Int)) % 64)).toNat) 4 = ((((((((l.getD i 0).toNat : Nat) : Int)) % 8) * 64 + (((((l.getD (i + 1) 0).toNat : Nat) : Int)) % 64)) * 64 + (((((l.getD (i + 2) 0).toNat : Nat) : Int)) % 64)) * 64 + (((((l.getD (i + 3) 0).toNat : Nat) : Int)) % 64)) := by unfold uR; rw [if_neg (by omega)]; omega
                           have hs9 := restU_step (show i < l.length by omega) hd
                           rw [hr9] at hs9
                           replace hM : Mg w w272 [.row 78 3 v271 (acc ++ [((i : Int), ((((((((l.getD i 0).toNat : Nat) : Int)) % 8) * 64 + (((((l.getD (i + 1) 0).toNat : Nat) : Int)) % 64)) * 64 + (((((l.getD (i + 2) 0).toNat : Nat) : Int)) % 64)) * 64 + (((((l.getD (i + 3) 0).toNat : Nat) : Int)) % 64)))]).length (unitV (acc ++ [((i : Int), ((((((((l.getD i 0).toNat : Nat) : Int)) % 8) * 64 + (((((l.getD (i + 1) 0).toNat : Nat) : Int)) % 64)) * 64 + (((((l.getD (i + 2) 0).toNat : Nat) : Int)) % 64)) * 64 + (((((l.getD (i + 3) 0).toNat : Nat) : Int)) % 64)))]))] := by
                             have h9 := hM.sub (.cons _ (.cons _ (.cons_cons _ (.refl _))))
                             have e9 : unitV (acc ++ [((i : Int), ((((((((l.getD i 0).toNat : Nat) : Int)) % 8) * 64 + (((((l.getD (i + 1) 0).toNat : Nat) : Int)) % 64)) * 64 + (((((l.getD (i + 2) 0).toNat : Nat) : Int)) % 64)) * 64 + (((((l.getD (i + 3) 0).toNat : Nat) : Int)) % 64)))]) = unitV acc ++ [.int .i32 ((((((((l.getD i 0).toNat : Nat) : Int)) % 8) * 64 + (((((l.getD (i + 1) 0).toNat : Nat) : Int)) % 64)) * 64 + (((((l.getD (i + 2) 0).toNat : Nat) : Int)) % 64)) * 64 + (((((l.getD (i + 3) 0).toNat : Nat) : Int)) % 64)), .bool false, .int .i64 (((i : Nat) : Int))] := by
                               unfold unitV
                               rw [List.flatMap_append, List.flatMap_singleton]
                               rw [if_neg (show ¬ _ = (-1 : Int) by simp only; omega)]
                             rw [e9, List.length_append]
                             exact h9
                           refine hK8 _ _ _ (by omega) ⟨i + 4, acc ++ [((i : Int), ((((((((l.getD i 0).toNat : Nat) : Int)) % 8) * 64 + (((((l.getD (i + 1) 0).toNat : Nat) : Int)) % 64)) * 64 + (((((l.getD (i + 2) 0).toNat : Nat) : Int)) % 64)) * 64 + (((((l.getD (i + 3) 0).toNat : Nat) : Int)) % 64)))], v271, rfl, ⟨by rw [← hrun, hs9, List.append_assoc]; rfl, by omega, by rw [List.length_append]; simp only [List.length_cons, List.length_nil]; omega⟩, hA.keep _ ⟨rfl, rfl, rfl, rfl, rfl, trivial⟩, hM⟩
                         · have hb266' := of_decide_eq_false hb266
                           refine seq_do (v := .bool false) hA rfl rfl rfl (does_bin rfl rfl (fun w => (bin_gtr w).trans (by rw [hb266]))) ?_
                           intro a hA
                           refine seq_do (v := .bool false) hA rfl rfl rfl (does_pick rfl rfl rfl rfl) ?_
                           intro a hA
                           refine seq_do (v := .bool false) hA rfl rfl rfl (does_pick rfl rfl rfl rfl) ?_
                           intro a hA
                           refine seq_do hA rfl rfl rfl (does_assign rfl) ?_
                           intro a hA
                           refine seq_end ?_
                           refine hK252 _ _ ?_
                           refine wp_seq_k (fun K273 hK273 => ?_)
                           refine wp_region_lit ?_
                           refine seq_do hA rfl rfl rfl (does_move rfl) ?_
                           intro a hA
                           refine seq_end ?_
                           refine hK273 _ _ ?_
                           refine wp_cond_false (hA.ev rfl) ?_
                           refine wp_seq_k (fun K274 hK274 => ?_)
                           refine wp_region_lit ?_
                           refine seq_do hA rfl rfl rfl (does_move rfl) ?_
                           intro a hA
                           refine seq_do hA rfl rfl rfl (does_move rfl) ?_
                           intro a hA
                           refine seq_do (v := .agg #[.int .i32 0, .bool true, .int .i64 (((i : Nat) : Int))]) hA rfl rfl rfl (does_build rfl (fun w => by kernel_rfl)) ?_
                           intro a hA
                           refine s_litE (e := 78) (sz := 3) (m := 1) (vs := [.int .i32 0, .bool true, .int .i64 (((i : Nat) : Int))]) hA hM rfl rfl rfl (does_buildSlice rfl (by kernel_rfl)) rfl rfl (.inl (by decide)) ?_
                           intro g275 w276 hM a hA
                           refine s_appendE (e := 78) (sz := 3) (k := 2) (q := acc.length) (m := 1) (xs := (unitV acc)) (news := [.int .i32 0, .bool true, .int .i64 (((i : Nat) : Int))]) (L' := fun v277 => (.row 78 3 (.slice (some ⟨g275, 0, none⟩) 1 1) 1 ([.int .i32 0, .bool true, .int .i64 (((i : Nat) : Int))]) :: .row 21 1 (.slice (some ⟨g255, 0, none⟩) 5 5) 5 ([.int .i32 0, .int .i32 0, .int .i32 128, .int .i32 2048, .int .i32 65536]) :: .row 78 3 (v277) (acc.length + 1) ((unitV acc) ++ [.int .i32 0, .bool true, .int .i64 (((i : Nat) : Int))]) :: [])) hA rfl rfl rfl (m_appendE (z := .agg #[.int .i32 0, .bool false, .int .i64 0]) (sz := 3) (by_ := 16) Try.underlying75 (by kernel_rfl) rfl rfl rfl hM 2 rfl rfl 0 rfl rfl rfl rfl (by omega)) (fun _ => rfl) ?_
                           intro v277 w278 hM a hA
                           refine seq_do hA rfl rfl rfl (does_assign rfl) ?_
                           intro a hA
                           refine seq_end ?_
                           refine hK274 _ _ ?_
                           refine wp_region_lit ?_
                           refine seq_do hA rfl rfl rfl (does_move rfl) ?_
                           intro a hA
                           refine seq_do (v := .int .i64 (((i + 1 : Nat) : Int))) hA rfl rfl rfl (does_bin rfl rfl (ar_add ((in_i64 (by omega) (by omega)).trans (by omega)))) ?_
                           intro a hA
                           refine seq_do hA rfl rfl rfl (does_assign rfl) ?_
                           intro a hA
                           refine seq_end ?_
                           have hd : decodeN (l.length - i) (l.getD i 0).toNat (l.getD (i + 1) 0).toNat (l.getD (i + 2) 0).toNat (l.getD (i + 3) 0).toNat = (65533, 1) := by
                             unfold Lib.decodeN
                             repeat' split
                             all_goals first | rfl | (exfalso; omega) | (refine Prod.ext ?_ rfl; show (_ : Nat) = _; omega)
                           have hr9 : uR (65533) 1 = (-1) := by unfold uR; rw [if_pos ⟨rfl, by decide⟩]
                           have hs9 := restU_step (show i < l.length by omega) hd
                           rw [hr9] at hs9
                           replace hM : Mg w w278 [.row 78 3 v277 (acc ++ [((i : Int), (-1))]).length (unitV (acc ++ [((i : Int), (-1))]))] := by
                             have h9 := hM.sub (.cons _ (.cons _ (.cons_cons _ (.refl _))))
                             have e9 : unitV (acc ++ [((i : Int), (-1))]) = unitV acc ++ [.int .i32 0, .bool true, .int .i64 (((i : Nat) : Int))] := by
                               unfold unitV
                               rw [List.flatMap_append, List.flatMap_singleton]
                               rw [if_pos rfl]
                             rw [e9, List.length_append]
                             exact h9
                           refine hK8 _ _ _ (by omega) ⟨i + 1, acc ++ [((i : Int), (-1))], v277, rfl, ⟨by rw [← hrun, hs9, List.append_assoc]; rfl, by omega, by rw [List.length_append]; simp only [List.length_cons, List.length_nil]; omega⟩, hA.keep _ ⟨rfl, rfl, rfl, rfl, rfl, trivial⟩, hM⟩
                     · have hb258' := of_decide_eq_false hb258
                       refine seq_do (v := .bool false) hA rfl rfl rfl (does_bin rfl rfl (fun w => (bin_leq w).trans (by rw [hb258]))) ?_
                       intro a hA
                       refine seq_do (v := .bool false) hA rfl rfl rfl (does_pick rfl rfl rfl rfl) ?_
                       intro a hA
                       refine seq_do hA rfl rfl rfl (does_move rfl) ?_
                       intro a hA
                       refine seq_skip hA rfl rfl rfl ?_
                       intro a hA
                       refine seq_skip hA rfl rfl rfl ?_
                       intro a hA
                       refine seq_skip hA rfl rfl rfl ?_
                       intro a hA
                       refine seq_skipU hA rfl rfl rfl ?_
                       intro a hA
                       refine seq_skipU hA rfl rfl rfl ?_
                       intro a hA
                       refine seq_skip hA rfl rfl rfl ?_
                       intro a hA
                       refine seq_do (v := .bool false) hA rfl rfl rfl (does_pick rfl rfl rfl rfl) ?_
                       intro a hA
                       refine seq_do hA rfl rfl rfl (does_assign rfl) ?_
                       intro a hA
                       refine seq_end ?_
                       refine hK252 _ _ ?_
                       refine wp_seq_k (fun K279 hK279 => ?_)
                       refine wp_region_lit ?_
                       refine seq_do hA rfl rfl rfl (does_move rfl) ?_
                       intro a hA
                       refine seq_end ?_
                       refine hK279 _ _ ?_
                       refine wp_cond_false (hA.ev rfl) ?_
                       refine wp_seq_k (fun K280 hK280 => ?_)
                       refine wp_region_lit ?_
                       refine seq_do hA rfl rfl rfl (does_move rfl) ?_
                       intro a hA
                       refine seq_do hA rfl rfl rfl (does_move rfl) ?_
                       intro a hA
                       refine seq_do (v := .agg #[.int .i32 0, .bool true, .int .i64 (((i : Nat) : Int))]) hA rfl rfl rfl (does_build rfl (fun w => by kernel_rfl)) ?_
                       intro a hA
                       refine s_litE (e := 78) (sz := 3) (m := 1) (vs := [.int .i32 0, .bool true, .int .i64 (((i : Nat) : Int))]) hA hM rfl rfl rfl (does_buildSlice rfl (by kernel_rfl)) rfl rfl (.inl (by decide)) ?_
                       intro g281 w282 hM a hA
                       refine s_appendE (e := 78) (sz := 3) (k := 2) (q := acc.length) (m := 1) (xs := (unitV acc)) (news := [.int .i32 0, .bool true, .int .i64 (((i : Nat) : Int))]) (L' := fun v283 => (.row 78 3 (.slice (some ⟨g281, 0, none⟩) 1 1) 1 ([.int .i32 0, .bool true, .int .i64 (((i : Nat) : Int))]) :: .row 21 1 (.slice (some ⟨g255, 0, none⟩) 5 5) 5 ([.int .i32 0, .int .i32 0, .int .i32 128, .int .i32 2048, .int .i32 65536]) :: .row 78 3 (v283) (acc.length + 1) ((unitV acc) ++ [.int .i32 0, .bool true, .int .i64 (((i : Nat) : Int))]) :: [])) hA rfl rfl rfl (m_appendE (z := .agg #[.int .i32 0, .bool false, .int .i64 0]) (sz := 3) (by_ := 16) Try.underlying75 (by kernel_rfl) rfl rfl rfl hM 2 rfl rfl 0 rfl rfl rfl rfl (by omega)) (fun _ => rfl) ?_
                       intro v283 w284 hM a hA
                       refine seq_do hA rfl rfl rfl (does_assign rfl) ?_
                       intro a hA
                       refine seq_end ?_
                       refine hK280 _ _ ?_
                       refine wp_region_lit ?_
                       refine seq_do hA rfl rfl rfl (does_move rfl) ?_
                       intro a hA
                       refine seq_do (v := .int .i64 (((i + 1 : Nat) : Int))) hA rfl rfl rfl (does_bin rfl rfl (ar_add ((in_i64 (by omega) (by omega)).trans (by omega)))) ?_
                       intro a hA
                       refine seq_do hA rfl rfl rfl (does_assign rfl) ?_
                       intro a hA
                       refine seq_end ?_
                       have hd : decodeN (l.length - i) (l.getD i 0).toNat (l.getD (i + 1) 0).toNat (l.getD (i + 2) 0).toNat (l.getD (i + 3) 0).toNat = (65533, 1) := by
                         unfold Lib.decodeN
                         repeat' split
                         all_goals first | rfl | (exfalso; omega) | (refine Prod.ext ?_ rfl; show (_ : Nat) = _; omega)
                       have hr9 : uR (65533) 1 = (-1) := by unfold uR; rw [if_pos ⟨rfl, by decide⟩]
                       have hs9 := restU_step (show i < l.length by omega) hd
                       rw [hr9] at hs9
                       replace hM : Mg w w284 [.row 78 3 v283 (acc ++ [((i : Int), (-1))]).length (unitV (acc ++ [((i : Int), (-1))]))] := by
                         have h9 := hM.sub (.cons _ (.cons _ (.cons_cons _ (.refl _))))
                         have e9 : unitV (acc ++ [((i : Int), (-1))]) = unitV acc ++ [.int .i32 0, .bool true, .int .i64 (((i : Nat) : Int))] := by
                           unfold unitV
                           rw [List.flatMap_append, List.flatMap_singleton]
                           rw [if_pos rfl]
                         rw [e9, List.length_append]
                         exact h9
                       refine hK8 _ _ _ (by omega) ⟨i + 1, acc ++ [((i : Int), (-1))], v283, rfl, ⟨by rw [← hrun, hs9, List.append_assoc]; rfl, by omega, by rw [List.length_append]; simp only [List.length_cons, List.length_nil]; omega⟩, hA.keep _ ⟨rfl, rfl, rfl, rfl, rfl, trivial⟩, hM⟩
                   · have hb257' := of_decide_eq_false hb257
                     refine seq_do (v := .bool false) hA rfl rfl rfl (does_bin rfl rfl (fun w => (bin_geq w).trans (by rw [hb257]))) ?_
                     intro a hA
                     refine seq_do hA rfl rfl rfl (does_move rfl) ?_
                     intro a hA
                     refine seq_skip hA rfl rfl rfl ?_
                     intro a hA
                     refine seq_skip hA rfl rfl rfl ?_
                     intro a hA
                     refine seq_do (v := .bool false) hA rfl rfl rfl (does_pick rfl rfl rfl rfl) ?_
                     intro a hA
                     refine seq_do hA rfl rfl rfl (does_move rfl) ?_
                     intro a hA
                     refine seq_skip hA rfl rfl rfl ?_
                     intro a hA
                     refine seq_skip hA rfl rfl rfl ?_
                     intro a hA
                     refine seq_skip hA rfl rfl rfl ?_
                     intro a hA
                     refine seq_skipU hA rfl rfl rfl ?_
                     intro a hA
                     refine seq_skipU hA rfl rfl rfl ?_
                     intro a hA
                     refine seq_skip hA rfl rfl rfl ?_
                     intro a hA
                     refine seq_do (v := .bool false) hA rfl rfl rfl (does_pick rfl rfl rfl rfl) ?_
                     intro a hA
                     refine seq_do hA rfl rfl rfl (does_assign rfl) ?_
                     intro a hA
                     refine seq_end ?_
                     refine hK252 _ _ ?_
                     refine wp_seq_k (fun K285 hK285 => ?_)
                     refine wp_region_lit ?_
                     refine seq_do hA rfl rfl rfl (does_move rfl) ?_
                     intro a hA
                     refine seq_end ?_
                     refine hK285 _ _ ?_
                     refine wp_cond_false (hA.ev rfl) ?_
                     refine wp_seq_k (fun K286 hK286 => ?_)
                     refine wp_region_lit ?_
                     refine seq_do hA rfl rfl rfl (does_move rfl) ?_
                     intro a hA
                     refine seq_do hA rfl rfl rfl (does_move rfl) ?_
                     intro a hA
                     refine seq_do (v := .agg #[.int .i32 0, .bool true, .int .i64 (((i : Nat) : Int))]) hA rfl rfl rfl (does_build rfl (fun w => by kernel_rfl)) ?_
                     intro a hA
                     refine s_litE (e := 78) (sz := 3) (m := 1) (vs := [.int .i32 0, .bool true, .int .i64 (((i : Nat) : Int))]) hA hM rfl rfl rfl (does_buildSlice rfl (by kernel_rfl)) rfl rfl (.inl (by decide)) ?_
                     intro g287 w288 hM a hA
                     refine s_appendE (e := 78) (sz := 3) (k := 2) (q := acc.length) (m := 1) (xs := (unitV acc)) (news := [.int .i32 0, .bool true, .int .i64 (((i : Nat) : Int))]) (L' := fun v289 => (.row 78 3 (.slice (some ⟨g287, 0, none⟩) 1 1) 1 ([.int .i32 0, .bool true, .int .i64 (((i : Nat) : Int))]) :: .row 21 1 (.slice (some ⟨g255, 0, none⟩) 5 5) 5 ([.int .i32 0, .int .i32 0, .int .i32 128, .int .i32 2048, .int .i32 65536]) :: .row 78 3 (v289) (acc.length + 1) ((unitV acc) ++ [.int .i32 0, .bool true, .int .i64 (((i : Nat) : Int))]) :: [])) hA rfl rfl rfl (m_appendE (z := .agg #[.int .i32 0, .bool false, .int .i64 0]) (sz := 3) (by_ := 16) Try.underlying75 (by kernel_rfl) rfl rfl rfl hM 2 rfl rfl 0 rfl rfl rfl rfl (by omega)) (fun _ => rfl) ?_
                     intro v289 w290 hM a hA
                     refine seq_do hA rfl rfl rfl (does_assign rfl) ?_
                     intro a hA
                     refine seq_end ?_
                     refine hK286 _ _ ?_
                     refine wp_region_lit ?_
                     refine seq_do hA rfl rfl rfl (does_move rfl) ?_
                     intro a hA
                     refine seq_do (v := .int .i64 (((i + 1 : Nat) : Int))) hA rfl rfl rfl (does_bin rfl rfl (ar_add ((in_i64 (by omega) (by omega)).trans (by omega)))) ?_
                     intro a hA
                     refine seq_do hA rfl rfl rfl (does_assign rfl) ?_
                     intro a hA
                     refine seq_end ?_
                     have hd : decodeN (l.length - i) (l.getD i 0).toNat (l.getD (i + 1) 0).toNat (l.getD (i + 2) 0).toNat (l.getD (i + 3) 0).toNat = (65533, 1) := by
                       unfold Lib.decodeN
                       repeat' split
                       all_goals first | rfl | (exfalso; omega) | (refine Prod.ext ?_ rfl; show (_ : Nat) = _; omega)
                     have hr9 : uR (65533) 1 = (-1) := by unfold uR; rw [if_pos ⟨rfl, by decide⟩]
                     have hs9 := restU_step (show i < l.length by omega) hd
                     rw [hr9] at hs9
                     replace hM : Mg w w290 [.row 78 3 v289 (acc ++ [((i : Int), (-1))]).length (unitV (acc ++ [((i : Int), (-1))]))] := by
                       have h9 := hM.sub (.cons _ (.cons _ (.cons_cons _ (.refl _))))
                       have e9 : unitV (acc ++ [((i : Int), (-1))]) = unitV acc ++ [.int .i32 0, .bool true, .int .i64 (((i : Nat) : Int))] := by
                         unfold unitV
                         rw [List.flatMap_append, List.flatMap_singleton]
                         rw [if_pos rfl]
                       rw [e9, List.length_append]
                       exact h9
                     refine hK8 _ _ _ (by omega) ⟨i + 1, acc ++ [((i : Int), (-1))], v289, rfl, ⟨by rw [← hrun, hs9, List.append_assoc]; rfl, by omega, by rw [List.length_append]; simp only [List.length_cons, List.length_nil]; omega⟩, hA.keep _ ⟨rfl, rfl, rfl, rfl, rfl, trivial⟩, hM⟩
                 · have hb248' := ne_of_beq_false hb248
                   refine seq_do (v := .bool false) hA rfl rfl rfl (does_bin rfl rfl (fun w => (bin_eql w).trans (by rw [hb248]))) ?_
                   intro a hA
                   refine seq_do hA rfl rfl rfl (does_assign rfl) ?_
                   intro a hA
                   refine seq_end ?_
                   refine hK247 _ _ ?_
                   refine wp_region_lit ?_
                   refine seq_do hA rfl rfl rfl (does_move rfl) ?_
                   intro a hA
                   refine seq_do (v := .int .i32 ((((((((l.getD i 0).toNat : Nat) : Int)) % 8) * 64 + (((((l.getD (i + 1) 0).toNat : Nat) : Int)) % 64)) * 64 + (((((l.getD (i + 2) 0).toNat : Nat) : Int)) % 64)) * 64)) hA rfl rfl rfl (does_bin rfl rfl (ar_shl (n := 6) rfl rfl (in_i32 (by omega) (by omega)))) ?_
                   intro a hA
                   refine seq_do hA rfl rfl rfl (does_move rfl) ?_
                   intro a hA
                   refine seq_do (v := .int .u8 (((((l.getD (i + 3) 0).toNat : Nat) : Int)) % 64)) hA rfl rfl rfl (does_bin rfl rfl (ar_and (and_u8 6 63 rfl (by decide) (by omega) (by omega)))) ?_
                   intro a hA
                   refine seq_do (v := .int .i32 (((((l.getD (i + 3) 0).toNat : Nat) : Int)) % 64)) hA rfl rfl rfl (does_convert rfl (ar_conv Try.underlying5 Try.underlying21 (in_i32 (by omega) (by omega)))) ?_
                   intro a hA
                   refine seq_do (v := .int .i32 ((((((((l.getD i 0).toNat : Nat) : Int)) % 8) * 64 + (((((l.getD (i + 1) 0).toNat : Nat) : Int)) % 64)) * 64 + (((((l.getD (i + 2) 0).toNat : Nat) : Int)) % 64)) * 64 + (((((l.getD (i + 3) 0).toNat : Nat) : Int)) % 64))) hA rfl rfl rfl (does_bin rfl rfl (ar_or (or_six (by omega) (by omega) (by omega) (by omega)))) ?_
                   intro a hA
                   refine seq_do hA rfl rfl rfl (does_assign rfl) ?_
                   intro a hA
                   refine seq_end ?_
                   refine hK245 _ _ ?_
                   refine wp_region_lit ?_
                   refine seq_do hA rfl rfl rfl (does_move rfl) ?_
                   intro a hA
                   refine seq_do (v := .int .i64 4) hA rfl rfl rfl (does_bin rfl rfl (fun w => by kernel_rfl)) ?_
                   intro a hA
                   refine seq_do hA rfl rfl rfl (does_assign rfl) ?_
                   intro a hA
                   refine seq_end ?_
                   refine hK242 _ _ ?_
                   refine rounds_k ?_
                   intro K291 hK291
                   refine wp_seq_k (fun K292 hK292 => ?_)
                   refine wp_seq_k (fun K293 hK293 => ?_)
                   refine wp_region_lit ?_
                   refine seq_do hA rfl rfl rfl (does_move rfl) ?_
                   intro a hA
                   refine seq_do hA rfl rfl rfl (does_move rfl) ?_
                   intro a hA
                   refine seq_skip hA rfl rfl rfl ?_
                   intro a hA
                   refine seq_skip hA rfl rfl rfl ?_
                   intro a hA
                   refine seq_skip hA rfl rfl rfl ?_
                   intro a hA
                   refine seq_do (v := .bool false) hA rfl rfl rfl (does_pick rfl rfl rfl rfl) ?_
                   intro a hA
                   refine seq_end ?_
                   refine hK293 _ _ ?_
                   refine wp_cond_false (hA.ev rfl) ?_
                   refine wp_exit ?_
                   refine hK226 _ _ ?_
                   refine wp_seq_k (fun K294 hK294 => ?_)
                   refine wp_seq_k (fun K295 hK295 => ?_)
                   refine wp_region_lit ?_
                   refine seq_do hA rfl rfl rfl (does_move rfl) ?_
                   intro a hA
                   refine seq_do hA rfl rfl rfl (does_move rfl) ?_
                   intro a hA
                   refine seq_skip hA rfl rfl rfl ?_
                   intro a hA
                   refine seq_skip hA rfl rfl rfl ?_
                   intro a hA
                   refine seq_do (v := .bool false) hA rfl rfl rfl (does_pick rfl rfl rfl rfl) ?_
                   intro a hA
                   refine seq_end ?_
                   refine hK295 _ _ ?_
                   refine wp_cond_false (hA.ev rfl) ?_
                   refine wp_skip ?_
                   refine hK294 _ _ ?_
                   refine wp_seq_k (fun K296 hK296 => ?_)
                   refine wp_region_lit ?_
                   refine seq_do hA rfl rfl rfl (does_move rfl) ?_
                   intro a hA
                   refine seq_end ?_
                   refine hK296 _ _ ?_
                   refine wp_cond_false (hA.ev rfl) ?_
                   refine wp_seq_k (fun K297 hK297 => ?_)
                   refine wp_region_lit ?_
                   refine seq_do hA rfl rfl rfl (does_move rfl) ?_
                   intro a hA
                   refine seq_do hA rfl rfl rfl (does_move rfl) ?_
                   intro a hA
                   refine seq_do (v := .agg #[.int .i32 0, .bool true, .int .i64 (((i : Nat) : Int))]) hA rfl rfl rfl (does_build rfl (fun w => by kernel_rfl)) ?_
                   intro a hA
                   refine s_litE (e := 78) (sz := 3) (m := 1) (vs := [.int .i32 0, .bool true, .int .i64 (((i : Nat) : Int))]) hA hM rfl rfl rfl (does_buildSlice rfl (by kernel_rfl)) rfl rfl (.inl (by decide)) ?_
                   intro g298 w299 hM a hA
                   refine s_appendE (e := 78) (sz := 3) (k := 1) (q := acc.length) (m := 1) (xs := (unitV acc)) (news := [.int .i32 0, .bool true, .int .i64 (((i : Nat) : Int))]) (L' := fun v300 => (.row 78 3 (.slice (some ⟨g298, 0, none⟩) 1 1) 1 ([.int .i32 0, .bool true, .int .i64 (((i : Nat) : Int))]) :: .row 78 3 (v300) (acc.length + 1) ((unitV acc) ++ [.int .i32 0, .bool true, .int .i64 (((i : Nat) : Int))]) :: [])) hA rfl rfl rfl (m_appendE (z := .agg #[.int .i32 0, .bool false, .int .i64 0]) (sz := 3) (by_ := 16) Try.underlying75 (by kernel_rfl) rfl rfl rfl hM 1 rfl rfl 0 rfl rfl rfl rfl (by omega)) (fun _ => rfl) ?_
                   intro v300 w301 hM a hA
                   refine seq_do hA rfl rfl rfl (does_assign rfl) ?_
                   intro a hA
                   refine seq_end ?_
                   refine hK297 _ _ ?_
                   refine wp_region_lit ?_
                   refine seq_do hA rfl rfl rfl (does_move rfl) ?_
                   intro a hA
                   refine seq_do (v := .int .i64 (((i + 1 : Nat) : Int))) hA rfl rfl rfl (does_bin rfl rfl (ar_add ((in_i64 (by omega) (by omega)).trans (by omega)))) ?_
                   intro a hA
                   refine seq_do hA rfl rfl rfl (does_assign rfl) ?_
                   intro a hA
                   refine seq_end ?_
                   have hd : decodeN (l.length - i) (l.getD i 0).toNat (l.getD (i + 1) 0).toNat (l.getD (i + 2) 0).toNat (l.getD (i + 3) 0).toNat = (65533, 1) := by
                     unfold Lib.decodeN
                     repeat' split
                     all_goals first | rfl | (exfalso; omega) | (refine Prod.ext ?_ rfl; show (_ : Nat) = _; omega)
                   have hr9 : uR (65533) 1 = (-1) := by unfold uR; rw [if_pos ⟨rfl, by decide⟩]
                   have hs9 := restU_step (show i < l.length by omega) hd
                   rw [hr9] at hs9
                   replace hM : Mg w w301 [.row 78 3 v300 (acc ++ [((i : Int), (-1))]).length (unitV (acc ++ [((i : Int), (-1))]))] := by
                     have h9 := hM.sub (.cons _ (.cons_cons _ (.refl _)))
                     have e9 : unitV (acc ++ [((i : Int), (-1))]) = unitV acc ++ [.int .i32 0, .bool true, .int .i64 (((i : Nat) : Int))] := by
                       unfold unitV
                       rw [List.flatMap_append, List.flatMap_singleton]
                       rw [if_pos rfl]
                     rw [e9, List.length_append]
                     exact h9
                   refine hK8 _ _ _ (by omega) ⟨i + 1, acc ++ [((i : Int), (-1))], v300, rfl, ⟨by rw [← hrun, hs9, List.append_assoc]; rfl, by omega, by rw [List.length_append]; simp only [List.length_cons, List.length_nil]; omega⟩, hA.keep _ ⟨rfl, rfl, rfl, rfl, rfl, trivial⟩, hM⟩
               · have hb241' := ne_of_beq_false hb241
                 refine seq_do (v := .bool false) hA rfl rfl rfl (does_bin rfl rfl (fun w => (bin_eql w).trans (by rw [hb241]))) ?_
                 intro a hA
                 refine seq_do hA rfl rfl rfl (does_assign rfl) ?_
                 intro a hA
                 refine seq_end ?_
                 refine hK240 _ _ ?_
                 refine wp_region_lit ?_
                 refine seq_do hA rfl rfl rfl (does_move rfl) ?_
                 intro a hA
                 refine seq_do (v := .int .i32 (((((((l.getD i 0).toNat : Nat) : Int)) % 8) * 64 + (((((l.getD (i + 1) 0).toNat : Nat) : Int)) % 64)) * 64)) hA rfl rfl rfl (does_bin rfl rfl (ar_shl (n := 6) rfl rfl (in_i32 (by omega) (by omega)))) ?_
                 intro a hA
                 refine seq_do hA rfl rfl rfl (does_move rfl) ?_
                 intro a hA
                 refine seq_do (v := .int .u8 (((((l.getD (i + 2) 0).toNat : Nat) : Int)) % 64)) hA rfl rfl rfl (does_bin rfl rfl (ar_and (and_u8 6 63 rfl (by decide) (by omega) (by omega)))) ?_
                 intro a hA
                 refine seq_do (v := .int .i32 (((((l.getD (i + 2) 0).toNat : Nat) : Int)) % 64)) hA rfl rfl rfl (does_convert rfl (ar_conv Try.underlying5 Try.underlying21 (in_i32 (by omega) (by omega)))) ?_
                 intro a hA
                 refine seq_do (v := .int .i32 (((((((l.getD i 0).toNat : Nat) : Int)) % 8) * 64 + (((((l.getD (i + 1) 0).toNat : Nat) : Int)) % 64)) * 64 + (((((l.getD (i + 2) 0).toNat : Nat) : Int)) % 64))) hA rfl rfl rfl (does_bin rfl rfl (ar_or (or_six (by omega) (by omega) (by omega) (by omega)))) ?_
                 intro a hA
                 refine seq_do hA rfl rfl rfl (does_assign rfl) ?_
                 intro a hA
                 refine seq_end ?_
                 refine hK238 _ _ ?_
                 refine wp_region_lit ?_
                 refine seq_do hA rfl rfl rfl (does_move rfl) ?_
                 intro a hA
                 refine seq_do (v := .int .i64 3) hA rfl rfl rfl (does_bin rfl rfl (fun w => by kernel_rfl)) ?_
                 intro a hA
                 refine seq_do hA rfl rfl rfl (does_assign rfl) ?_
                 intro a hA
                 refine seq_end ?_
                 refine hK235 _ _ ?_
                 refine rounds_k ?_
                 intro K302 hK302
                 refine wp_seq_k (fun K303 hK303 => ?_)
                 refine wp_seq_k (fun K304 hK304 => ?_)
                 refine wp_region_lit ?_
                 refine seq_do hA rfl rfl rfl (does_move rfl) ?_
                 intro a hA
                 refine seq_do hA rfl rfl rfl (does_move rfl) ?_
                 intro a hA
                 refine seq_skip hA rfl rfl rfl ?_
                 intro a hA
                 refine seq_skip hA rfl rfl rfl ?_
                 intro a hA
                 refine seq_skip hA rfl rfl rfl ?_
                 intro a hA
                 refine seq_do (v := .bool false) hA rfl rfl rfl (does_pick rfl rfl rfl rfl) ?_
                 intro a hA
                 refine seq_end ?_
                 refine hK304 _ _ ?_
                 refine wp_cond_false (hA.ev rfl) ?_
                 refine wp_exit ?_
                 refine hK226 _ _ ?_
                 refine wp_seq_k (fun K305 hK305 => ?_)
                 refine wp_seq_k (fun K306 hK306 => ?_)
                 refine wp_region_lit ?_
                 refine seq_do hA rfl rfl rfl (does_move rfl) ?_
                 intro a hA
                 refine seq_do hA rfl rfl rfl (does_move rfl) ?_
                 intro a hA
                 refine seq_skip hA rfl rfl rfl ?_
                 intro a hA
                 refine seq_skip hA rfl rfl rfl ?_
                 intro a hA
                 refine seq_do (v := .bool false) hA rfl rfl rfl (does_pick rfl rfl rfl rfl) ?_
                 intro a hA
                 refine seq_end ?_
                 refine hK306 _ _ ?_
                 refine wp_cond_false (hA.ev rfl) ?_
                 refine wp_skip ?_
                 refine hK305 _ _ ?_
                 refine wp_seq_k (fun K307 hK307 => ?_)
                 refine wp_region_lit ?_
                 refine seq_do hA rfl rfl rfl (does_move rfl) ?_
                 intro a hA
                 refine seq_end ?_
                 refine hK307 _ _ ?_
                 refine wp_cond_false (hA.ev rfl) ?_
                 refine wp_seq_k (fun K308 hK308 => ?_)
                 refine wp_region_lit ?_
                 refine seq_do hA rfl rfl rfl (does_move rfl) ?_
                 intro a hA
                 refine seq_do hA rfl rfl rfl (does_move rfl) ?_
                 intro a hA
                 refine seq_do (v := .agg #[.int .i32 0, .bool true, .int .i64 (((i : Nat) : Int))]) hA rfl rfl rfl (does_build rfl (fun w => by kernel_rfl)) ?_
                 intro a hA
                 refine s_litE (e := 78) (sz := 3) (m := 1) (vs := [.int .i32 0, .bool true, .int .i64 (((i : Nat) : Int))]) hA hM rfl rfl rfl (does_buildSlice rfl (by kernel_rfl)) rfl rfl (.inl (by decide)) ?_
                 intro g309 w310 hM a hA
                 refine s_appendE (e := 78) (sz := 3) (k := 1) (q := acc.length) (m := 1) (xs := (unitV acc)) (news := [.int .i32 0, .bool true, .int .i64 (((i : Nat) : Int))]) (L' := fun v311 => (.row 78 3 (.slice (some ⟨g309, 0, none⟩) 1 1) 1 ([.int .i32 0, .bool true, .int .i64 (((i : Nat) : Int))]) :: .row 78 3 (v311) (acc.length + 1) ((unitV acc) ++ [.int .i32 0, .bool true, .int .i64 (((i : Nat) : Int))]) :: [])) hA rfl rfl rfl (m_appendE (z := .agg #[.int .i32 0, .bool false, .int .i64 0]) (sz := 3) (by_ := 16) Try.underlying75 (by kernel_rfl) rfl rfl rfl hM 1 rfl rfl 0 rfl rfl rfl rfl (by omega)) (fun _ => rfl) ?_
                 intro v311 w312 hM a hA
                 refine seq_do hA rfl rfl rfl (does_assign rfl) ?_
                 intro a hA
                 refine seq_end ?_
                 refine hK308 _ _ ?_
                 refine wp_region_lit ?_
                 refine seq_do hA rfl rfl rfl (does_move rfl) ?_
                 intro a hA
                 refine seq_do (v := .int .i64 (((i + 1 : Nat) : Int))) hA rfl rfl rfl (does_bin rfl rfl (ar_add ((in_i64 (by omega) (by omega)).trans (by omega)))) ?_
                 intro a hA
                 refine seq_do hA rfl rfl rfl (does_assign rfl) ?_
                 intro a hA
                 refine seq_end ?_
                 have hd : decodeN (l.length - i) (l.getD i 0).toNat (l.getD (i + 1) 0).toNat (l.getD (i + 2) 0).toNat (l.getD (i + 3) 0).toNat = (65533, 1) := by
                   unfold Lib.decodeN
                   repeat' split
                   all_goals first | rfl | (exfalso; omega) | (refine Prod.ext ?_ rfl; show (_ : Nat) = _; omega)
                 have hr9 : uR (65533) 1 = (-1) := by unfold uR; rw [if_pos ⟨rfl, by decide⟩]
                 have hs9 := restU_step (show i < l.length by omega) hd
                 rw [hr9] at hs9
                 replace hM : Mg w w312 [.row 78 3 v311 (acc ++ [((i : Int), (-1))]).length (unitV (acc ++ [((i : Int), (-1))]))] := by
                   have h9 := hM.sub (.cons _ (.cons_cons _ (.refl _)))
                   have e9 : unitV (acc ++ [((i : Int), (-1))]) = unitV acc ++ [.int .i32 0, .bool true, .int .i64 (((i : Nat) : Int))] := by
                     unfold unitV
                     rw [List.flatMap_append, List.flatMap_singleton]
                     rw [if_pos rfl]
                   rw [e9, List.length_append]
                   exact h9
                 refine hK8 _ _ _ (by omega) ⟨i + 1, acc ++ [((i : Int), (-1))], v311, rfl, ⟨by rw [← hrun, hs9, List.append_assoc]; rfl, by omega, by rw [List.length_append]; simp only [List.length_cons, List.length_nil]; omega⟩, hA.keep _ ⟨rfl, rfl, rfl, rfl, rfl, trivial⟩, hM⟩
             · have hb234' := ne_of_beq_false hb234
               refine seq_do (v := .bool false) hA rfl rfl rfl (does_bin rfl rfl (fun w => (bin_eql w).trans (by rw [hb234]))) ?_
               intro a hA
               refine seq_do hA rfl rfl rfl (does_assign rfl) ?_
               intro a hA
               refine seq_end ?_
               refine hK233 _ _ ?_
               refine wp_region_lit ?_
               refine seq_do hA rfl rfl rfl (does_move rfl) ?_
               intro a hA
               refine seq_do (v := .int .i32 ((((((l.getD i 0).toNat : Nat) : Int)) % 8) * 64)) hA rfl rfl rfl (does_bin rfl rfl (ar_shl (n := 6) rfl rfl (in_i32 (by omega) (by omega)))) ?_
               intro a hA
               refine seq_do hA rfl rfl rfl (does_move rfl) ?_
               intro a hA
               refine seq_do (v := .int .u8 (((((l.getD (i + 1) 0).toNat : Nat) : Int)) % 64)) hA rfl rfl rfl (does_bin rfl rfl (ar_and (and_u8 6 63 rfl (by decide) (by omega) (by omega)))) ?_
               intro a hA
               refine seq_do (v := .int .i32 (((((l.getD (i + 1) 0).toNat : Nat) : Int)) % 64)) hA rfl rfl rfl (does_convert rfl (ar_conv Try.underlying5 Try.underlying21 (in_i32 (by omega) (by omega)))) ?_
               intro a hA
               refine seq_do (v := .int .i32 ((((((l.getD i 0).toNat : Nat) : Int)) % 8) * 64 + (((((l.getD (i + 1) 0).toNat : Nat) : Int)) % 64))) hA rfl rfl rfl (does_bin rfl rfl (ar_or (or_six (by omega) (by omega) (by omega) (by omega)))) ?_
               intro a hA
               refine seq_do hA rfl rfl rfl (does_assign rfl) ?_
               intro a hA
               refine seq_end ?_
               refine hK231 _ _ ?_
               refine wp_region_lit ?_
               refine seq_do hA rfl rfl rfl (does_move rfl) ?_
               intro a hA
               refine seq_do (v := .int .i64 2) hA rfl rfl rfl (does_bin rfl rfl (fun w => by kernel_rfl)) ?_
               intro a hA
               refine seq_do hA rfl rfl rfl (does_assign rfl) ?_
               intro a hA
               refine seq_end ?_
               refine hK228 _ _ ?_
               refine rounds_k ?_
               intro K313 hK313
               refine wp_seq_k (fun K314 hK314 => ?_)
               refine wp_seq_k (fun K315 hK315 => ?_)
               refine wp_region_lit ?_
               refine seq_do hA rfl rfl rfl (does_move rfl) ?_
               intro a hA
               refine seq_do hA rfl rfl rfl (does_move rfl) ?_
               intro a hA
               refine seq_skip hA rfl rfl rfl ?_
               intro a hA
               refine seq_skip hA rfl rfl rfl ?_
               intro a hA
               refine seq_skip hA rfl rfl rfl ?_
               intro a hA
               refine seq_do (v := .bool false) hA rfl rfl rfl (does_pick rfl rfl rfl rfl) ?_
               intro a hA
               refine seq_end ?_
               refine hK315 _ _ ?_
               refine wp_cond_false (hA.ev rfl) ?_
               refine wp_exit ?_
               refine hK226 _ _ ?_
               refine wp_seq_k (fun K316 hK316 => ?_)
               refine wp_seq_k (fun K317 hK317 => ?_)
               refine wp_region_lit ?_
               refine seq_do hA rfl rfl rfl (does_move rfl) ?_
               intro a hA
               refine seq_do hA rfl rfl rfl (does_move rfl) ?_
               intro a hA
               refine seq_skip hA rfl rfl rfl ?_
               intro a hA
               refine seq_skip hA rfl rfl rfl ?_
               intro a hA
               refine seq_do (v := .bool false) hA rfl rfl rfl (does_pick rfl rfl rfl rfl) ?_
               intro a hA
               refine seq_end ?_
               refine hK317 _ _ ?_
               refine wp_cond_false (hA.ev rfl) ?_
               refine wp_skip ?_
               refine hK316 _ _ ?_
               refine wp_seq_k (fun K318 hK318 => ?_)
               refine wp_region_lit ?_
               refine seq_do hA rfl rfl rfl (does_move rfl) ?_
               intro a hA
               refine seq_end ?_
               refine hK318 _ _ ?_
               refine wp_cond_false (hA.ev rfl) ?_
               refine wp_seq_k (fun K319 hK319 => ?_)
               refine wp_region_lit ?_
               refine seq_do hA rfl rfl rfl (does_move rfl) ?_
               intro a hA
               refine seq_do hA rfl rfl rfl (does_move rfl) ?_
               intro a hA
               refine seq_do (v := .agg #[.int .i32 0, .bool true, .int .i64 (((i : Nat) : Int))]) hA rfl rfl rfl (does_build rfl (fun w => by kernel_rfl)) ?_
               intro a hA
               refine s_litE (e := 78) (sz := 3) (m := 1) (vs := [.int .i32 0, .bool true, .int .i64 (((i : Nat) : Int))]) hA hM rfl rfl rfl (does_buildSlice rfl (by kernel_rfl)) rfl rfl (.inl (by decide)) ?_
               intro g320 w321 hM a hA
               refine s_appendE (e := 78) (sz := 3) (k := 1) (q := acc.length) (m := 1) (xs := (unitV acc)) (news := [.int .i32 0, .bool true, .int .i64 (((i : Nat) : Int))]) (L' := fun v322 => (.row 78 3 (.slice (some ⟨g320, 0, none⟩) 1 1) 1 ([.int .i32 0, .bool true, .int .i64 (((i : Nat) : Int))]) :: .row 78 3 (v322) (acc.length + 1) ((unitV acc) ++ [.int .i32 0, .bool true, .int .i64 (((i : Nat) : Int))]) :: [])) hA rfl rfl rfl (m_appendE (z := .agg #[.int .i32 0, .bool false, .int .i64 0]) (sz := 3) (by_ := 16) Try.underlying75 (by kernel_rfl) rfl rfl rfl hM 1 rfl rfl 0 rfl rfl rfl rfl (by omega)) (fun _ => rfl) ?_
               intro v322 w323 hM a hA
               refine seq_do hA rfl rfl rfl (does_assign rfl) ?_
               intro a hA
               refine seq_end ?_
               refine hK319 _ _ ?_
               refine wp_region_lit ?_
               refine seq_do hA rfl rfl rfl (does_move rfl) ?_
               intro a hA
               refine seq_do (v := .int .i64 (((i + 1 : Nat) : Int))) hA rfl rfl rfl (does_bin rfl rfl (ar_add ((in_i64 (by omega) (by omega)).trans (by omega)))) ?_
               intro a hA
               refine seq_do hA rfl rfl rfl (does_assign rfl) ?_
               intro a hA
               refine seq_end ?_
               have hd : decodeN (l.length - i) (l.getD i 0).toNat (l.getD (i + 1) 0).toNat (l.getD (i + 2) 0).toNat (l.getD (i + 3) 0).toNat = (65533, 1) := by
                 unfold Lib.decodeN
                 repeat' split
                 all_goals first | rfl | (exfalso; omega) | (refine Prod.ext ?_ rfl; show (_ : Nat) = _; omega)
               have hr9 : uR (65533) 1 = (-1) := by unfold uR; rw [if_pos ⟨rfl, by decide⟩]
               have hs9 := restU_step (show i < l.length by omega) hd
               rw [hr9] at hs9
               replace hM : Mg w w323 [.row 78 3 v322 (acc ++ [((i : Int), (-1))]).length (unitV (acc ++ [((i : Int), (-1))]))] := by
                 have h9 := hM.sub (.cons _ (.cons_cons _ (.refl _)))
                 have e9 : unitV (acc ++ [((i : Int), (-1))]) = unitV acc ++ [.int .i32 0, .bool true, .int .i64 (((i : Nat) : Int))] := by
                   unfold unitV
                   rw [List.flatMap_append, List.flatMap_singleton]
                   rw [if_pos rfl]
                 rw [e9, List.length_append]
                 exact h9
               refine hK8 _ _ _ (by omega) ⟨i + 1, acc ++ [((i : Int), (-1))], v322, rfl, ⟨by rw [← hrun, hs9, List.append_assoc]; rfl, by omega, by rw [List.length_append]; simp only [List.length_cons, List.length_nil]; omega⟩, hA.keep _ ⟨rfl, rfl, rfl, rfl, rfl, trivial⟩, hM⟩
           · have hb225' := of_decide_eq_false hb225
             refine seq_do (v := .bool false) hA rfl rfl rfl (does_bin rfl rfl (fun w => (bin_leq w).trans (by rw [hb225]))) ?_
             intro a hA
             refine seq_do (v := .bool false) hA rfl rfl rfl (does_pick rfl rfl rfl rfl) ?_
             intro a hA
             refine seq_do hA rfl rfl rfl (does_assign rfl) ?_
             intro a hA
             refine seq_end ?_
             refine hK224 _ _ ?_
             refine wp_seq_k (fun K324 hK324 => ?_)
             refine wp_seq_k (fun K325 hK325 => ?_)
             refine wp_region_lit ?_
             refine seq_do hA rfl rfl rfl (does_assign rfl) ?_
             intro a hA
             refine seq_end ?_
             refine hK325 _ _ ?_
             refine wp_block ?_
             refine wp_loop_rounds 5 ?_
             refine rounds_k ?_
             intro K326 hK326
             refine wp_seq_k (fun K327 hK327 => ?_)
             refine wp_seq_k (fun K328 hK328 => ?_)
             refine wp_region_lit ?_
             refine seq_do hA rfl rfl rfl (does_move rfl) ?_
             intro a hA
             refine seq_do hA rfl rfl rfl (does_move rfl) ?_
             intro a hA
             refine seq_skip hA rfl rfl rfl ?_
             intro a hA
             refine seq_skip hA rfl rfl rfl ?_
             intro a hA
             refine seq_skip hA rfl rfl rfl ?_
             intro a hA
             refine seq_do (v := .bool false) hA rfl rfl rfl (does_pick rfl rfl rfl rfl) ?_
             intro a hA
             refine seq_end ?_
             refine hK328 _ _ ?_
             refine wp_cond_false (hA.ev rfl) ?_
             refine wp_exit ?_
             refine hK324 _ _ ?_
             refine wp_seq_k (fun K329 hK329 => ?_)
             refine wp_seq_k (fun K330 hK330 => ?_)
             refine wp_region_lit ?_
             refine seq_do hA rfl rfl rfl (does_move rfl) ?_
             intro a hA
             refine seq_do hA rfl rfl rfl (does_move rfl) ?_
             intro a hA
             refine seq_skip hA rfl rfl rfl ?_
             intro a hA
             refine seq_skip hA rfl rfl rfl ?_
             intro a hA
             refine seq_do (v := .bool false) hA rfl rfl rfl (does_pick rfl rfl rfl rfl) ?_
             intro a hA
             refine seq_end ?_
             refine hK330 _ _ ?_
             refine wp_cond_false (hA.ev rfl) ?_
             refine wp_skip ?_
             refine hK329 _ _ ?_
             refine wp_seq_k (fun K331 hK331 => ?_)
             refine wp_region_lit ?_
             refine seq_do hA rfl rfl rfl (does_move rfl) ?_
             intro a hA
             refine seq_end ?_
             refine hK331 _ _ ?_
             refine wp_cond_false (hA.ev rfl) ?_
             refine wp_seq_k (fun K332 hK332 => ?_)
             refine wp_region_lit ?_
             refine seq_do hA rfl rfl rfl (does_move rfl) ?_
             intro a hA
             refine seq_do hA rfl rfl rfl (does_move rfl) ?_
             intro a hA
             refine seq_do (v := .agg #[.int .i32 0, .bool true, .int .i64 (((i : Nat) : Int))]) hA rfl rfl rfl (does_build rfl (fun w => by kernel_rfl)) ?_
             intro a hA
             refine s_litE (e := 78) (sz := 3) (m := 1) (vs := [.int .i32 0, .bool true, .int .i64 (((i : Nat) : Int))]) hA hM rfl rfl rfl (does_buildSlice rfl (by kernel_rfl)) rfl rfl (.inl (by decide)) ?_
             intro g333 w334 hM a hA
             refine s_appendE (e := 78) (sz := 3) (k := 1) (q := acc.length) (m := 1) (xs := (unitV acc)) (news := [.int .i32 0, .bool true, .int .i64 (((i : Nat) : Int))]) (L' := fun v335 => (.row 78 3 (.slice (some ⟨g333, 0, none⟩) 1 1) 1 ([.int .i32 0, .bool true, .int .i64 (((i : Nat) : Int))]) :: .row 78 3 (v335) (acc.length + 1) ((unitV acc) ++ [.int .i32 0, .bool true, .int .i64 (((i : Nat) : Int))]) :: [])) hA rfl rfl rfl (m_appendE (z := .agg #[.int .i32 0, .bool false, .int .i64 0]) (sz := 3) (by_ := 16) Try.underlying75 (by kernel_rfl) rfl rfl rfl hM 1 rfl rfl 0 rfl rfl rfl rfl (by omega)) (fun _ => rfl) ?_
             intro v335 w336 hM a hA
             refine seq_do hA rfl rfl rfl (does_assign rfl) ?_
             intro a hA
             refine seq_end ?_
             refine hK332 _ _ ?_
             refine wp_region_lit ?_
             refine seq_do hA rfl rfl rfl (does_move rfl) ?_
             intro a hA
             refine seq_do (v := .int .i64 (((i + 1 : Nat) : Int))) hA rfl rfl rfl (does_bin rfl rfl (ar_add ((in_i64 (by omega) (by omega)).trans (by omega)))) ?_
             intro a hA
             refine seq_do hA rfl rfl rfl (does_assign rfl) ?_
             intro a hA
             refine seq_end ?_
             have hd : decodeN (l.length - i) (l.getD i 0).toNat (l.getD (i + 1) 0).toNat (l.getD (i + 2) 0).toNat (l.getD (i + 3) 0).toNat = (65533, 1) := by
               unfold Lib.decodeN
               repeat' split
               all_goals first | rfl | (exfalso; omega) | (refine Prod.ext ?_ rfl; show (_ : Nat) = _; omega)
             have hr9 : uR (65533) 1 = (-1) := by unfold uR; rw [if_pos ⟨rfl, by decide⟩]
             have hs9 := restU_step (show i < l.length by omega) hd
             rw [hr9] at hs9
             replace hM : Mg w w336 [.row 78 3 v335 (acc ++ [((i : Int), (-1))]).length (unitV (acc ++ [((i : Int), (-1))]))] := by
               have h9 := hM.sub (.cons _ (.cons_cons _ (.refl _)))
               have e9 : unitV (acc ++ [((i : Int), (-1))]) = unitV acc ++ [.int .i32 0, .bool true, .int .i64 (((i : Nat) : Int))] := by
                 unfold unitV
                 rw [List.flatMap_append, List.flatMap_singleton]
                 rw [if_pos rfl]
               rw [e9, List.length_append]
               exact h9
             refine hK8 _ _ _ (by omega) ⟨i + 1, acc ++ [((i : Int), (-1))], v335, rfl, ⟨by rw [← hrun, hs9, List.append_assoc]; rfl, by omega, by rw [List.length_append]; simp only [List.length_cons, List.length_nil]; omega⟩, hA.keep _ ⟨rfl, rfl, rfl, rfl, rfl, trivial⟩, hM⟩
         · have hb223' := ne_of_beq_false hb223
           refine seq_do (v := .bool false) hA rfl rfl rfl (does_bin rfl rfl (fun w => (bin_eql w).trans (by rw [hb223]))) ?_
           intro a hA
           refine seq_do hA rfl rfl rfl (does_assign rfl) ?_
           intro a hA
           refine seq_end ?_
           refine hK222 _ _ ?_
           refine wp_cond_false (hA.ev rfl) ?_
           refine wp_skip ?_
           refine hK15 _ _ ?_
           refine wp_seq_k (fun K337 hK337 => ?_)
           refine wp_region_lit ?_
           refine seq_do hA rfl rfl rfl (does_move rfl) ?_
           intro a hA
           refine seq_do (v := .bool false) hA rfl rfl rfl (does_bin rfl rfl (fun w => by kernel_rfl)) ?_
           intro a hA
           refine seq_do hA rfl rfl rfl (does_move rfl) ?_
           intro a hA
           refine seq_skip hA rfl rfl rfl ?_
           intro a hA
           refine seq_skip hA rfl rfl rfl ?_
           intro a hA
           refine seq_skip hA rfl rfl rfl ?_
           intro a hA
           refine seq_skip hA rfl rfl rfl ?_
           intro a hA
           refine seq_skip hA rfl rfl rfl ?_
           intro a hA
           refine seq_skip hA rfl rfl rfl ?_
           intro a hA
           refine seq_do (v := .bool false) hA rfl rfl rfl (does_pick rfl rfl rfl rfl) ?_
           intro a hA
           refine seq_do hA rfl rfl rfl (does_assign rfl) ?_
           intro a hA
           refine seq_end ?_
           refine hK337 _ _ ?_
           refine wp_seq_k (fun K338 hK338 => ?_)
           refine wp_seq_k (fun K339 hK339 => ?_)
           refine wp_region_lit ?_
           refine seq_do hA rfl rfl rfl (does_assign rfl) ?_
           intro a hA
           refine seq_end ?_
           refine hK339 _ _ ?_
           refine wp_block ?_
           refine wp_loop_rounds 5 ?_
           refine rounds_k ?_
           intro K340 hK340
           refine wp_seq_k (fun K341 hK341 => ?_)
           refine wp_seq_k (fun K342 hK342 => ?_)
           refine wp_region_lit ?_
           refine seq_do hA rfl rfl rfl (does_move rfl) ?_
           intro a hA
           refine seq_do hA rfl rfl rfl (does_move rfl) ?_
           intro a hA
           refine seq_skip hA rfl rfl rfl ?_
           intro a hA
           refine seq_skip hA rfl rfl rfl ?_
           intro a hA
           refine seq_skip hA rfl rfl rfl ?_
           intro a hA
           refine seq_do (v := .bool false) hA rfl rfl rfl (does_pick rfl rfl rfl rfl) ?_
           intro a hA
           refine seq_end ?_
           refine hK342 _ _ ?_
           refine wp_cond_false (hA.ev rfl) ?_
           refine wp_exit ?_
           refine hK338 _ _ ?_
           refine wp_seq_k (fun K343 hK343 => ?_)
           refine wp_seq_k (fun K344 hK344 => ?_)
           refine wp_region_lit ?_
           refine seq_do hA rfl rfl rfl (does_move rfl) ?_
           intro a hA
           refine seq_do hA rfl rfl rfl (does_move rfl) ?_
           intro a hA
           refine seq_skip hA rfl rfl rfl ?_
           intro a hA
           refine seq_skip hA rfl rfl rfl ?_
           intro a hA
           refine seq_do (v := .bool false) hA rfl rfl rfl (does_pick rfl rfl rfl rfl) ?_
           intro a hA
           refine seq_end ?_
           refine hK344 _ _ ?_
           refine wp_cond_false (hA.ev rfl) ?_
           refine wp_skip ?_
           refine hK343 _ _ ?_
           refine wp_seq_k (fun K345 hK345 => ?_)
           refine wp_region_lit ?_
           refine seq_do hA rfl rfl rfl (does_move rfl) ?_
           intro a hA
           refine seq_end ?_
           refine hK345 _ _ ?_
           refine wp_cond_false (hA.ev rfl) ?_
           refine wp_seq_k (fun K346 hK346 => ?_)
           refine wp_region_lit ?_
           refine seq_do hA rfl rfl rfl (does_move rfl) ?_
           intro a hA
           refine seq_do hA rfl rfl rfl (does_move rfl) ?_
           intro a hA
           refine seq_do (v := .agg #[.int .i32 0, .bool true, .int .i64 (((i : Nat) : Int))]) hA rfl rfl rfl (does_build rfl (fun w => by kernel_rfl)) ?_
           intro a hA
           refine s_litE (e := 78) (sz := 3) (m := 1) (vs := [.int .i32 0, .bool true, .int .i64 (((i : Nat) : Int))]) hA hM rfl rfl rfl (does_buildSlice rfl (by kernel_rfl)) rfl rfl (.inl (by decide)) ?_
           intro g347 w348 hM a hA
           refine s_appendE (e := 78) (sz := 3) (k := 1) (q := acc.length) (m := 1) (xs := (unitV acc)) (news := [.int .i32 0, .bool true, .int .i64 (((i : Nat) : Int))]) (L' := fun v349 => (.row 78 3 (.slice (some ⟨g347, 0, none⟩) 1 1) 1 ([.int .i32 0, .bool true, .int .i64 (((i : Nat) : Int))]) :: .row 78 3 (v349) (acc.length + 1) ((unitV acc) ++ [.int .i32 0, .bool true, .int .i64 (((i : Nat) : Int))]) :: [])) hA rfl rfl rfl (m_appendE (z := .agg #[.int .i32 0, .bool false, .int .i64 0]) (sz := 3) (by_ := 16) Try.underlying75 (by kernel_rfl) rfl rfl rfl hM 1 rfl rfl 0 rfl rfl rfl rfl (by omega)) (fun _ => rfl) ?_
           intro v349 w350 hM a hA
           refine seq_do hA rfl rfl rfl (does_assign rfl) ?_
           intro a hA
           refine seq_end ?_
           refine hK346 _ _ ?_
           refine wp_region_lit ?_
           refine seq_do hA rfl rfl rfl (does_move rfl) ?_
           intro a hA
           refine seq_do (v := .int .i64 (((i + 1 : Nat) : Int))) hA rfl rfl rfl (does_bin rfl rfl (ar_add ((in_i64 (by omega) (by omega)).trans (by omega)))) ?_
           intro a hA
           refine seq_do hA rfl rfl rfl (does_assign rfl) ?_
           intro a hA
           refine seq_end ?_
           have hd : decodeN (l.length - i) (l.getD i 0).toNat (l.getD (i + 1) 0).toNat (l.getD (i + 2) 0).toNat (l.getD (i + 3) 0).toNat = (65533, 1) := by
             unfold Lib.decodeN
             repeat' split
             all_goals first | rfl | (exfalso; omega) | (refine Prod.ext ?_ rfl; show (_ : Nat) = _; omega)
           have hr9 : uR (65533) 1 = (-1) := by unfold uR; rw [if_pos ⟨rfl, by decide⟩]
           have hs9 := restU_step (show i < l.length by omega) hd
           rw [hr9] at hs9
           replace hM : Mg w w350 [.row 78 3 v349 (acc ++ [((i : Int), (-1))]).length (unitV (acc ++ [((i : Int), (-1))]))] := by
             have h9 := hM.sub (.cons _ (.cons_cons _ (.refl _)))
             have e9 : unitV (acc ++ [((i : Int), (-1))]) = unitV acc ++ [.int .i32 0, .bool true, .int .i64 (((i : Nat) : Int))] := by
               unfold unitV
               rw [List.flatMap_append, List.flatMap_singleton]
               rw [if_pos rfl]
             rw [e9, List.length_append]
             exact h9
           refine hK8 _ _ _ (by omega) ⟨i + 1, acc ++ [((i : Int), (-1))], v349, rfl, ⟨by rw [← hrun, hs9, List.append_assoc]; rfl, by omega, by rw [List.length_append]; simp only [List.length_cons, List.length_nil]; omega⟩, hA.keep _ ⟨rfl, rfl, rfl, rfl, rfl, trivial⟩, hM⟩
 · have hb12' := of_decide_eq_false hb12
   refine seq_do (v := .bool false) hA rfl rfl rfl (does_bin rfl rfl (fun w => (bin_lss w).trans (by rw [hb12]))) ?_
   intro a hA
   refine seq_end ?_
   refine hK11 _ _ ?_
   refine wp_cond_false (hA.ev rfl) ?_
   refine wp_exit ?_
   refine hK5 _ _ ?_
   refine wp_seq_k (fun K351 hK351 => ?_)
   refine wp_region_lit ?_
   refine seq_do hA rfl rfl rfl (does_move rfl) ?_
   intro a hA
   refine seq_do hA rfl rfl rfl (does_assign rfl) ?_
   intro a hA
   refine seq_end ?_
   refine hK351 _ _ ?_
   refine wp_ret ?_
   refine hret _ _ ?_
   refine ends (v := vo) hA rfl (.cons (res_tmp rfl) .nil) rfl ?_
   rw [restU_over (by omega), List.append_nil] at hrun
   subst hrun
   exact ⟨_, rfl, hM⟩
end Go.Proofs.Ytcjgjbaadmohbaa
