/- TrU Tu TrV TrW Lj JcJ JcK Bulk ArgC ArgB -/
import Derived.Test.YtoopkbedjbnhhabGreatDoorPimport12d
import Derived.Test.YtoopkbedjbnhhabGreatDoorProg
import Derived.Test.YtoopkbedjbnhhabGreatDoorPimport12f
import Derived.Lib.ConvBytes
import Derived.Test.YtoopkbedjbnhhabGreatDoorPimport12g
import Derived.Test.YtoopkbedjbnhhabGreatDoorPimport12c
import Derived.Test.YtoopkbedjbnhhabGreatDoorRows
import Derived.WalkKit
import Derived.ProofKit
import Derived.OpenShut
import Derived.ChangeOld
import Derived.Lib.SmallJoins
import Derived.Deep.Strs
set_option linter.unusedVariables false
set_option linter.unusedSimpArgs false
set_option maxHeartbeats 1000000
namespace Go.Proofs.YtoopkbedjbnhhabGreatDoor.G
open Go.RowKit
set_option maxRecDepth 100000
theorem TrU_is1_21 : Is1 Tryz.prog 21 := ⟨⟨_, Tryz.underlying21, rfl⟩, by kernel_rfl⟩
theorem TrU_is1_5 : Is1 Tryz.prog 5 := ⟨⟨_, Tryz.underlying5, rfl⟩, by kernel_rfl⟩
open Go.Lib
theorem qfe {f p : Nat} {l : List UInt8} (hl : l ≠ []) : vy (f + 1) p l = ((p : Int), uR (decodeL l).1 (decodeL l).2) :: vy f (p + (decodeL l).2) (l.drop (decodeL l).2) := by
  conv => lhs; unfold vy
  rw [if_neg hl]
theorem rb_open {w : World} {so : Option Addr} {l : List UInt8} {i : Nat} (h : Rb w so l) (hi : i < l.length) : ∃ b off, so = some ⟨b, off, none⟩ ∧ b < w.heap.size ∧ ∀ j, j < l.length → w.cell? ⟨b, off + j, none⟩ = some (.int .u8 (((l.getD j 0).toNat : Nat) : Int)) :=
  h.pos (fun k => by rw [k] at hi; exact absurd hi (Nat.not_lt_zero _))
def xk (us : List (Int × Int)) : List Value := us.flatMap fun u => if u.2 = -1 then [.int .i32 0, .bool true, .int .i64 u.1] else [.int .i32 u.2, .bool false, .int .i64 u.1]
theorem and_u8 {x : Int} (i : Nat) (m : Int) (hm : m = ((2 ^ i - 1 : Nat) : Int)) (hs : m ≤ 255) (h0 : 0 ≤ x) (h1 : x ≤ 255) : bits .and .u8 x m = x % ((2 ^ i : Nat) : Int) := by
  obtain ⟨n, rfl⟩ : ∃ n : Nat, x = (n : Int) := ⟨x.toNat, by omega⟩
  subst hm
  have h2 : n &&& (2 ^ i - 1) = n % 2 ^ i := Nat.and_two_pow_sub_one_eq_mod n i
  have e : (BitVec.ofInt IntKind.u8.bits (n : Int) &&& BitVec.ofInt IntKind.u8.bits (((2 ^ i - 1 : Nat)) : Int)).toNat = n % 2 ^ i := by
    rw [← h2, BitVec.ofInt_natCast, BitVec.ofInt_natCast, BitVec.toNat_and, BitVec.toNat_ofNat, BitVec.toNat_ofNat]
    show n % 256 &&& (2 ^ i - 1) % 256 = _
    rw [Nat.mod_eq_of_lt (by omega), Nat.mod_eq_of_lt (by omega)]
  show IntKind.u8.wrap ((BitVec.ofInt IntKind.u8.bits (n : Int) &&& BitVec.ofInt IntKind.u8.bits (((2 ^ i - 1 : Nat)) : Int)).toNat : Int) = _
  rw [e]
  have := Nat.mod_le n (2 ^ i)
  exact (in_u8 (by omega) (by omega)).trans (Int.natCast_emod n (2 ^ i))
theorem or_six {c x : Int} (h0 : 0 ≤ c) (h1 : c ≤ 33554431) (h2 : 0 ≤ x) (h3 : x ≤ 63) : bits .or .i32 (c * 64) x = c * 64 + x := by
  obtain ⟨a, rfl⟩ : ∃ a : Nat, c = (a : Int) := ⟨c.toNat, by omega⟩
  obtain ⟨n, rfl⟩ : ∃ n : Nat, x = (n : Int) := ⟨x.toNat, by omega⟩
  have := Nat.two_pow_add_eq_or_of_lt (i := 6) (b := n) (by omega) a
  rw [show (2 : Nat) ^ 6 = 64 from rfl] at this
  have e := or_i32 (64 * a) n (by omega) (by omega)
  rw [show (((64 * a : Nat)) : Int) = (a : Int) * 64 from by omega] at e
  rw [e, ← this]
  omega
def qff (l : List UInt8) (i : Nat) : List (Int × Int) := vy (l.length - i) i (l.drop i)
theorem restU_zero (l : List UInt8) : qff l 0 = jx l := by unfold qff jx; rw [List.drop_zero, Nat.sub_zero]
theorem restU_over {l : List UInt8} {i : Nat} (h : ¬ i < l.length) : qff l i = [] := by unfold qff; rw [show l.length - i = 0 from by omega]; rfl
theorem qjh {l : List UInt8} {i r q : Nat} (h : i < l.length) (e : decodeN (l.length - i) (l.getD i 0).toNat (l.getD (i + 1) 0).toNat (l.getD (i + 2) 0).toNat (l.getD (i + 3) 0).toNat = (r, q)) : qff l i = ((i : Int), uR r q) :: qff l (i + q) := by
  have hne : l.drop i ≠ [] := fun k => by
    have := congrArg List.length k
    rw [List.length_drop, List.length_nil] at this
    omega
  have hd : decodeL (l.drop i) = (r, q) := by
    rw [decodeL_N, uf, uf, uf, uf, List.length_drop]
    exact e
  have hw := yv _ hne
  rw [hd, List.length_drop] at hw
  simp only at hw
  unfold qff
  obtain ⟨m, hm⟩ : ∃ m, l.length - i = m + 1 := ⟨l.length - i - 1, by omega⟩
  rw [hm, qfe hne, hd, List.drop_drop]
  simp only
  rw [qei m (l.length - (i + q)) _ _ (by rw [List.length_drop]; omega) (by rw [List.length_drop]; omega)]
def LeadU (x n : Nat) (r : Int) : Prop := (x < 128 ∧ n = 1 ∧ r = x) ∨ (192 ≤ x ∧ x < 224 ∧ n = 2 ∧ r = x % 32) ∨ (224 ≤ x ∧ x < 240 ∧ n = 3 ∧ r = x % 16) ∨ (240 ≤ x ∧ x < 248 ∧ n = 4 ∧ r = x % 8) ∨ ((128 ≤ x ∧ x < 192 ∨ 248 ≤ x) ∧ n = 0 ∧ r = 0)
def ContU (len i n : Nat) (b1 b2 b3 : Nat) (r : Int) (k : Nat) (rk : Int) (ok : Bool) : Prop := (ok = true ∧ 0 < n ∧ i + n ≤ len ∧ k ≤ n ∧ ((k = 1 ∧ rk = r) ∨ (k = 2 ∧ b1 / 64 = 2 ∧ rk = r * 64 + ((b1 % 64 : Nat) : Int)) ∨ (k = 3 ∧ b1 / 64 = 2 ∧ b2 / 64 = 2 ∧ rk = (r * 64 + ((b1 % 64 : Nat) : Int)) * 64 + ((b2 % 64 : Nat) : Int)) ∨ (k = 4 ∧ b1 / 64 = 2 ∧ b2 / 64 = 2 ∧ b3 / 64 = 2 ∧ rk = ((r * 64 + ((b1 % 64 : Nat) : Int)) * 64 + ((b2 % 64 : Nat) : Int)) * 64 + ((b3 % 64 : Nat) : Int)))) ∨
  (ok = false ∧ (¬ (0 < n ∧ i + n ≤ len) ∨ (1 < n ∧ b1 / 64 ≠ 2) ∨ (2 < n ∧ b2 / 64 ≠ 2) ∨ (3 < n ∧ b3 / 64 ≠ 2)))
def qca (n : Nat) : Int := if n = 2 then 128 else if n = 3 then 2048 else 65536
theorem least_at {n : Nat} (h0 : 2 ≤ n) (h1 : n ≤ 4) : ([.int .i32 0, .int .i32 0, .int .i32 128, .int .i32 2048, .int .i32 65536] : List Value)[n * 1]? = some (.int .i32 (qca n)) := by
  have h : n = 2 ∨ n = 3 ∨ n = 4 := by omega
  rcases h with rfl | rfl | rfl <;> rfl
theorem lead_4 {x n : Nat} {r : Int} (h : LeadU x n r) : n ≤ 4 ∧ 0 ≤ r ∧ r ≤ 127 ∧ (1 < n → r ≤ 31) := by unfold LeadU at h; omega
theorem cont_start {len i n b1 b2 b3 : Nat} {r : Int} {ok : Bool} (h : ok = decide (0 < n ∧ i + n ≤ len)) : ContU len i n b1 b2 b3 r 1 r ok := by
  unfold ContU
  by_cases k : 0 < n ∧ i + n ≤ len
  · exact .inl ⟨by rw [h, decide_eq_true k], k.1, k.2, by omega, .inl ⟨rfl, rfl⟩⟩
  · exact .inr ⟨by rw [h, decide_eq_false k], .inl k⟩
theorem cont_step {l : List UInt8} {i n k : Nat} {r rk : Int} (hn : n ≤ 4) (h : ContU l.length i n (l.getD (i + 1) 0).toNat (l.getD (i + 2) 0).toNat (l.getD (i + 3) 0).toNat r k rk true) (hk : k < n) : ContU l.length i n (l.getD (i + 1) 0).toNat (l.getD (i + 2) 0).toNat (l.getD (i + 3) 0).toNat r (k + 1) (rk * 64 + (((l.getD (i + k) 0).toNat : Nat) : Int) % 64) ((((l.getD (i + k) 0).toNat : Nat) : Int) / 64 == 2) := by
  rcases h with ⟨_, h1, h2, h3, h4⟩ | ⟨h, _⟩
  · unfold ContU
    have e : k = 1 ∨ k = 2 ∨ k = 3 := by omega
    rcases e with rfl | rfl | rfl
    · by_cases hb : (((l.getD (i + 1) 0).toNat : Nat) : Int) / 64 = 2
      · exact .inl ⟨beq_iff_eq.2 hb, h1, h2, by omega, by omega⟩
      · exact .inr ⟨beq_eq_false_iff_ne.2 hb, by omega⟩
    · by_cases hb : (((l.getD (i + 2) 0).toNat : Nat) : Int) / 64 = 2
      · exact .inl ⟨beq_iff_eq.2 hb, h1, h2, by omega, by omega⟩
      · exact .inr ⟨beq_eq_false_iff_ne.2 hb, by omega⟩
    · by_cases hb : (((l.getD (i + 3) 0).toNat : Nat) : Int) / 64 = 2
      · exact .inl ⟨beq_iff_eq.2 hb, h1, h2, by omega, by omega⟩
      · exact .inr ⟨beq_eq_false_iff_ne.2 hb, by omega⟩
  · cases h
theorem yg {len i n b1 b2 b3 k : Nat} {r rk : Int} (h : ContU len i n b1 b2 b3 r k rk true) : 0 < n ∧ i + n ≤ len ∧ k ≤ n ∧ 1 ≤ k ∧ (0 ≤ r → r ≤ 31 → k ≤ 3 → 0 ≤ rk ∧ rk ≤ 200000) ∧ (0 ≤ r → r ≤ 31 → 0 ≤ rk ∧ rk ≤ 40000000) ∧ (k = 1 → rk = r) := by
  rcases h with ⟨_, h1, h2, h3, h4⟩ | ⟨h, _⟩
  · omega
  · cases h
def EndU (len i n : Nat) (b0 b1 b2 b3 : Nat) (rk : Int) (ok : Bool) : Prop := (ok = true ∧ decodeN (len - i) b0 b1 b2 b3 = (rk.toNat, n) ∧ uR rk.toNat n = rk ∧ 0 ≤ rk ∧ 1 ≤ n ∧ i + n ≤ len) ∨ (ok = false ∧ decodeN (len - i) b0 b1 b2 b3 = (65533, 1))
theorem end_ok {len i n b0 b1 b2 b3 : Nat} {r rk : Int} (hi : i < len) (h0 : b0 < 256) (hL : LeadU b0 n r) (hC : ContU len i n b1 b2 b3 r n rk true) (h : n = 1 ∨ (qca n ≤ rk ∧ rk ≤ 1114111 ∧ (rk < 55296 ∨ 57343 < rk))) : EndU len i n b0 b1 b2 b3 rk true := by
  rcases hC with ⟨_, h1, h2, h3, h4⟩ | ⟨h, _⟩
  · unfold LeadU at hL
    unfold qca at h
    have hn : n = 1 ∨ n = 2 ∨ n = 3 ∨ n = 4 := by omega
    refine .inl ⟨rfl, ?_, ?_, by rcases hn with rfl | rfl | rfl | rfl <;> omega, h1, h2⟩
    · unfold decodeN
      rcases hn with rfl | rfl | rfl | rfl
      · rw [if_pos (by omega)]
        exact Prod.ext (by show b0 = rk.toNat; omega) rfl
      · simp only [if_true] at h
        rw [if_neg (by omega), if_pos (by omega), if_pos (by omega)]
        exact Prod.ext (by show (_ : Nat) = rk.toNat; omega) rfl
      · rw [if_neg (show ¬ 3 = 2 by decide), if_pos rfl] at h
        rw [if_neg (by omega), if_neg (by omega), if_pos (by omega), if_pos (by omega)]
        exact Prod.ext (by show (_ : Nat) = rk.toNat; omega) rfl
      · rw [if_neg (show ¬ 4 = 2 by decide), if_neg (show ¬ 4 = 3 by decide)] at h
        rw [if_neg (by omega), if_neg (by omega), if_neg (by omega), if_pos (by omega), if_pos (by omega)]
        exact Prod.ext (by show (_ : Nat) = rk.toNat; omega) rfl
    · unfold uR
      rw [if_neg (by rcases hn with rfl | rfl | rfl | rfl <;> omega)]
      rcases hn with rfl | rfl | rfl | rfl <;> omega
  · cases h
theorem end_no {len i n b0 b1 b2 b3 k : Nat} {r rk : Int} {ok : Bool} (hi : i < len) (h0 : b0 < 256) (hL : LeadU b0 n r) (hC : ContU len i n b1 b2 b3 r k rk ok) (hk : ok = true → k = n) (h : ok = false ∨ (n ≠ 1 ∧ ¬ (qca n ≤ rk ∧ rk ≤ 1114111 ∧ (rk < 55296 ∨ 57343 < rk)))) : EndU len i n b0 b1 b2 b3 rk false := by
  refine .inr ⟨rfl, ?_⟩
  unfold LeadU at hL
  unfold decodeN
  rcases hC with ⟨hb, h1, h2, h3, h4⟩ | ⟨hb, h4⟩
  · have hkn := hk hb
    subst hkn
    rcases h with h | ⟨h5, h6⟩
    · rw [hb] at h; cases h
    · have hn : k = 2 ∨ k = 3 ∨ k = 4 := by omega
      unfold qca at h6
      rcases hn with rfl | rfl | rfl
      · simp only [if_true] at h6
        rw [if_neg (by omega), if_pos (by omega), if_neg (by omega)]
      · rw [if_neg (show ¬ 3 = 2 by decide), if_pos rfl] at h6
        rw [if_neg (by omega), if_neg (by omega), if_pos (by omega), if_neg (by omega)]
      · rw [if_neg (show ¬ 4 = 2 by decide), if_neg (show ¬ 4 = 3 by decide)] at h6
        rw [if_neg (by omega), if_neg (by omega), if_neg (by omega), if_pos (by omega), if_neg (by omega)]
  · rw [if_neg (by omega), if_neg (by omega), if_neg (by omega), if_neg (by omega)]
theorem rutf8_any {w : World} {so : Option Addr} {cap : Nat} {l : List UInt8} (hb : Rb w so l) (hlen : l.length ≤ 4000000) : Calls Tryz.prog 79 #[.slice so l.length cap] w fun e w' => ∃ v, e = .returned v ∧ Mg w w' [.row 107 3 v (jx l).length (xk (jx l))] := by
 have hM : Mg w w ([]) := Mg.start w
 refine zb (l := [(0, .slice so l.length cap)]) Tryz.func79 rfl Tryz.ntmps79 rfl rfl ?_
 intro Q hret hnorm hP a hA
 refine wp_seq_k (fun K1 hK1 => ?_)
 refine wp_region_lit ?_
 refine qa hA rfl rfl rfl (qb rfl) ?_
 intro a hA
 refine qf ?_
 refine hK1 _ _ ?_
 refine wp_seq_k (fun K2 hK2 => ?_)
 refine wp_region_lit ?_
 refine vt (e := 107) (sz := 3) (m := 0) (vs := []) hA hM rfl rfl rfl (qx rfl (by kernel_rfl)) rfl rfl (.inl (by decide)) ?_
 intro g3 w4 hM a hA
 refine qa hA rfl rfl rfl (qb rfl) ?_
 intro a hA
 refine qf ?_
 refine hK2 _ _ ?_
 refine wp_seq_k (fun K5 hK5 => ?_)
 refine wp_seq_k (fun K6 hK6 => ?_)
 refine wp_region_lit ?_
 refine qa hA rfl rfl rfl (qb rfl) ?_
 intro a hA
 refine qf ?_
 refine hK6 _ _ ?_
 refine wp_block ?_
 refine jq (fun m_ a w1 => ∃ (i : Nat) (acc : List (Int × Int)) (vo : Value), m_ = l.length - i ∧ (acc ++ qff l i = jx l ∧ i ≤ l.length ∧ acc.length ≤ i) ∧ Sl a 122 [(0, .slice so l.length cap), (2, .slice none 0 0), (3, vo), (4, .int .i64 (((i : Nat) : Int))), (12, .slice (some ⟨g3, 0, none⟩) 0 0)] ∧ Mg w w1 (.row 107 3 (vo) acc.length ((xk acc)) :: [])) _ ⟨0, [], .slice (some ⟨g3, 0, none⟩) 0 0, rfl, ⟨by rw [restU_zero]; rfl, Nat.zero_le _, Nat.le_refl _⟩, hA.keep _ ⟨rfl, rfl, rfl, rfl, rfl, trivial⟩, hM⟩ ?_
 clear hM hA
 rintro m_ a w7 ⟨i, acc, vo, rfl, hinv9, hA, hM⟩ K8 hK8
 obtain ⟨hrun, hi9, hacc⟩ := hinv9
 refine wp_seq_k (fun K10 hK10 => ?_)
 refine wp_seq_k (fun K11 hK11 => ?_)
 refine wp_region_lit ?_
 refine qa hA rfl rfl rfl (qe rfl) ?_
 intro a hA
 refine qa hA rfl rfl rfl (qe rfl) ?_
 intro a hA
 refine qa (v := .int .i64 (((l.length : Nat) : Int))) hA rfl rfl rfl (zj Tryz.underlying28 rfl) ?_
 intro a hA
 rcases Bool.eq_false_or_eq_true (decide (((i : Nat) : Int) < ((l.length : Nat) : Int))) with hb12 | hb12
 · have hb12' := of_decide_eq_true hb12
   refine qa (v := .bool true) hA rfl rfl rfl (qg rfl rfl (fun w => (zt w).trans (by rw [hb12]))) ?_
   intro a hA
   refine qf ?_
   refine hK11 _ _ ?_
   refine wp_cond_true (hA.ev rfl) ?_
   refine wp_skip ?_
   refine hK10 _ _ ?_
   refine wp_block ?_
   refine wp_seq_k (fun K13 hK13 => ?_)
   refine wp_region_lit ?_
   refine qa hA rfl rfl rfl (qb rfl) ?_
   intro a hA
   refine qa hA rfl rfl rfl (qb rfl) ?_
   intro a hA
   refine qf ?_
   refine hK13 _ _ ?_
   refine wp_seq_k (fun K14 hK14 => ?_)
   have hi8 : i < l.length := by omega
   refine wp_region_lit ?_
   refine qa hA rfl rfl rfl (qe rfl) ?_
   intro a hA
   refine qa hA rfl rfl rfl (qe rfl) ?_
   intro a hA
   obtain ⟨bx, ox, hx1, hx2, hx3⟩ := rb_open (i := i) hb (by omega)
   have hu9 := (l.getD (i) 0).toNat_lt
   refine qa (v := .pointer (some ⟨bx, ox + (i), none⟩)) hA rfl rfl rfl (zp (k := i) Tryz.underlying28 (by kernel_rfl) rfl rfl rfl hx1 (by omega)) ?_
   intro a hA
   refine qa (v := .int .u8 ((((l.getD i 0).toNat : Nat) : Int))) hA rfl rfl rfl (m_loadR hM hx2 (hx3 (i) (by omega)) TrU_is1_5 rfl) ?_
   intro a hA
   refine qa hA rfl rfl rfl (qb rfl) ?_
   intro a hA
   refine qf ?_
   refine hK14 _ _ ?_
   refine wp_seq_k (fun K15 hK15 => ?_)
   have hJ16 : ∀ a w1, (∃ (n : Nat) (r : Int), (LeadU (l.getD i 0).toNat n r) ∧ Sl a 122 [(0, .slice so l.length cap), (2, .slice none 0 0), (3, vo), (4, .int .i64 (((i : Nat) : Int))), (5, .int .i64 (((n : Nat) : Int))), (6, .int .i32 r), (12, .slice (some ⟨g3, 0, none⟩) 0 0), (13, .int .i64 (((i : Nat) : Int))), (14, .slice so l.length cap), (15, .int .i64 (((l.length : Nat) : Int))), (16, .bool true), (17, .slice so l.length cap), (18, .int .i64 (((i : Nat) : Int))), (19, .pointer (some ⟨bx, ox + (i), none⟩)), (20, .int .u8 ((((l.getD i 0).toNat : Nat) : Int)))] ∧ Mg w w1 (.row 107 3 (vo) acc.length ((xk acc)) :: [])) → K15 a w1 := by
     clear hA hM
     rintro a w17 ⟨n, r, hf18, hA, hM⟩
     have hL := hf18
     have hn4 := lead_4 hL
     refine hK15 _ _ ?_
     refine wp_seq_k (fun K19 hK19 => ?_)
     have hJ20 : ∀ a w1, (∃ (ok : Bool), (ok = decide (0 < n ∧ i + n ≤ l.length)) ∧ Sl a 122 [(0, .slice so l.length cap), (2, .slice none 0 0), (3, vo), (4, .int .i64 (((i : Nat) : Int))), (5, .int .i64 (((n : Nat) : Int))), (6, .int .i32 r), (8, .bool ok), (12, .slice (some ⟨g3, 0, none⟩) 0 0), (13, .int .i64 (((i : Nat) : Int))), (14, .slice so l.length cap), (15, .int .i64 (((l.length : Nat) : Int))), (16, .bool true), (17, .slice so l.length cap), (18, .int .i64 (((i : Nat) : Int))), (19, .pointer (some ⟨bx, ox + (i), none⟩)), (20, .int .u8 ((((l.getD i 0).toNat : Nat) : Int)))] ∧ Mg w w1 (.row 107 3 (vo) acc.length ((xk acc)) :: [])) → K19 a w1 := by
       clear hA hM
       rintro a w21 ⟨ok, hf22, hA, hM⟩
       have hok := hf22
       refine hK19 _ _ ?_
       refine wp_seq_k (fun K23 hK23 => ?_)
       have hJ24 : ∀ a w1, (∃ (k : Nat) (rk : Int) (ok3 : Bool), (ContU l.length i n (l.getD (i + 1) 0).toNat (l.getD (i + 2) 0).toNat (l.getD (i + 3) 0).toNat r k rk ok3 ∧ (ok3 = true → k = n)) ∧ Sl a 122 [(0, .slice so l.length cap), (2, .slice none 0 0), (3, vo), (4, .int .i64 (((i : Nat) : Int))), (5, .int .i64 (((n : Nat) : Int))), (6, .int .i32 rk), (8, .bool ok3), (12, .slice (some ⟨g3, 0, none⟩) 0 0), (13, .int .i64 (((i : Nat) : Int))), (14, .slice so l.length cap), (15, .int .i64 (((l.length : Nat) : Int))), (16, .bool true), (17, .slice so l.length cap), (18, .int .i64 (((i : Nat) : Int))), (19, .pointer (some ⟨bx, ox + (i), none⟩)), (20, .int .u8 ((((l.getD i 0).toNat : Nat) : Int)))] ∧ Mg w w1 (.row 107 3 (vo) acc.length ((xk acc)) :: [])) → K23 a w1 := by
         clear hA hM
         rintro a w25 ⟨k, rk, ok3, hf26, hA, hM⟩
         obtain ⟨hC, hkn⟩ := hf26
         refine hK23 _ _ ?_
         refine wp_seq_k (fun K27 hK27 => ?_)
         have hJ28 : ∀ a w1, (∃ (ok4 : Bool), (EndU l.length i n (l.getD i 0).toNat (l.getD (i + 1) 0).toNat (l.getD (i + 2) 0).toNat (l.getD (i + 3) 0).toNat rk ok4) ∧ Sl a 122 [(0, .slice so l.length cap), (2, .slice none 0 0), (3, vo), (4, .int .i64 (((i : Nat) : Int))), (5, .int .i64 (((n : Nat) : Int))), (6, .int .i32 rk), (8, .bool ok4), (12, .slice (some ⟨g3, 0, none⟩) 0 0), (13, .int .i64 (((i : Nat) : Int))), (14, .slice so l.length cap), (15, .int .i64 (((l.length : Nat) : Int))), (16, .bool true), (17, .slice so l.length cap), (18, .int .i64 (((i : Nat) : Int))), (19, .pointer (some ⟨bx, ox + (i), none⟩)), (20, .int .u8 ((((l.getD i 0).toNat : Nat) : Int)))] ∧ Mg w w1 (.row 107 3 (vo) acc.length ((xk acc)) :: [])) → K27 a w1 := by
           clear hA hM
           rintro a w29 ⟨ok4, hf30, hA, hM⟩
           have hE := hf30
           refine hK27 _ _ ?_
           refine wp_seq_k (fun K31 hK31 => ?_)
           refine wp_region_lit ?_
           refine qa hA rfl rfl rfl (qe rfl) ?_
           intro a hA
           refine qf ?_
           refine hK31 _ _ ?_
           refine wp_cond_split (t := ok4) (hA.ev rfl) (fun hc32 => ?_) (fun hc32 => ?_)
           · refine wp_seq_k (fun K33 hK33 => ?_)
             refine wp_region_lit ?_
             refine qa hA rfl rfl rfl (qe rfl) ?_
             intro a hA
             refine qa hA rfl rfl rfl (qe rfl) ?_
             intro a hA
             refine qa hA rfl rfl rfl (qe rfl) ?_
             intro a hA
             refine qa (v := .agg #[.int .i32 rk, .bool false, .int .i64 (((i : Nat) : Int))]) hA rfl rfl rfl (jt rfl (fun w => by kernel_rfl)) ?_
             intro a hA
             refine vt (e := 107) (sz := 3) (m := 1) (vs := [.int .i32 rk, .bool false, .int .i64 (((i : Nat) : Int))]) hA hM rfl rfl rfl (qx rfl (by kernel_rfl)) rfl rfl (.inl (by decide)) ?_
             intro g34 w35 hM a hA
             refine vp (e := 107) (sz := 3) (k := 1) (q := acc.length) (m := 1) (xs := (xk acc)) (news := [.int .i32 rk, .bool false, .int .i64 (((i : Nat) : Int))]) (L' := fun v36 => (.row 107 3 (.slice (some ⟨g34, 0, none⟩) 1 1) 1 ([.int .i32 rk, .bool false, .int .i64 (((i : Nat) : Int))]) :: .row 107 3 (v36) (acc.length + 1) ((xk acc) ++ [.int .i32 rk, .bool false, .int .i64 (((i : Nat) : Int))]) :: [])) hA rfl rfl rfl (qlf (z := .agg #[.int .i32 0, .bool false, .int .i64 0]) (sz := 3) (by_ := 16) Tryz.underlying104 (by kernel_rfl) rfl rfl rfl hM 1 rfl rfl 0 rfl rfl rfl rfl (by omega)) (fun _ => rfl) ?_
             intro v36 w37 hM a hA
             refine qa hA rfl rfl rfl (qb rfl) ?_
             intro a hA
             refine qf ?_
             refine hK33 _ _ ?_
             refine wp_region_lit ?_
             refine qa hA rfl rfl rfl (qe rfl) ?_
             intro a hA
             refine qa hA rfl rfl rfl (qe rfl) ?_
             intro a hA
             refine qa (v := .int .i64 (((i + n : Nat) : Int))) hA rfl rfl rfl (qg rfl rfl (ar_add ((in_i64 (by omega) (by omega)).trans (by omega)))) ?_
             intro a hA
             refine qa hA rfl rfl rfl (qb rfl) ?_
             intro a hA
             refine qf ?_
             obtain ⟨hd, hr9, hrk, hn1, hn2⟩ : decodeN (l.length - i) (l.getD i 0).toNat (l.getD (i + 1) 0).toNat (l.getD (i + 2) 0).toNat (l.getD (i + 3) 0).toNat = (rk.toNat, n) ∧ uR rk.toNat n = rk ∧ 0 ≤ rk ∧ 1 ≤ n ∧ i + n ≤ l.length := by
               rcases hE with ⟨_, h⟩ | ⟨h, _⟩
               · exact h
               · rw [hc32] at h; cases h
             have hs9 := qjh hi8 hd
             rw [hr9] at hs9
             replace hM : Mg w w37 [.row 107 3 v36 (acc ++ [((i : Int), rk)]).length (xk (acc ++ [((i : Int), rk)]))] := by
               have h9 := hM.sub (cN (cC (.refl _)))
               have e9 : xk (acc ++ [((i : Int), rk)]) = xk acc ++ [.int .i32 rk, .bool false, .int .i64 (((i : Nat) : Int))] := by
                 unfold xk
                 rw [List.flatMap_append, List.flatMap_singleton]
                 rw [if_neg (show ¬ _ = (-1 : Int) by simp only; omega)]
               rw [e9, List.length_append]
               exact h9
             refine hK8 _ _ _ (by omega) ⟨i + n, acc ++ [((i : Int), rk)], v36, rfl, ⟨by rw [← hrun, hs9, List.append_assoc]; rfl, by omega, by rw [List.length_append]; simp only [List.length_cons, List.length_nil]; omega⟩, hA.keep _ ⟨rfl, rfl, rfl, rfl, rfl, trivial⟩, hM⟩
           · refine wp_seq_k (fun K38 hK38 => ?_)
             refine wp_region_lit ?_
             refine qa hA rfl rfl rfl (qe rfl) ?_
             intro a hA
             refine qa hA rfl rfl rfl (qe rfl) ?_
             intro a hA
             refine qa (v := .agg #[.int .i32 0, .bool true, .int .i64 (((i : Nat) : Int))]) hA rfl rfl rfl (jt rfl (fun w => by kernel_rfl)) ?_
             intro a hA
             refine vt (e := 107) (sz := 3) (m := 1) (vs := [.int .i32 0, .bool true, .int .i64 (((i : Nat) : Int))]) hA hM rfl rfl rfl (qx rfl (by kernel_rfl)) rfl rfl (.inl (by decide)) ?_
             intro g39 w40 hM a hA
             refine vp (e := 107) (sz := 3) (k := 1) (q := acc.length) (m := 1) (xs := (xk acc)) (news := [.int .i32 0, .bool true, .int .i64 (((i : Nat) : Int))]) (L' := fun v41 => (.row 107 3 (.slice (some ⟨g39, 0, none⟩) 1 1) 1 ([.int .i32 0, .bool true, .int .i64 (((i : Nat) : Int))]) :: .row 107 3 (v41) (acc.length + 1) ((xk acc) ++ [.int .i32 0, .bool true, .int .i64 (((i : Nat) : Int))]) :: [])) hA rfl rfl rfl (qlf (z := .agg #[.int .i32 0, .bool false, .int .i64 0]) (sz := 3) (by_ := 16) Tryz.underlying104 (by kernel_rfl) rfl rfl rfl hM 1 rfl rfl 0 rfl rfl rfl rfl (by omega)) (fun _ => rfl) ?_
             intro v41 w42 hM a hA
             refine qa hA rfl rfl rfl (qb rfl) ?_
             intro a hA
             refine qf ?_
             refine hK38 _ _ ?_
             refine wp_region_lit ?_
             refine qa hA rfl rfl rfl (qe rfl) ?_
             intro a hA
             refine qa (v := .int .i64 (((i + 1 : Nat) : Int))) hA rfl rfl rfl (qg rfl rfl (ar_add ((in_i64 (by omega) (by omega)).trans (by omega)))) ?_
             intro a hA
             refine qa hA rfl rfl rfl (qb rfl) ?_
             intro a hA
             refine qf ?_
             have hd : decodeN (l.length - i) (l.getD i 0).toNat (l.getD (i + 1) 0).toNat (l.getD (i + 2) 0).toNat (l.getD (i + 3) 0).toNat = (65533, 1) := by
               rcases hE with ⟨h, _⟩ | ⟨_, h⟩
               · rw [hc32] at h; cases h
               · exact h
             have hr9 : uR 65533 1 = -1 := by unfold uR; rw [if_pos ⟨rfl, by decide⟩]
             have hs9 := qjh hi8 hd
             rw [hr9] at hs9
             replace hM : Mg w w42 [.row 107 3 v41 (acc ++ [((i : Int), (-1))]).length (xk (acc ++ [((i : Int), (-1))]))] := by
               have h9 := hM.sub (cN (cC (.refl _)))
               have e9 : xk (acc ++ [((i : Int), (-1))]) = xk acc ++ [.int .i32 0, .bool true, .int .i64 (((i : Nat) : Int))] := by
                 unfold xk
                 rw [List.flatMap_append, List.flatMap_singleton]
                 rw [if_pos rfl]
               rw [e9, List.length_append]
               exact h9
             refine hK8 _ _ _ (by omega) ⟨i + 1, acc ++ [((i : Int), (-1))], v41, rfl, ⟨by rw [← hrun, hs9, List.append_assoc]; rfl, by omega, by rw [List.length_append]; simp only [List.length_cons, List.length_nil]; omega⟩, hA.keep _ ⟨rfl, rfl, rfl, rfl, rfl, trivial⟩, hM⟩
         refine wp_seq_k (fun K43 hK43 => ?_)
         refine wp_region_lit ?_
         refine qa hA rfl rfl rfl (qe rfl) ?_
         intro a hA
         refine qa hA rfl rfl rfl (qe rfl) ?_
         intro a hA
         rcases ok3 with _ | _
         · refine qj hA rfl rfl rfl ?_
           intro a hA
           refine qj hA rfl rfl rfl ?_
           intro a hA
           refine qa (v := .bool false) hA rfl rfl rfl (qi rfl rfl rfl rfl) ?_
           intro a hA
           refine qf ?_
           refine hK43 _ _ ?_
           refine wp_cond_false (hA.ev rfl) ?_
           refine wp_skip ?_
           replace hM : Mg w w25 (.row 107 3 (vo) acc.length ((xk acc)) :: []) := by
             have h9 := hM.sub (cC (.refl _))
             exact h9
           exact hJ28 _ _ ⟨false, end_no hi8 ((l.getD i 0).toNat_lt) hL hC hkn (.inl rfl), hA.keep _ (by repeat' constructor), hM⟩
         · refine qa hA rfl rfl rfl (qe rfl) ?_
           intro a hA
           rcases Bool.eq_false_or_eq_true (decide (1 < ((n : Nat) : Int))) with hb44 | hb44
           · have hb44' := of_decide_eq_true hb44
             refine qa (v := .bool true) hA rfl rfl rfl (qg rfl rfl (fun w => (ju w).trans (by rw [hb44]))) ?_
             intro a hA
             refine qa (v := .bool true) hA rfl rfl rfl (qi rfl rfl rfl rfl) ?_
             intro a hA
             refine qf ?_
             refine hK43 _ _ ?_
             refine wp_cond_true (hA.ev rfl) ?_
             refine wp_seq_k (fun K45 hK45 => ?_)
             refine wp_region_lit ?_
             refine vt (e := 21) (sz := 1) (m := 5) (vs := [.int .i32 0, .int .i32 0, .int .i32 128, .int .i32 2048, .int .i32 65536]) hA hM rfl rfl rfl (qx rfl (by kernel_rfl)) rfl rfl (.inl (by decide)) ?_
             intro g46 w47 hM a hA
             refine qa hA rfl rfl rfl (qb rfl) ?_
             intro a hA
             refine qf ?_
             refine hK45 _ _ ?_
             have hc9 := yg hC
             refine wp_region_lit ?_
             refine qa hA rfl rfl rfl (qe rfl) ?_
             intro a hA
             refine qa hA rfl rfl rfl (qe rfl) ?_
             intro a hA
             refine qa hA rfl rfl rfl (qe rfl) ?_
             intro a hA
             refine qa (v := .pointer (some ⟨g46, n * 1, none⟩)) hA rfl rfl rfl (vb (k := n) Tryz.underlying134 (by kernel_rfl) rfl rfl rfl (by omega)) ?_
             intro a hA
             refine qa (v := .int .i32 (qca n)) hA rfl rfl rfl (m_loadE hM 0 rfl (least_at (by omega) (by omega)) TrU_is1_21 rfl) ?_
             intro a hA
             rcases Bool.eq_false_or_eq_true (decide (qca n ≤ rk)) with hb48 | hb48
             · have hb48' := of_decide_eq_true hb48
               refine qa (v := .bool true) hA rfl rfl rfl (qg rfl rfl (fun w => (xu w).trans (by rw [hb48]))) ?_
               intro a hA
               refine qa hA rfl rfl rfl (qe rfl) ?_
               intro a hA
               refine qa hA rfl rfl rfl (qe rfl) ?_
               intro a hA
               rcases Bool.eq_false_or_eq_true (decide (rk ≤ 1114111)) with hb49 | hb49
               · have hb49' := of_decide_eq_true hb49
                 refine qa (v := .bool true) hA rfl rfl rfl (qg rfl rfl (fun w => (vv w).trans (by rw [hb49]))) ?_
                 intro a hA
                 refine qa (v := .bool true) hA rfl rfl rfl (qi rfl rfl rfl rfl) ?_
                 intro a hA
                 refine qa hA rfl rfl rfl (qe rfl) ?_
                 intro a hA
                 refine qa hA rfl rfl rfl (qe rfl) ?_
                 intro a hA
                 rcases Bool.eq_false_or_eq_true (decide (rk < 55296)) with hb50 | hb50
                 · have hb50' := of_decide_eq_true hb50
                   refine qa (v := .bool true) hA rfl rfl rfl (qg rfl rfl (fun w => (zt w).trans (by rw [hb50]))) ?_
                   intro a hA
                   refine qa hA rfl rfl rfl (qe rfl) ?_
                   intro a hA
                   refine qj hA rfl rfl rfl ?_
                   intro a hA
                   refine qj hA rfl rfl rfl ?_
                   intro a hA
                   refine qa (v := .bool true) hA rfl rfl rfl (qi rfl rfl rfl rfl) ?_
                   intro a hA
                   refine qa (v := .bool true) hA rfl rfl rfl (qi rfl rfl rfl rfl) ?_
                   intro a hA
                   refine qa hA rfl rfl rfl (qb rfl) ?_
                   intro a hA
                   refine qf ?_
                   replace hM : Mg w w47 (.row 107 3 (vo) acc.length ((xk acc)) :: []) := by
                     have h9 := hM.sub (cN (cC (.refl _)))
                     exact h9
                   have hc8 := yg hC
                   exact hJ28 _ _ ⟨true, end_ok hi8 ((l.getD i 0).toNat_lt) hL (hkn rfl ▸ hC) (by omega), hA.keep _ (by repeat' constructor), hM⟩
                 · have hb50' := of_decide_eq_false hb50
                   refine qa (v := .bool false) hA rfl rfl rfl (qg rfl rfl (fun w => (zt w).trans (by rw [hb50]))) ?_
                   intro a hA
                   refine qa hA rfl rfl rfl (qe rfl) ?_
                   intro a hA
                   refine qa hA rfl rfl rfl (qe rfl) ?_
                   intro a hA
                   rcases Bool.eq_false_or_eq_true (decide (57343 < rk)) with hb51 | hb51
                   · have hb51' := of_decide_eq_true hb51
                     refine qa (v := .bool true) hA rfl rfl rfl (qg rfl rfl (fun w => (ju w).trans (by rw [hb51]))) ?_
                     intro a hA
                     refine qa (v := .bool true) hA rfl rfl rfl (qi rfl rfl rfl rfl) ?_
                     intro a hA
                     refine qa (v := .bool true) hA rfl rfl rfl (qi rfl rfl rfl rfl) ?_
                     intro a hA
                     refine qa hA rfl rfl rfl (qb rfl) ?_
                     intro a hA
                     refine qf ?_
                     replace hM : Mg w w47 (.row 107 3 (vo) acc.length ((xk acc)) :: []) := by
                       have h9 := hM.sub (cN (cC (.refl _)))
                       exact h9
                     have hc8 := yg hC
                     exact hJ28 _ _ ⟨true, end_ok hi8 ((l.getD i 0).toNat_lt) hL (hkn rfl ▸ hC) (by omega), hA.keep _ (by repeat' constructor), hM⟩
                   · have hb51' := of_decide_eq_false hb51
                     refine qa (v := .bool false) hA rfl rfl rfl (qg rfl rfl (fun w => (ju w).trans (by rw [hb51]))) ?_
                     intro a hA
                     refine qa (v := .bool false) hA rfl rfl rfl (qi rfl rfl rfl rfl) ?_
                     intro a hA
                     refine qa (v := .bool false) hA rfl rfl rfl (qi rfl rfl rfl rfl) ?_
                     intro a hA
                     refine qa hA rfl rfl rfl (qb rfl) ?_
                     intro a hA
                     refine qf ?_
                     replace hM : Mg w w47 (.row 107 3 (vo) acc.length ((xk acc)) :: []) := by
                       have h9 := hM.sub (cN (cC (.refl _)))
                       exact h9
                     have hc8 := yg hC
                     exact hJ28 _ _ ⟨false, end_no hi8 ((l.getD i 0).toNat_lt) hL hC hkn (.inr ⟨by omega, by omega⟩), hA.keep _ (by repeat' constructor), hM⟩
               · have hb49' := of_decide_eq_false hb49
                 refine qa (v := .bool false) hA rfl rfl rfl (qg rfl rfl (fun w => (vv w).trans (by rw [hb49]))) ?_
                 intro a hA
                 refine qa (v := .bool false) hA rfl rfl rfl (qi rfl rfl rfl rfl) ?_
                 intro a hA
                 refine qa hA rfl rfl rfl (qe rfl) ?_
                 intro a hA
                 refine qj hA rfl rfl rfl ?_
                 intro a hA
                 refine qj hA rfl rfl rfl ?_
                 intro a hA
                 refine qj hA rfl rfl rfl ?_
                 intro a hA
                 refine kb hA rfl rfl rfl ?_
                 intro a hA
                 refine kb hA rfl rfl rfl ?_
                 intro a hA
                 refine qj hA rfl rfl rfl ?_
                 intro a hA
                 refine qa (v := .bool false) hA rfl rfl rfl (qi rfl rfl rfl rfl) ?_
                 intro a hA
                 refine qa hA rfl rfl rfl (qb rfl) ?_
                 intro a hA
                 refine qf ?_
                 replace hM : Mg w w47 (.row 107 3 (vo) acc.length ((xk acc)) :: []) := by
                   have h9 := hM.sub (cN (cC (.refl _)))
                   exact h9
                 have hc8 := yg hC
                 exact hJ28 _ _ ⟨false, end_no hi8 ((l.getD i 0).toNat_lt) hL hC hkn (.inr ⟨by omega, by omega⟩), hA.keep _ (by repeat' constructor), hM⟩
             · have hb48' := of_decide_eq_false hb48
               refine qa (v := .bool false) hA rfl rfl rfl (qg rfl rfl (fun w => (xu w).trans (by rw [hb48]))) ?_
               intro a hA
               refine qa hA rfl rfl rfl (qe rfl) ?_
               intro a hA
               refine qj hA rfl rfl rfl ?_
               intro a hA
               refine qj hA rfl rfl rfl ?_
               intro a hA
               refine qa (v := .bool false) hA rfl rfl rfl (qi rfl rfl rfl rfl) ?_
               intro a hA
               refine qa hA rfl rfl rfl (qe rfl) ?_
               intro a hA
               refine qj hA rfl rfl rfl ?_
               intro a hA
               refine qj hA rfl rfl rfl ?_
               intro a hA
               refine qj hA rfl rfl rfl ?_
               intro a hA
               refine kb hA rfl rfl rfl ?_
               intro a hA
               refine kb hA rfl rfl rfl ?_
               intro a hA
               refine qj hA rfl rfl rfl ?_
               intro a hA
               refine qa (v := .bool false) hA rfl rfl rfl (qi rfl rfl rfl rfl) ?_
               intro a hA
               refine qa hA rfl rfl rfl (qb rfl) ?_
               intro a hA
               refine qf ?_
               replace hM : Mg w w47 (.row 107 3 (vo) acc.length ((xk acc)) :: []) := by
                 have h9 := hM.sub (cN (cC (.refl _)))
                 exact h9
               have hc8 := yg hC
               exact hJ28 _ _ ⟨false, end_no hi8 ((l.getD i 0).toNat_lt) hL hC hkn (.inr ⟨by omega, by omega⟩), hA.keep _ (by repeat' constructor), hM⟩
           · have hb44' := of_decide_eq_false hb44
             refine qa (v := .bool false) hA rfl rfl rfl (qg rfl rfl (fun w => (ju w).trans (by rw [hb44]))) ?_
             intro a hA
             refine qa (v := .bool false) hA rfl rfl rfl (qi rfl rfl rfl rfl) ?_
             intro a hA
             refine qf ?_
             refine hK43 _ _ ?_
             refine wp_cond_false (hA.ev rfl) ?_
             refine wp_skip ?_
             replace hM : Mg w w25 (.row 107 3 (vo) acc.length ((xk acc)) :: []) := by
               have h9 := hM.sub (cC (.refl _))
               exact h9
             have hc8 := yg hC
             exact hJ28 _ _ ⟨true, end_ok hi8 ((l.getD i 0).toNat_lt) hL (hkn rfl ▸ hC) (by omega), hA.keep _ (by repeat' constructor), hM⟩
       refine wp_seq_k (fun K52 hK52 => ?_)
       refine wp_region_lit ?_
       refine qa hA rfl rfl rfl (qb rfl) ?_
       intro a hA
       refine qf ?_
       refine hK52 _ _ ?_
       refine wp_block ?_
       refine jq (fun m_ a w1 => ∃ (k : Nat) (rk : Int) (ok2 : Bool), m_ = 5 - k ∧ (ContU l.length i n (l.getD (i + 1) 0).toNat (l.getD (i + 2) 0).toNat (l.getD (i + 3) 0).toNat r k rk ok2) ∧ Sl a 122 [(0, .slice so l.length cap), (2, .slice none 0 0), (3, vo), (4, .int .i64 (((i : Nat) : Int))), (5, .int .i64 (((n : Nat) : Int))), (6, .int .i32 rk), (8, .bool ok2), (9, .int .i64 (((k : Nat) : Int))), (12, .slice (some ⟨g3, 0, none⟩) 0 0), (13, .int .i64 (((i : Nat) : Int))), (14, .slice so l.length cap), (15, .int .i64 (((l.length : Nat) : Int))), (16, .bool true), (17, .slice so l.length cap), (18, .int .i64 (((i : Nat) : Int))), (19, .pointer (some ⟨bx, ox + (i), none⟩)), (20, .int .u8 ((((l.getD i 0).toNat : Nat) : Int)))] ∧ Mg w w1 (.row 107 3 (vo) acc.length ((xk acc)) :: [])) _ ⟨1, r, ok, rfl, cont_start hok, hA.keep _ (by repeat' constructor), hM⟩ ?_
       clear hM hA
       rintro m_ a w53 ⟨k, rk, ok2, rfl, hinv55, hA, hM⟩ K54 hK54
       have hC := hinv55
       refine wp_seq_k (fun K56 hK56 => ?_)
       refine wp_seq_k (fun K57 hK57 => ?_)
       refine wp_region_lit ?_
       refine qa hA rfl rfl rfl (qe rfl) ?_
       intro a hA
       refine qa hA rfl rfl rfl (qe rfl) ?_
       intro a hA
       rcases ok2 with _ | _
       · refine qj hA rfl rfl rfl ?_
         intro a hA
         refine qj hA rfl rfl rfl ?_
         intro a hA
         refine qj hA rfl rfl rfl ?_
         intro a hA
         refine qa (v := .bool false) hA rfl rfl rfl (qi rfl rfl rfl rfl) ?_
         intro a hA
         refine qf ?_
         refine hK57 _ _ ?_
         refine wp_cond_false (hA.ev rfl) ?_
         refine wp_exit ?_
         exact hJ24 _ _ ⟨k, rk, false, ⟨hC, fun h => by cases h⟩, hA.keep _ (by repeat' constructor), hM⟩
       · refine qa hA rfl rfl rfl (qe rfl) ?_
         intro a hA
         refine qa hA rfl rfl rfl (qe rfl) ?_
         intro a hA
         rcases Bool.eq_false_or_eq_true (decide (((k : Nat) : Int) < ((n : Nat) : Int))) with hb58 | hb58
         · have hb58' := of_decide_eq_true hb58
           refine qa (v := .bool true) hA rfl rfl rfl (qg rfl rfl (fun w => (zt w).trans (by rw [hb58]))) ?_
           intro a hA
           refine qa (v := .bool true) hA rfl rfl rfl (qi rfl rfl rfl rfl) ?_
           intro a hA
           refine qf ?_
           refine hK57 _ _ ?_
           refine wp_cond_true (hA.ev rfl) ?_
           refine wp_skip ?_
           refine hK56 _ _ ?_
           refine wp_seq_k (fun K59 hK59 => ?_)
           refine wp_block ?_
           refine wp_seq_k (fun K60 hK60 => ?_)
           have hc9 := yg hC
           refine wp_region_lit ?_
           refine qa hA rfl rfl rfl (qe rfl) ?_
           intro a hA
           refine qa hA rfl rfl rfl (qe rfl) ?_
           intro a hA
           refine qa hA rfl rfl rfl (qe rfl) ?_
           intro a hA
           refine qa (v := .int .i64 (((i + k : Nat) : Int))) hA rfl rfl rfl (qg rfl rfl (ar_add ((in_i64 (by omega) (by omega)).trans (by omega)))) ?_
           intro a hA
           obtain ⟨bx, ox, hx1, hx2, hx3⟩ := rb_open (i := i + k) hb (by omega)
           have hu9 := (l.getD (i + k) 0).toNat_lt
           refine qa (v := .pointer (some ⟨bx, ox + (i + k), none⟩)) hA rfl rfl rfl (zp (k := i + k) Tryz.underlying28 (by kernel_rfl) rfl rfl rfl hx1 (by omega)) ?_
           intro a hA
           refine qa (v := .int .u8 ((((l.getD (i + k) 0).toNat : Nat) : Int))) hA rfl rfl rfl (m_loadR hM hx2 (hx3 (i + k) (by omega)) TrU_is1_5 rfl) ?_
           intro a hA
           refine qa hA rfl rfl rfl (qb rfl) ?_
           intro a hA
           refine qf ?_
           refine hK60 _ _ ?_
           refine wp_seq_k (fun K61 hK61 => ?_)
           refine wp_region_lit ?_
           refine qa hA rfl rfl rfl (qe rfl) ?_
           intro a hA
           refine qa (v := .int .u8 (((((l.getD (i + k) 0).toNat : Nat) : Int)) / 64)) hA rfl rfl rfl (qg rfl rfl (ar_shr (n := 6) rfl rfl rfl)) ?_
           intro a hA
           refine qa (v := .bool ((((((l.getD (i + k) 0).toNat : Nat) : Int)) / 64 == 2))) hA rfl rfl rfl (qg rfl rfl za) ?_
           intro a hA
           refine qa hA rfl rfl rfl (qb rfl) ?_
           intro a hA
           refine qf ?_
           refine hK61 _ _ ?_
           refine wp_region_lit ?_
           refine qa hA rfl rfl rfl (qe rfl) ?_
           intro a hA
           refine qa (v := .int .i32 (rk * 64)) hA rfl rfl rfl (qg rfl rfl (ar_shl (n := 6) rfl rfl (in_i32 (by omega) (by omega)))) ?_
           intro a hA
           refine qa hA rfl rfl rfl (qe rfl) ?_
           intro a hA
           refine qa (v := .int .u8 (((((l.getD (i + k) 0).toNat : Nat) : Int)) % 64)) hA rfl rfl rfl (qg rfl rfl (ar_and (and_u8 6 63 rfl (by decide) (by omega) (by omega)))) ?_
           intro a hA
           refine qa (v := .int .i32 (((((l.getD (i + k) 0).toNat : Nat) : Int)) % 64)) hA rfl rfl rfl (je rfl (ar_conv Tryz.underlying5 Tryz.underlying21 (in_i32 (by omega) (by omega)))) ?_
           intro a hA
           refine qa (v := .int .i32 (rk * 64 + (((((l.getD (i + k) 0).toNat : Nat) : Int)) % 64))) hA rfl rfl rfl (qg rfl rfl (ar_or (or_six (by omega) (by omega) (by omega) (by omega)))) ?_
           intro a hA
           refine qa hA rfl rfl rfl (qb rfl) ?_
           intro a hA
           refine qf ?_
           refine hK59 _ _ ?_
           refine wp_region_lit ?_
           refine qa hA rfl rfl rfl (qe rfl) ?_
           intro a hA
           refine qa (v := .int .i64 (((k + 1 : Nat) : Int))) hA rfl rfl rfl (qg rfl rfl (ar_add ((in_i64 (by omega) (by omega)).trans (by omega)))) ?_
           intro a hA
           refine qa hA rfl rfl rfl (qb rfl) ?_
           intro a hA
           refine qf ?_
           refine hK54 _ _ _ (by omega) ⟨k + 1, rk * 64 + (((((l.getD (i + k) 0).toNat : Nat) : Int)) % 64), (((((l.getD (i + k) 0).toNat : Nat) : Int)) / 64 == 2), rfl, cont_step (by omega) hC (by omega), hA.keep _ (by repeat' constructor), hM⟩
         · have hb58' := of_decide_eq_false hb58
           refine qa (v := .bool false) hA rfl rfl rfl (qg rfl rfl (fun w => (zt w).trans (by rw [hb58]))) ?_
           intro a hA
           refine qa (v := .bool false) hA rfl rfl rfl (qi rfl rfl rfl rfl) ?_
           intro a hA
           refine qf ?_
           refine hK57 _ _ ?_
           refine wp_cond_false (hA.ev rfl) ?_
           refine wp_exit ?_
           exact hJ24 _ _ ⟨k, rk, true, ⟨hC, fun _ => by have := yg hC; omega⟩, hA.keep _ (by repeat' constructor), hM⟩
     refine wp_region_lit ?_
     refine qa hA rfl rfl rfl (qe rfl) ?_
     intro a hA
     rcases Bool.eq_false_or_eq_true (decide (0 < ((n : Nat) : Int))) with hb62 | hb62
     · have hb62' := of_decide_eq_true hb62
       refine qa (v := .bool true) hA rfl rfl rfl (qg rfl rfl (fun w => (ju w).trans (by rw [hb62]))) ?_
       intro a hA
       refine qa hA rfl rfl rfl (qe rfl) ?_
       intro a hA
       refine qa hA rfl rfl rfl (qe rfl) ?_
       intro a hA
       refine qa hA rfl rfl rfl (qe rfl) ?_
       intro a hA
       refine qa (v := .int .i64 (((i + n : Nat) : Int))) hA rfl rfl rfl (qg rfl rfl (ar_add ((in_i64 (by omega) (by omega)).trans (by omega)))) ?_
       intro a hA
       refine qa hA rfl rfl rfl (qe rfl) ?_
       intro a hA
       refine qa (v := .int .i64 (((l.length : Nat) : Int))) hA rfl rfl rfl (zj Tryz.underlying28 rfl) ?_
       intro a hA
       rcases Bool.eq_false_or_eq_true (decide (((i + n : Nat) : Int) ≤ ((l.length : Nat) : Int))) with hb63 | hb63
       · have hb63' := of_decide_eq_true hb63
         refine qa (v := .bool true) hA rfl rfl rfl (qg rfl rfl (fun w => (vv w).trans (by rw [hb63]))) ?_
         intro a hA
         refine qa (v := .bool true) hA rfl rfl rfl (qi rfl rfl rfl rfl) ?_
         intro a hA
         refine qa hA rfl rfl rfl (qb rfl) ?_
         intro a hA
         refine qf ?_
         exact hJ20 _ _ ⟨true, (decide_eq_true (by omega)).symm, hA.keep _ (by repeat' constructor), hM⟩
       · have hb63' := of_decide_eq_false hb63
         refine qa (v := .bool false) hA rfl rfl rfl (qg rfl rfl (fun w => (vv w).trans (by rw [hb63]))) ?_
         intro a hA
         refine qa (v := .bool false) hA rfl rfl rfl (qi rfl rfl rfl rfl) ?_
         intro a hA
         refine qa hA rfl rfl rfl (qb rfl) ?_
         intro a hA
         refine qf ?_
         exact hJ20 _ _ ⟨false, (decide_eq_false (by omega)).symm, hA.keep _ (by repeat' constructor), hM⟩
     · have hb62' := of_decide_eq_false hb62
       refine qa (v := .bool false) hA rfl rfl rfl (qg rfl rfl (fun w => (ju w).trans (by rw [hb62]))) ?_
       intro a hA
       refine qa hA rfl rfl rfl (qe rfl) ?_
       intro a hA
       refine qj hA rfl rfl rfl ?_
       intro a hA
       refine qj hA rfl rfl rfl ?_
       intro a hA
       refine qj hA rfl rfl rfl ?_
       intro a hA
       refine qj hA rfl rfl rfl ?_
       intro a hA
       refine qj hA rfl rfl rfl ?_
       intro a hA
       refine qj hA rfl rfl rfl ?_
       intro a hA
       refine qa (v := .bool false) hA rfl rfl rfl (qi rfl rfl rfl rfl) ?_
       intro a hA
       refine qa hA rfl rfl rfl (qb rfl) ?_
       intro a hA
       refine qf ?_
       exact hJ20 _ _ ⟨false, (decide_eq_false (by omega)).symm, hA.keep _ (by repeat' constructor), hM⟩
   refine wp_block ?_
   refine wp_seq_k (fun K64 hK64 => ?_)
   refine wp_region_lit ?_
   refine qa hA rfl rfl rfl (qe rfl) ?_
   intro a hA
   rcases Bool.eq_false_or_eq_true (decide ((((l.getD i 0).toNat : Nat) : Int) < 128)) with hb65 | hb65
   · have hb65' := of_decide_eq_true hb65
     refine qa (v := .bool true) hA rfl rfl rfl (qg rfl rfl (fun w => (zt w).trans (by rw [hb65]))) ?_
     intro a hA
     refine qa hA rfl rfl rfl (qb rfl) ?_
     intro a hA
     refine qf ?_
     refine hK64 _ _ ?_
     refine wp_cond_true (hA.ev rfl) ?_
     refine wp_region_lit ?_
     refine qa hA rfl rfl rfl (qe rfl) ?_
     intro a hA
     refine qa (v := .int .i32 ((((l.getD i 0).toNat : Nat) : Int))) hA rfl rfl rfl (je rfl (ar_conv Tryz.underlying5 Tryz.underlying21 (in_i32 (by omega) (by omega)))) ?_
     intro a hA
     refine qa hA rfl rfl rfl (qb rfl) ?_
     intro a hA
     refine qa hA rfl rfl rfl (qb rfl) ?_
     intro a hA
     refine qf ?_
     exact hJ16 _ _ ⟨1, (((l.getD i 0).toNat : Nat) : Int), (by unfold LeadU; omega), hA.keep _ (by repeat' constructor), hM⟩
   · have hb65' := of_decide_eq_false hb65
     refine qa (v := .bool false) hA rfl rfl rfl (qg rfl rfl (fun w => (zt w).trans (by rw [hb65]))) ?_
     intro a hA
     refine qa hA rfl rfl rfl (qb rfl) ?_
     intro a hA
     refine qf ?_
     refine hK64 _ _ ?_
     refine wp_cond_false (hA.ev rfl) ?_
     refine wp_seq_k (fun K66 hK66 => ?_)
     refine wp_region_lit ?_
     refine qa hA rfl rfl rfl (qe rfl) ?_
     intro a hA
     refine qa (v := .int .u8 (((((l.getD i 0).toNat : Nat) : Int)) / 32)) hA rfl rfl rfl (qg rfl rfl (ar_shr (n := 5) rfl rfl rfl)) ?_
     intro a hA
     rcases Bool.eq_false_or_eq_true ((((((l.getD i 0).toNat : Nat) : Int)) / 32 == 6)) with hb67 | hb67
     · have hb67' := eq_of_beq hb67
       refine qa (v := .bool true) hA rfl rfl rfl (qg rfl rfl (fun w => (za w).trans (by rw [hb67]))) ?_
       intro a hA
       refine qa hA rfl rfl rfl (qb rfl) ?_
       intro a hA
       refine qf ?_
       refine hK66 _ _ ?_
       refine wp_cond_true (hA.ev rfl) ?_
       refine wp_region_lit ?_
       refine qa hA rfl rfl rfl (qe rfl) ?_
       intro a hA
       refine qa (v := .int .u8 (((((l.getD i 0).toNat : Nat) : Int)) % 32)) hA rfl rfl rfl (qg rfl rfl (ar_and (and_u8 5 31 rfl (by decide) (by omega) (by omega)))) ?_
       intro a hA
       refine qa (v := .int .i32 (((((l.getD i 0).toNat : Nat) : Int)) % 32)) hA rfl rfl rfl (je rfl (ar_conv Tryz.underlying5 Tryz.underlying21 (in_i32 (by omega) (by omega)))) ?_
       intro a hA
       refine qa hA rfl rfl rfl (qb rfl) ?_
       intro a hA
       refine qa hA rfl rfl rfl (qb rfl) ?_
       intro a hA
       refine qf ?_
       exact hJ16 _ _ ⟨2, ((((l.getD i 0).toNat : Nat) : Int)) % 32, (by unfold LeadU; omega), hA.keep _ (by repeat' constructor), hM⟩
     · have hb67' := ne_of_beq_false hb67
       refine qa (v := .bool false) hA rfl rfl rfl (qg rfl rfl (fun w => (za w).trans (by rw [hb67]))) ?_
       intro a hA
       refine qa hA rfl rfl rfl (qb rfl) ?_
       intro a hA
       refine qf ?_
       refine hK66 _ _ ?_
       refine wp_cond_false (hA.ev rfl) ?_
       refine wp_seq_k (fun K68 hK68 => ?_)
       refine wp_region_lit ?_
       refine qa hA rfl rfl rfl (qe rfl) ?_
       intro a hA
       refine qa (v := .int .u8 (((((l.getD i 0).toNat : Nat) : Int)) / 16)) hA rfl rfl rfl (qg rfl rfl (ar_shr (n := 4) rfl rfl rfl)) ?_
       intro a hA
       rcases Bool.eq_false_or_eq_true ((((((l.getD i 0).toNat : Nat) : Int)) / 16 == 14)) with hb69 | hb69
       · have hb69' := eq_of_beq hb69
         refine qa (v := .bool true) hA rfl rfl rfl (qg rfl rfl (fun w => (za w).trans (by rw [hb69]))) ?_
         intro a hA
         refine qa hA rfl rfl rfl (qb rfl) ?_
         intro a hA
         refine qf ?_
         refine hK68 _ _ ?_
         refine wp_cond_true (hA.ev rfl) ?_
         refine wp_region_lit ?_
         refine qa hA rfl rfl rfl (qe rfl) ?_
         intro a hA
         refine qa (v := .int .u8 (((((l.getD i 0).toNat : Nat) : Int)) % 16)) hA rfl rfl rfl (qg rfl rfl (ar_and (and_u8 4 15 rfl (by decide) (by omega) (by omega)))) ?_
         intro a hA
         refine qa (v := .int .i32 (((((l.getD i 0).toNat : Nat) : Int)) % 16)) hA rfl rfl rfl (je rfl (ar_conv Tryz.underlying5 Tryz.underlying21 (in_i32 (by omega) (by omega)))) ?_
         intro a hA
         refine qa hA rfl rfl rfl (qb rfl) ?_
         intro a hA
         refine qa hA rfl rfl rfl (qb rfl) ?_
         intro a hA
         refine qf ?_
         exact hJ16 _ _ ⟨3, ((((l.getD i 0).toNat : Nat) : Int)) % 16, (by unfold LeadU; omega), hA.keep _ (by repeat' constructor), hM⟩
       · have hb69' := ne_of_beq_false hb69
         refine qa (v := .bool false) hA rfl rfl rfl (qg rfl rfl (fun w => (za w).trans (by rw [hb69]))) ?_
         intro a hA
         refine qa hA rfl rfl rfl (qb rfl) ?_
         intro a hA
         refine qf ?_
         refine hK68 _ _ ?_
         refine wp_cond_false (hA.ev rfl) ?_
         refine wp_seq_k (fun K70 hK70 => ?_)
         refine wp_region_lit ?_
         refine qa hA rfl rfl rfl (qe rfl) ?_
         intro a hA
         refine qa (v := .int .u8 (((((l.getD i 0).toNat : Nat) : Int)) / 8)) hA rfl rfl rfl (qg rfl rfl (ar_shr (n := 3) rfl rfl rfl)) ?_
         intro a hA
         rcases Bool.eq_false_or_eq_true ((((((l.getD i 0).toNat : Nat) : Int)) / 8 == 30)) with hb71 | hb71
         · have hb71' := eq_of_beq hb71
           refine qa (v := .bool true) hA rfl rfl rfl (qg rfl rfl (fun w => (za w).trans (by rw [hb71]))) ?_
           intro a hA
           refine qa hA rfl rfl rfl (qb rfl) ?_
           intro a hA
           refine qf ?_
           refine hK70 _ _ ?_
           refine wp_cond_true (hA.ev rfl) ?_
           refine wp_region_lit ?_
           refine qa hA rfl rfl rfl (qe rfl) ?_
           intro a hA
           refine qa (v := .int .u8 (((((l.getD i 0).toNat : Nat) : Int)) % 8)) hA rfl rfl rfl (qg rfl rfl (ar_and (and_u8 3 7 rfl (by decide) (by omega) (by omega)))) ?_
           intro a hA
           refine qa (v := .int .i32 (((((l.getD i 0).toNat : Nat) : Int)) % 8)) hA rfl rfl rfl (je rfl (ar_conv Tryz.underlying5 Tryz.underlying21 (in_i32 (by omega) (by omega)))) ?_
           intro a hA
           refine qa hA rfl rfl rfl (qb rfl) ?_
           intro a hA
           refine qa hA rfl rfl rfl (qb rfl) ?_
           intro a hA
           refine qf ?_
           exact hJ16 _ _ ⟨4, ((((l.getD i 0).toNat : Nat) : Int)) % 8, (by unfold LeadU; omega), hA.keep _ (by repeat' constructor), hM⟩
         · have hb71' := ne_of_beq_false hb71
           refine qa (v := .bool false) hA rfl rfl rfl (qg rfl rfl (fun w => (za w).trans (by rw [hb71]))) ?_
           intro a hA
           refine qa hA rfl rfl rfl (qb rfl) ?_
           intro a hA
           refine qf ?_
           refine hK70 _ _ ?_
           refine wp_cond_false (hA.ev rfl) ?_
           refine wp_skip ?_
           exact hJ16 _ _ ⟨0, 0, (by unfold LeadU; omega), hA.keep _ (by repeat' constructor), hM⟩
 · have hb12' := of_decide_eq_false hb12
   refine qa (v := .bool false) hA rfl rfl rfl (qg rfl rfl (fun w => (zt w).trans (by rw [hb12]))) ?_
   intro a hA
   refine qf ?_
   refine hK11 _ _ ?_
   refine wp_cond_false (hA.ev rfl) ?_
   refine wp_exit ?_
   refine hK5 _ _ ?_
   refine wp_seq_k (fun K72 hK72 => ?_)
   refine wp_region_lit ?_
   refine qa hA rfl rfl rfl (qe rfl) ?_
   intro a hA
   refine qa hA rfl rfl rfl (qb rfl) ?_
   intro a hA
   refine qf ?_
   refine hK72 _ _ ?_
   refine wp_ret ?_
   refine hret _ _ ?_
   refine ze (v := vo) hA rfl (.cons (ql rfl) .nil) rfl ?_
   rw [restU_over (by omega), List.append_nil] at hrun
   subst hrun
   exact ⟨_, rfl, hM⟩
end Go.Proofs.YtoopkbedjbnhhabGreatDoor.G
namespace Go.Proofs.YtoopkbedjbnhhabGreatDoor.G
open Go.RowKit Go.Lib

theorem owns_sliceE {w : World} {B : Nat} {e : TypeId} {sz : Nat} {v : Value} {n : Nat} {xs : List Value} (h : w.ownsRow B e sz v n xs) : ∃ so cap, v = .slice so n cap := by
  rcases h.2 with ⟨rfl, rfl⟩ | ⟨g, cap, cur, rfl, _⟩
  · exact ⟨none, 0, rfl⟩
  · exact ⟨_, cap, rfl⟩
section
variable {P : Program} {w0 w : World} {L : List Ck} {l : List (Nat × Value)} {dst : Option Tmp} {ty : TypeId} {pos : String} {after : Array Edge} {guard : Option (Nat × Bool)} {v : Value}
theorem does_convC {w' : World} {s d : TypeId} {x : Operand} {u : Value} (hx : ev l x = some u) (hr : (convert s d u).run P w = .ok v w') : Does P l ⟨dst, .convert s d x, ty, pos, after, guard⟩ w v w' := fun ρ h => by
  simp only [execOp, h x _ hx, Sem.run_bind, hr, Result.andThen_ok, Sem.run_pure]
theorem row_addr (hM : Mg w0 w L) (k : Nat) {e : TypeId} {sz n cap : Nat} {so : Option Addr} {xs : List Value} (hk : L[k]? = some (.row e sz (.slice so n cap) n xs)) (hn : 0 < n) : ∃ g, so = some ⟨g, 0, none⟩ := by
  rcases (hM.has k hk).2 with ⟨_, h0⟩ | ⟨g, cap', cur, he, _⟩
  · omega
  · cases he; exact ⟨g, rfl⟩
theorem does_indexX {t e : TypeId} {sz : Nat} (hu : P.underlying t = some (.slice e)) (he : (P.info? e).map (·.size) = some sz) {x i : Operand} {so : Option Addr} {g n c k : Nat} {z : Int} (hx : ev l x = some (.slice so n c)) (hi : ev l i = some (.int .i64 z)) (hz : z = (k : Nat)) (hso : so = some ⟨g, 0, none⟩) (hk : k < n) :
    Does P l ⟨dst, .indexAddr t x i, ty, pos, after, guard⟩ w (.pointer (some ⟨g, k * sz, none⟩)) w := by
  subst hso
  exact vb hu he hx hi hz hk
theorem m_loadX (hM : Mg w0 w L) (k : Nat) {e : TypeId} {sz g n c j : Nat} {so : Option Addr} {xs : List Value} (hk : L[k]? = some (.row e sz (.slice so n c) n xs)) (hso : so = some ⟨g, 0, none⟩) (hj : xs[j]? = some v) {t : TypeId} (ht : Is1 P t) {x : Operand} (hx : ev l x = some (.pointer (some ⟨g, j, none⟩))) : Does P l ⟨dst, .load t x, ty, pos, after, guard⟩ w v w := by
  subst hso
  exact m_loadE hM k hk hj ht hx
end
section
variable {P : Program} {w0 w : World} {L : List Ck} {l : List (Nat × Value)} {ops : List Oper} {Q : Exit → Act → World → Prop} {a : Act} {n : Nat} {rest : List Oper} {d : Nat} {dst : Option Tmp} {ty : TypeId} {pos : String} {after : Array Edge} {guard : Option (Nat × Bool)}
theorem s_bytes (hA : Sl a n l) (hM : Mg w0 w L) {t t' : TypeId} {x : Operand} {s : ByteArray} {o : Oper} (ho : o = ⟨dst, .convert t t' x, ty, pos, after, guard⟩) (ht : P.underlying t = some .string) (hd : P.underlying t' = some (.slice BY)) (he : P.underlying BY = some (.int .u8)) (hx : ev l x = some (.string s)) (hg : zy l ops o = true) (hdst : o.dst = some d) (hdn : Nat.blt d n = true)
    (hk : ∀ so cap w', Rb w' so s.data.toList → Mg w0 w' L → ∀ a', Sl a' n ((d, .slice so s.data.toList.length cap) :: l) → wpList P ops.toArray Q rest a' w') : wpList P ops.toArray Q (o :: rest) a w := by
  subst ho
  have hr := Go.Lib.run_convert_string_bytes (P := P) w t t' BY s ht hd he
  have hb : Below w.heap.size w (bytesWorld w BY s) := ⟨rfl, rfl, rfl, by rw [bytesWorld_size]; omega, fun j hj => bytesWorld_at_old w BY s j hj⟩
  refine qa hA hg hdst hdn (v := .slice (some ⟨w.heap.size, 0, none⟩) s.data.toList.length (grownCap w s.size 0 BY)) (w' := bytesWorld w BY s) (does_convC hx (by rw [yw]; exact hr)) (hk _ _ _ ⟨fun _ => ⟨w.heap.size, 0, rfl, by rw [bytesWorld_size]; omega, fun j hj => ?_⟩⟩ (hM.call hb))
  rw [yw] at hj
  rw [Nat.zero_add]
  exact bytesWorld_cell w BY s j hj
end
theorem qji (u : Int × Int) (us : List (Int × Int)) : xk (u :: us) = (if u.2 = -1 then [.int .i32 0, .bool true, .int .i64 u.1] else [.int .i32 u.2, .bool false, .int .i64 u.1]) ++ xk us := rfl
theorem qjj : ∀ (us : List (Int × Int)) (i f : Nat) (u : Int × Int), us[i]? = some u → f < 3 → (xk us)[i * 3 + f]? = (if u.2 = -1 then [Value.int .i32 0, .bool true, .int .i64 u.1] else [.int .i32 u.2, .bool false, .int .i64 u.1])[f]?
  | [], i, f, u, h, hf => by simp at h
  | v :: us, 0, f, u, h, hf => by
    simp only [List.getElem?_cons_zero, Option.some.injEq] at h
    subst h
    rw [qji, Nat.zero_mul, Nat.zero_add, List.getElem?_append_left]
    split <;> exact hf
  | v :: us, i + 1, f, u, h, hf => by
    rw [List.getElem?_cons_succ] at h
    rw [qji, List.getElem?_append_right (by split <;> (simp only [List.length_cons, List.length_nil]; omega))]
    have e : (i + 1) * 3 + f - (if v.2 = -1 then [Value.int .i32 0, .bool true, .int .i64 v.1] else [.int .i32 v.2, .bool false, .int .i64 v.1]).length = i * 3 + f := by
      split <;> (simp only [List.length_cons, List.length_nil]; omega)
    rw [e]
    exact qjj us i f u h hf
theorem unit_get {us : List (Int × Int)} {i : Nat} (h : i < us.length) : ∃ ua ur, us[i]? = some (ua, ur) := ⟨_, _, List.getElem?_eq_getElem h⟩
theorem qka : ∀ (f p : Nat) (l : List UInt8), (vy f p l).length ≤ l.length
  | 0, _, _ => Nat.zero_le _
  | f + 1, p, l => by
    by_cases hl : l = []
    · subst hl; simp [vy]
    · rw [qfe hl, List.length_cons]
      have h1 := qka f (p + (decodeL l).2) (l.drop (decodeL l).2)
      have h2 := yv l hl
      rw [List.length_drop] at h1
      omega
theorem dec_fffd (l : List UInt8) (h : (decodeL l).1 = 65533) : (decodeL l).2 = 1 ∨ (decodeL l).2 = 3 ∨ (decodeL l).2 = 0 := by
  rw [decodeL_N] at h ⊢
  generalize (l.getD 0 0).toNat = b0 at h ⊢
  generalize (l.getD 1 0).toNat = b1 at h ⊢
  generalize (l.getD 2 0).toNat = b2 at h ⊢
  generalize (l.getD 3 0).toNat = b3 at h ⊢
  unfold decodeN at h ⊢
  repeat' split
  all_goals (simp_all)
  all_goals omega
theorem qbe : ∀ (f p : Nat) (l : List UInt8), validGoD f l = (vy f p l).all (fun u => !decide (u.2 = -1))
  | 0, p, l => rfl
  | f + 1, p, l => by
    unfold validGoD vy
    by_cases hl : l = []
    · rw [if_pos hl, if_pos hl]; rfl
    · rw [if_neg hl, if_neg hl, List.all_cons]
      have hw := yv l hl
      have h3 := dec_fffd l
      by_cases hb : (decodeL l).1 = 65533 ∧ (decodeL l).2 = 1
      · rw [if_pos hb]
        have : uR (decodeL l).1 (decodeL l).2 = -1 := by unfold uR; rw [if_pos ⟨hb.1, by omega⟩]
        rw [this]; rfl
      · rw [if_neg hb]
        have : ¬ uR (decodeL l).1 (decodeL l).2 = -1 := by
          unfold uR
          by_cases h9 : (decodeL l).1 = 65533
          · rw [if_neg (by have := h3 h9; omega)]; omega
          · rw [if_neg (fun e => h9 e.1)]; omega
        rw [decide_eq_false this, qbe f (p + (decodeL l).2)]
        simp
theorem okS_units (s : ByteArray) : okS s = (jx s.data.toList).all (fun u => !decide (u.2 = -1)) := qbe _ 0 _
theorem okS_bad {s : ByteArray} {i : Nat} {ua ur : Int} (h : (jx s.data.toList)[i]? = some (ua, ur)) (hr : ur = -1) : okS s = false := by
  rw [okS_units]
  apply Bool.eq_false_iff.2
  intro k
  have := List.all_eq_true.1 k _ (List.mem_of_getElem? h)
  simp [hr] at this
theorem okS_good {s : ByteArray} (h : ∀ (i : Nat) (ua ur : Int), (jx s.data.toList)[i]? = some (ua, ur) → ur ≠ -1) : okS s = true := by
  rw [okS_units, List.all_eq_true]
  intro u hu
  obtain ⟨i, hi⟩ := List.mem_iff_getElem?.1 hu
  simp [h i u.1 u.2 hi]
end Go.Proofs.YtoopkbedjbnhhabGreatDoor.G
namespace Go.Proofs.YtoopkbedjbnhhabGreatDoor.G
open Go.RowKit
set_option maxRecDepth 100000
theorem TrV_is1_28 : Is1 Tryz.prog 28 := ⟨⟨_, Tryz.underlying28, rfl⟩, by kernel_rfl⟩
theorem TrV_is1_29 : Is1 Tryz.prog 29 := ⟨⟨_, Tryz.underlying29, rfl⟩, by kernel_rfl⟩
theorem TrV_is1_3 : Is1 Tryz.prog 3 := ⟨⟨_, Tryz.underlying3, rfl⟩, by kernel_rfl⟩
theorem TrV_is1_4 : Is1 Tryz.prog 4 := ⟨⟨_, Tryz.underlying4, rfl⟩, by kernel_rfl⟩
theorem TrV_is1_9 : Is1 Tryz.prog 9 := ⟨⟨_, Tryz.underlying9, rfl⟩, by kernel_rfl⟩
theorem TrV_fld_107_1 : FieldAt Tryz.prog 107 1 1 := ⟨_, _, Tryz.underlying107, rfl, rfl, by kernel_rfl⟩
theorem TrV_fld_27_0 : FieldAt Tryz.prog 27 0 0 := ⟨_, _, Tryz.underlying27, rfl, rfl, by kernel_rfl⟩
theorem TrV_fld_27_1 : FieldAt Tryz.prog 27 1 3 := ⟨_, _, Tryz.underlying27, rfl, rfl, by kernel_rfl⟩
theorem TrV_fld_31_0 : FieldAt Tryz.prog 31 0 0 := ⟨_, _, Tryz.underlying31, rfl, rfl, by kernel_rfl⟩
theorem TrV_fld_31_1 : FieldAt Tryz.prog 31 1 1 := ⟨_, _, Tryz.underlying31, rfl, rfl, by kernel_rfl⟩
theorem TrV_fld_31_2 : FieldAt Tryz.prog 31 2 2 := ⟨_, _, Tryz.underlying31, rfl, rfl, by kernel_rfl⟩
theorem TrV_fld_31_3 : FieldAt Tryz.prog 31 3 8 := ⟨_, _, Tryz.underlying31, rfl, rfl, by kernel_rfl⟩
theorem TrV_fld_31_4 : FieldAt Tryz.prog 31 4 9 := ⟨_, _, Tryz.underlying31, rfl, rfl, by kernel_rfl⟩
theorem TrV_fld_31_5 : FieldAt Tryz.prog 31 5 10 := ⟨_, _, Tryz.underlying31, rfl, rfl, by kernel_rfl⟩
theorem TrV_isS_25 : IsS Tryz.prog 25 3 := ⟨⟨_, Tryz.underlying25⟩, by kernel_rfl⟩
theorem TrV_isS_27 : IsS Tryz.prog 27 6 := ⟨⟨_, Tryz.underlying27⟩, by kernel_rfl⟩
theorem runits1_any {w : World} {so : Option Addr} {cap : Nat} {l : List UInt8} (hb : Rb w so l) (hlen : l.length ≤ 4000000) : Calls Tryz.prog 64 #[.int .i64 1, .slice so l.length cap] w fun e w' => ∃ v, e = .returned v ∧ Mg w w' [.row 107 3 v (jx l).length (xk (jx l))] := by
 have hM : Mg w w ([]) := Mg.start w
 refine zb (l := [(0, .int .i64 1), (1, .slice so l.length cap)]) Tryz.func64 rfl Tryz.ntmps64 rfl rfl ?_
 intro Q hret hnorm hP a hA
 refine wp_seq_k (fun K1 hK1 => ?_)
 refine wp_region_lit ?_
 refine qa hA rfl rfl rfl (qb rfl) ?_
 intro a hA
 refine qf ?_
 refine hK1 _ _ ?_
 refine wp_seq_k (fun K2 hK2 => ?_)
 refine wp_seq_k (fun K3 hK3 => ?_)
 refine wp_region_lit ?_
 refine qa hA rfl rfl rfl (qe rfl) ?_
 intro a hA
 refine qa (v := .bool true) hA rfl rfl rfl (qg rfl rfl (fun w => by kernel_rfl)) ?_
 intro a hA
 refine qf ?_
 refine hK3 _ _ ?_
 refine wp_cond_true (hA.ev rfl) ?_
 refine wp_seq_k (fun K4 hK4 => ?_)
 refine wp_region_lit ?_
 refine qa hA rfl rfl rfl (qe rfl) ?_
 intro a hA
 refine qm hA rfl rfl rfl (qh rfl rfl (fun w => by kernel_rfl)) (rutf8_any (hb.below hM.bel) hlen) ?_
 rintro _ w5 ⟨v9, rfl, hM9⟩
 replace hM : Mg w w5 (.row 107 3 (v9) ((jx l).length) ((xk (jx l))) :: []) := (hM.both hM9 (qp qw) (qr (by simp) (qp qw)))
 refine ⟨_, rfl, ?_⟩
 intro a hA
 refine qa hA rfl rfl rfl (qb rfl) ?_
 intro a hA
 refine qf ?_
 refine hK4 _ _ ?_
 refine wp_ret ?_
 refine hret _ _ ?_
 refine ze (v := v9) hA rfl (.cons (ql rfl) .nil) rfl ?_
 exact ⟨_, rfl, hM⟩
theorem qkb {w : World} {s : ByteArray} (hs : s.size ≤ 4000000) {r : Bool} (hr : okS s = r) : Calls Tryz.prog 48 #[.string s] w fun e w' => e = .returned (.bool r) ∧ Below w.heap.size w w' := by
 have hul : (jx s.data.toList).length ≤ s.data.toList.length := qka _ _ _
 have hsl : s.data.toList.length ≤ 4000000 := by rw [yw]; exact hs
 have hM : Mg w w ([]) := Mg.start w
 refine zb (l := [(0, .string s)]) Tryz.func48 rfl Tryz.ntmps48 rfl rfl ?_
 intro Q hret hnorm hP a hA
 refine wp_seq_k (fun K1 hK1 => ?_)
 refine wp_region_lit ?_
 refine qa hA rfl rfl rfl (qb rfl) ?_
 intro a hA
 refine qf ?_
 refine hK1 _ _ ?_
 refine wp_seq_k (fun K2 hK2 => ?_)
 refine wp_region_lit ?_
 refine qa hA rfl rfl rfl (qe rfl) ?_
 intro a hA
 refine s_bytes hA hM rfl Tryz.underlying9 Tryz.underlying28 Tryz.underlying5 rfl rfl rfl rfl ?_
 intro so3 ca4 w5 hrb6 hM a hA
 refine qm hA rfl rfl rfl (qh rfl rfl (fun w => by kernel_rfl)) (runits1_any hrb6 (by rw [yw]; exact hs)) ?_
 rintro _ w10 ⟨v9, rfl, hM7⟩
 obtain ⟨so8, ca9, rfl⟩ := owns_sliceE (hM7.has 0 rfl)
 replace hM : Mg w w10 (.row 107 3 (.slice so8 ((jx s.data.toList).length) ca9) ((jx s.data.toList).length) ((xk (jx s.data.toList))) :: []) := (hM.both hM7 (qp qw) (qr (by simp) (qp qw)))
 refine ⟨_, rfl, ?_⟩
 intro a hA
 refine qa hA rfl rfl rfl (qb rfl) ?_
 intro a hA
 refine qf ?_
 refine hK2 _ _ ?_
 refine wp_seq_k (fun K11 hK11 => ?_)
 refine wp_seq_k (fun K12 hK12 => ?_)
 refine wp_region_lit ?_
 refine qa hA rfl rfl rfl (qb rfl) ?_
 intro a hA
 refine qf ?_
 refine hK12 _ _ ?_
 refine wp_block ?_
 refine jq (fun m_ a w1 => ∃ (i : Nat), m_ = 1 + ((jx s.data.toList).length - i) ∧ (i ≤ (jx s.data.toList).length ∧ ∀ j ua ur, j < i → (jx s.data.toList)[j]? = some (ua, ur) → ur ≠ -1) ∧ Sl a 19 [(0, .string s), (3, .slice so8 ((jx s.data.toList).length) ca9), (4, .int .i64 (((i : Nat) : Int))), (5, .string s), (6, .slice so3 s.data.toList.length ca4), (7, .slice so8 ((jx s.data.toList).length) ca9)] ∧ Mg w w1 (.row 107 3 (.slice so8 ((jx s.data.toList).length) ca9) ((jx s.data.toList).length) ((xk (jx s.data.toList))) :: [])) _ ⟨0, rfl, ⟨Nat.zero_le _, fun j ua ur hj => absurd hj (Nat.not_lt_zero _)⟩, hA.keep _ (by repeat' constructor), hM⟩ ?_
 clear hM hA
 rintro m_ a w13 ⟨i, rfl, hinv15, hA, hM⟩ K14 hK14
 obtain ⟨hi0, hin9⟩ := hinv15
 refine wp_seq_k (fun K16 hK16 => ?_)
 refine wp_seq_k (fun K17 hK17 => ?_)
 refine wp_region_lit ?_
 refine qa hA rfl rfl rfl (qe rfl) ?_
 intro a hA
 refine qa hA rfl rfl rfl (qe rfl) ?_
 intro a hA
 refine qa (v := .int .i64 ((((jx s.data.toList).length : Nat) : Int))) hA rfl rfl rfl (zj Tryz.underlying104 rfl) ?_
 intro a hA
 rcases Bool.eq_false_or_eq_true (decide (((i : Nat) : Int) < (((jx s.data.toList).length : Nat) : Int))) with hb18 | hb18
 · have hb18' := of_decide_eq_true hb18
   refine qa (v := .bool true) hA rfl rfl rfl (qg rfl rfl (fun w => (zt w).trans (by rw [hb18]))) ?_
   intro a hA
   refine qf ?_
   refine hK17 _ _ ?_
   refine wp_cond_true (hA.ev rfl) ?_
   refine wp_skip ?_
   refine hK16 _ _ ?_
   refine wp_seq_k (fun K19 hK19 => ?_)
   refine wp_block ?_
   refine wp_seq_k (fun K20 hK20 => ?_)
   refine wp_region_lit ?_
   refine qa hA rfl rfl rfl (qe rfl) ?_
   intro a hA
   refine qa hA rfl rfl rfl (qe rfl) ?_
   intro a hA
   obtain ⟨gu, hgu⟩ := row_addr hM 0 rfl (by omega)
   obtain ⟨ua, ur, hu⟩ := unit_get (us := jx s.data.toList) (i := i) (by omega)
   refine qa (v := .pointer (some ⟨gu, i * 3, none⟩)) hA rfl rfl rfl (does_indexX Tryz.underlying104 (by kernel_rfl) rfl rfl rfl hgu (show i < (jx s.data.toList).length by omega)) ?_
   intro a hA
   refine qa (v := .pointer (some ⟨gu, i * 3 + 1, none⟩)) hA rfl rfl rfl (qk TrV_fld_107_1 rfl rfl) ?_
   intro a hA
   by_cases hf : ur = -1
   · refine qa (v := .bool true) hA rfl rfl rfl (m_loadX hM 0 rfl hgu ((qjj _ i 1 _ hu (by decide)).trans (by rw [if_pos hf]; rfl)) TrV_is1_4 rfl) ?_
     intro a hA
     refine qf ?_
     refine hK20 _ _ ?_
     refine wp_cond_true (hA.ev rfl) ?_
     refine wp_seq_k (fun K21 hK21 => ?_)
     refine wp_region_lit ?_
     refine qa hA rfl rfl rfl (qb rfl) ?_
     intro a hA
     refine qf ?_
     refine hK21 _ _ ?_
     refine wp_ret ?_
     refine hret _ _ ?_
     refine ze (v := .bool false) hA rfl (.cons (ql rfl) .nil) rfl ?_
     subst hr
     exact ⟨by rw [okS_bad hu hf], hM.bel⟩
   · refine qa (v := .bool false) hA rfl rfl rfl (m_loadX hM 0 rfl hgu ((qjj _ i 1 _ hu (by decide)).trans (by rw [if_neg hf]; rfl)) TrV_is1_4 rfl) ?_
     intro a hA
     refine qf ?_
     refine hK20 _ _ ?_
     refine wp_cond_false (hA.ev rfl) ?_
     refine wp_skip ?_
     refine hK19 _ _ ?_
     refine wp_region_lit ?_
     refine qa hA rfl rfl rfl (qe rfl) ?_
     intro a hA
     refine qa (v := .int .i64 (((i + 1 : Nat) : Int))) hA rfl rfl rfl (qg rfl rfl (fun w => (kf (ym (by omega) (by omega)) w).trans (by rw [show (((i : Nat) : Int) + 1 : Int) = ((i + 1 : Nat) : Int) from by omega]))) ?_
     intro a hA
     refine qa hA rfl rfl rfl (qb rfl) ?_
     intro a hA
     refine qf ?_
     refine hK14 _ _ _ (by omega) ⟨i + 1, rfl, ⟨by omega, fun j va vr hj hv => if h9 : j < i then hin9 j va vr h9 hv else by have h8 : j = i := (by omega); subst h8; rw [hu] at hv; injection hv with h7; injection h7 with _ h6; rw [← h6]; exact hf⟩, hA.keep _ (by repeat' constructor), hM⟩
 · have hb18' := of_decide_eq_false hb18
   refine qa (v := .bool false) hA rfl rfl rfl (qg rfl rfl (fun w => (zt w).trans (by rw [hb18]))) ?_
   intro a hA
   refine qf ?_
   refine hK17 _ _ ?_
   refine wp_cond_false (hA.ev rfl) ?_
   refine wp_exit ?_
   refine hK11 _ _ ?_
   refine wp_seq_k (fun K22 hK22 => ?_)
   refine wp_region_lit ?_
   refine qa hA rfl rfl rfl (qb rfl) ?_
   intro a hA
   refine qf ?_
   refine hK22 _ _ ?_
   refine wp_ret ?_
   refine hret _ _ ?_
   refine ze (v := .bool true) hA rfl (.cons (ql rfl) .nil) rfl ?_
   subst hr
   exact ⟨by rw [okS_good (fun j ua ur hj => hin9 j ua ur (by have := (List.getElem?_eq_some_iff.1 hj).1; omega) hj)], hM.bel⟩
theorem risCh_any {w : World} {n : Int} {r : Bool} (hr : kz n = r) : Calls Tryz.prog 51 #[.int .i64 n] w fun e w' => e = .returned (.bool r) ∧ Below w.heap.size w w' := by
 have hM : Mg w w ([]) := Mg.start w
 refine zb (l := [(0, .int .i64 n)]) Tryz.func51 rfl Tryz.ntmps51 rfl rfl ?_
 intro Q hret hnorm hP a hA
 refine wp_seq_k (fun K1 hK1 => ?_)
 refine wp_region_lit ?_
 refine qa hA rfl rfl rfl (qb rfl) ?_
 intro a hA
 refine qf ?_
 refine hK1 _ _ ?_
 refine wp_seq_k (fun K2 hK2 => ?_)
 refine wp_region_lit ?_
 refine qa hA rfl rfl rfl (qe rfl) ?_
 intro a hA
 rcases Bool.eq_false_or_eq_true (decide (0 ≤ n)) with hb3 | hb3
 · have hb3' := of_decide_eq_true hb3
   refine qa (v := .bool true) hA rfl rfl rfl (qg rfl rfl (fun w => (xu w).trans (by rw [hb3]))) ?_
   intro a hA
   refine qa hA rfl rfl rfl (qe rfl) ?_
   intro a hA
   refine qa hA rfl rfl rfl (qe rfl) ?_
   intro a hA
   rcases Bool.eq_false_or_eq_true (decide (n ≤ 1114111)) with hb4 | hb4
   · have hb4' := of_decide_eq_true hb4
     refine qa (v := .bool true) hA rfl rfl rfl (qg rfl rfl (fun w => (vv w).trans (by rw [hb4]))) ?_
     intro a hA
     refine qa (v := .bool true) hA rfl rfl rfl (qi rfl rfl rfl rfl) ?_
     intro a hA
     refine qa hA rfl rfl rfl (qe rfl) ?_
     intro a hA
     refine qa hA rfl rfl rfl (qe rfl) ?_
     intro a hA
     rcases Bool.eq_false_or_eq_true (decide (n < 55296)) with hb5 | hb5
     · have hb5' := of_decide_eq_true hb5
       refine qa (v := .bool true) hA rfl rfl rfl (qg rfl rfl (fun w => (zt w).trans (by rw [hb5]))) ?_
       intro a hA
       refine qa hA rfl rfl rfl (qe rfl) ?_
       intro a hA
       refine qj hA rfl rfl rfl ?_
       intro a hA
       refine qj hA rfl rfl rfl ?_
       intro a hA
       refine qa (v := .bool true) hA rfl rfl rfl (qi rfl rfl rfl rfl) ?_
       intro a hA
       refine qa (v := .bool true) hA rfl rfl rfl (qi rfl rfl rfl rfl) ?_
       intro a hA
       refine qa hA rfl rfl rfl (qb rfl) ?_
       intro a hA
       refine qf ?_
       refine hK2 _ _ ?_
       refine wp_ret ?_
       refine hret _ _ ?_
       refine ze (v := .bool true) hA rfl (.cons (ql rfl) .nil) rfl ?_
       subst hr
       exact ⟨by rw [show kz n = true from by unfold kz; apply decide_eq_true; omega], hM.bel⟩
     · have hb5' := of_decide_eq_false hb5
       refine qa (v := .bool false) hA rfl rfl rfl (qg rfl rfl (fun w => (zt w).trans (by rw [hb5]))) ?_
       intro a hA
       refine qa hA rfl rfl rfl (qe rfl) ?_
       intro a hA
       refine qa hA rfl rfl rfl (qe rfl) ?_
       intro a hA
       rcases Bool.eq_false_or_eq_true (decide (57343 < n)) with hb6 | hb6
       · have hb6' := of_decide_eq_true hb6
         refine qa (v := .bool true) hA rfl rfl rfl (qg rfl rfl (fun w => (ju w).trans (by rw [hb6]))) ?_
         intro a hA
         refine qa (v := .bool true) hA rfl rfl rfl (qi rfl rfl rfl rfl) ?_
         intro a hA
         refine qa (v := .bool true) hA rfl rfl rfl (qi rfl rfl rfl rfl) ?_
         intro a hA
         refine qa hA rfl rfl rfl (qb rfl) ?_
         intro a hA
         refine qf ?_
         refine hK2 _ _ ?_
         refine wp_ret ?_
         refine hret _ _ ?_
         refine ze (v := .bool true) hA rfl (.cons (ql rfl) .nil) rfl ?_
         subst hr
         exact ⟨by rw [show kz n = true from by unfold kz; apply decide_eq_true; omega], hM.bel⟩
       · have hb6' := of_decide_eq_false hb6
         refine qa (v := .bool false) hA rfl rfl rfl (qg rfl rfl (fun w => (ju w).trans (by rw [hb6]))) ?_
         intro a hA
         refine qa (v := .bool false) hA rfl rfl rfl (qi rfl rfl rfl rfl) ?_
         intro a hA
         refine qa (v := .bool false) hA rfl rfl rfl (qi rfl rfl rfl rfl) ?_
         intro a hA
         refine qa hA rfl rfl rfl (qb rfl) ?_
         intro a hA
         refine qf ?_
         refine hK2 _ _ ?_
         refine wp_ret ?_
         refine hret _ _ ?_
         refine ze (v := .bool false) hA rfl (.cons (ql rfl) .nil) rfl ?_
         subst hr
         exact ⟨by rw [show kz n = false from by unfold kz; apply decide_eq_false; omega], hM.bel⟩
   · have hb4' := of_decide_eq_false hb4
     refine qa (v := .bool false) hA rfl rfl rfl (qg rfl rfl (fun w => (vv w).trans (by rw [hb4]))) ?_
     intro a hA
     refine qa (v := .bool false) hA rfl rfl rfl (qi rfl rfl rfl rfl) ?_
     intro a hA
     refine qa hA rfl rfl rfl (qe rfl) ?_
     intro a hA
     refine qj hA rfl rfl rfl ?_
     intro a hA
     refine qj hA rfl rfl rfl ?_
     intro a hA
     refine qj hA rfl rfl rfl ?_
     intro a hA
     refine kb hA rfl rfl rfl ?_
     intro a hA
     refine kb hA rfl rfl rfl ?_
     intro a hA
     refine qj hA rfl rfl rfl ?_
     intro a hA
     refine qa (v := .bool false) hA rfl rfl rfl (qi rfl rfl rfl rfl) ?_
     intro a hA
     refine qa hA rfl rfl rfl (qb rfl) ?_
     intro a hA
     refine qf ?_
     refine hK2 _ _ ?_
     refine wp_ret ?_
     refine hret _ _ ?_
     refine ze (v := .bool false) hA rfl (.cons (ql rfl) .nil) rfl ?_
     subst hr
     exact ⟨by rw [show kz n = false from by unfold kz; apply decide_eq_false; omega], hM.bel⟩
 · have hb3' := of_decide_eq_false hb3
   refine qa (v := .bool false) hA rfl rfl rfl (qg rfl rfl (fun w => (xu w).trans (by rw [hb3]))) ?_
   intro a hA
   refine qa hA rfl rfl rfl (qe rfl) ?_
   intro a hA
   refine qj hA rfl rfl rfl ?_
   intro a hA
   refine qj hA rfl rfl rfl ?_
   intro a hA
   refine qa (v := .bool false) hA rfl rfl rfl (qi rfl rfl rfl rfl) ?_
   intro a hA
   refine qa hA rfl rfl rfl (qe rfl) ?_
   intro a hA
   refine qj hA rfl rfl rfl ?_
   intro a hA
   refine qj hA rfl rfl rfl ?_
   intro a hA
   refine qj hA rfl rfl rfl ?_
   intro a hA
   refine kb hA rfl rfl rfl ?_
   intro a hA
   refine kb hA rfl rfl rfl ?_
   intro a hA
   refine qj hA rfl rfl rfl ?_
   intro a hA
   refine qa (v := .bool false) hA rfl rfl rfl (qi rfl rfl rfl rfl) ?_
   intro a hA
   refine qa hA rfl rfl rfl (qb rfl) ?_
   intro a hA
   refine qf ?_
   refine hK2 _ _ ?_
   refine wp_ret ?_
   refine hret _ _ ?_
   refine ze (v := .bool false) hA rfl (.cons (ql rfl) .nil) rfl ?_
   subst hr
   exact ⟨by rw [show kz n = false from by unfold kz; apply decide_eq_false; omega], hM.bel⟩
def vu (k n : Int) (q : Q6) (s : ByteArray) (mr ml : Nat) : Bool :=
  if k < 1 ∨ 11 < k ∨ okS s = false then false
  else if k = 3 ∧ xd q = false then false
  else if k ≠ 3 ∧ (ki q.b1 q.t1.length q.q1.length = false ∨ ki q.b2 q.t2.length q.q2.length = false) then false
  else if s ≠ ⟨#[]⟩ ∧ k ≠ 5 ∧ k ≠ 6 ∧ k ≠ 11 then false
  else if 0 < mr ∧ k ≠ 7 then false
  else if k = 2 ∧ n ≠ 0 ∧ n ≠ 1 then false
  else if k = 4 ∧ kz n = false then false
  else if k ≠ 2 ∧ k ≠ 4 ∧ n ≠ 0 then false
  else if k = 8 then decide (ml = 2)
  else decide (k = 9 ∨ ml = 0)
theorem okS_nil : okS ⟨#[]⟩ = true := by unfold okS; rfl
theorem jl (k n : Int) (q : Q6) (s : ByteArray) (mr ml : Nat) : jo k n q s mr ml = vu k n q s mr ml := by
  have hv : s = ⟨#[]⟩ → okS s = true := by rintro rfl; exact okS_nil
  have hn0 : ki false 0 0 = true := rfl
  unfold jo vu
  by_cases hk : k < 1 ∨ 11 < k
  · rw [if_pos (show k < 1 ∨ 11 < k ∨ okS s = false by omega)]
    repeat (rw [if_neg (by omega)])
  · have h11 : k = 1 ∨ k = 2 ∨ k = 3 ∨ k = 4 ∨ k = 5 ∨ k = 6 ∨ k = 7 ∨ k = 8 ∨ k = 9 ∨ k = 10 ∨ k = 11 := by omega
    simp only [vq, hn0]
    generalize ki q.b1 q.t1.length q.q1.length = B1
    generalize ki q.b2 q.t2.length q.q2.length = B2
    generalize xd q = S1
    generalize kz n = S2
    by_cases hs : s = ⟨#[]⟩
    · rw [hv hs]
      have hs2 : ¬ s ≠ ⟨#[]⟩ := fun h => h hs
      rcases h11 with h | h | h | h | h | h | h | h | h | h | h <;> subst h <;> cases B1 <;> cases B2 <;> cases S1 <;> cases S2 <;> simp [hs] <;> by_cases hm : mr = 0 <;> simp [hm] <;> by_cases hn : n = 0 <;> simp [hn] <;> first | omega | (by_cases hn1 : n = 1 <;> simp [hn1]) | skip
    · cases hV : okS s <;> rcases h11 with h | h | h | h | h | h | h | h | h | h | h <;> subst h <;> cases B1 <;> cases B2 <;> cases S1 <;> cases S2 <;> simp [hs] <;> by_cases hm : mr = 0 <;> simp [hm] <;> by_cases hn : n = 0 <;> simp [hn] <;> first | omega | skip
section
variable {k n : Int} {q : Q6} {s : ByteArray} {mr ml : Nat}
def ShA (k : Int) (s : ByteArray) : Prop := 1 ≤ k ∧ k ≤ 11 ∧ okS s = true
def ShB (k : Int) (q : Q6) : Prop := (k = 3 → xd q = true) ∧ (k ≠ 3 → ki q.b1 q.t1.length q.q1.length = true ∧ ki q.b2 q.t2.length q.q2.length = true)
def ShC (k : Int) (s : ByteArray) : Prop := s = ⟨#[]⟩ ∨ k = 5 ∨ k = 6 ∨ k = 11
def ShD (k : Int) (mr : Nat) : Prop := mr = 0 ∨ k = 7
def ShE (k n : Int) : Prop := (k = 2 → n = 0 ∨ n = 1) ∧ (k = 4 → kz n = true) ∧ (k ≠ 2 → k ≠ 4 → n = 0)
theorem sh1 (h : k < 1 ∨ 11 < k ∨ okS s = false) : vu k n q s mr ml = false := by unfold vu; rw [if_pos h]
theorem shA (a : ShA k s) : ¬ (k < 1 ∨ 11 < k ∨ okS s = false) := fun e => by
  rcases e with e | e | e
  · have := a.1; omega
  · have := a.2.1; omega
  · rw [a.2.2] at e; cases e
theorem sh2 (a : ShA k s) (h : k = 3) (hS : xd q = false) : vu k n q s mr ml = false := by unfold vu; rw [if_neg (shA a), if_pos ⟨h, hS⟩]
theorem sh3 (a : ShA k s) (h : k ≠ 3) (hS : ki q.b1 q.t1.length q.q1.length = false ∨ ki q.b2 q.t2.length q.q2.length = false) : vu k n q s mr ml = false := by unfold vu; rw [if_neg (shA a), if_neg (fun e => h e.1), if_pos ⟨h, hS⟩]
theorem shB1 (b : ShB k q) : ¬ (k = 3 ∧ xd q = false) := fun e => by have := b.1 e.1; rw [e.2] at this; cases this
theorem shB2 (b : ShB k q) : ¬ (k ≠ 3 ∧ (ki q.b1 q.t1.length q.q1.length = false ∨ ki q.b2 q.t2.length q.q2.length = false)) := fun e => by
  have := b.2 e.1
  rcases e.2 with h | h
  · rw [this.1] at h; cases h
  · rw [this.2] at h; cases h
theorem sh4 (a : ShA k s) (b : ShB k q) (h : s ≠ ⟨#[]⟩ ∧ k ≠ 5 ∧ k ≠ 6 ∧ k ≠ 11) : vu k n q s mr ml = false := by unfold vu; rw [if_neg (shA a), if_neg (shB1 b), if_neg (shB2 b), if_pos h]
theorem shC (c : ShC k s) : ¬ (s ≠ ⟨#[]⟩ ∧ k ≠ 5 ∧ k ≠ 6 ∧ k ≠ 11) := fun e => by rcases c with h | h | h | h <;> first | exact e.1 h | exact e.2.1 h | exact e.2.2.1 h | exact e.2.2.2 h
theorem sh5 (a : ShA k s) (b : ShB k q) (c : ShC k s) (h : 0 < mr ∧ k ≠ 7) : vu k n q s mr ml = false := by unfold vu; rw [if_neg (shA a), if_neg (shB1 b), if_neg (shB2 b), if_neg (shC c), if_pos h]
theorem shD (d : ShD k mr) : ¬ (0 < mr ∧ k ≠ 7) := fun e => by rcases d with h | h <;> omega
theorem sh6 (a : ShA k s) (b : ShB k q) (c : ShC k s) (d : ShD k mr) (h : (k = 2 ∧ n ≠ 0 ∧ n ≠ 1) ∨ (k = 4 ∧ kz n = false) ∨ (k ≠ 2 ∧ k ≠ 4 ∧ n ≠ 0)) : vu k n q s mr ml = false := by
  unfold vu
  rw [if_neg (shA a), if_neg (shB1 b), if_neg (shB2 b), if_neg (shC c), if_neg (shD d)]
  rcases h with h | h | h
  · rw [if_pos h]
  · rw [if_neg (by omega), if_pos h]
  · rw [if_neg (by omega), if_neg (fun e => h.2.1 e.1), if_pos h]
theorem sh9 (a : ShA k s) (b : ShB k q) (c : ShC k s) (d : ShD k mr) (e : ShE k n) : vu k n q s mr ml = if k = 8 then decide (ml = 2) else decide (k = 9 ∨ ml = 0) := by
  unfold vu
  have e1 := e.1
  have e3 := e.2.2
  rw [if_neg (shA a), if_neg (shB1 b), if_neg (shB2 b), if_neg (shC c), if_neg (shD d), if_neg (fun h => by have := e1 h.1; omega), if_neg (fun h => by have := e.2.1 h.1; rw [h.2] at this; cases this), if_neg (fun h => by have := e3 h.1 h.2.1; omega)]
end
theorem qkc {w : World} {d : Nd} {ts : List Dt} (hok : NdOk w d) (hs2 : d.s.size ≤ 4000000) (hlen : ts.length ≤ 9223372036854775807) {r : Bool} (hr : jo d.k d.n d.y.q d.s d.rl.length ts.length = r) : Calls Tryz.prog 27 #[.agg (d.cells ts.length).toArray] w fun e w' => e = .returned (.bool r) ∧ Below w.heap.size w w' := by
 have hrl : d.rl.length ≤ 9223372036854775807 := Nat.le_trans hok.rcap hok.rmax
 have hM : Mg w w ([]) := Mg.start w
 refine zb (l := [(0, .agg (d.cells ts.length).toArray)]) Tryz.func27 rfl Tryz.ntmps27 rfl rfl ?_
 intro Q hret hnorm hP a hA
 refine wp_seq_k (fun K1 hK1 => ?_)
 refine wp_region_lit ?_
 refine jc (vs := [.int .i64 d.k, .int .i64 d.n, .bool d.y.q.b1, .slice d.y.o1 d.y.q.t1.length d.y.c1, .slice d.y.o2 d.y.q.q1.length d.y.c2, .bool d.y.q.b2, .slice d.y.o3 d.y.q.t2.length d.y.c3, .slice d.y.o4 d.y.q.q2.length d.y.c4, .string d.s, .slice d.ro d.rl.length d.rc, .slice d.lo ts.length d.lc]) (t := 31) hA hM rfl rfl rfl (fun g => .pointer (some ⟨g, 0, none⟩)) (zm rfl rfl) (by decide) ?_
 intro g2 w3 hM a hA
 refine qa hA rfl rfl rfl (qb rfl) ?_
 intro a hA
 refine qf ?_
 refine hK1 _ _ ?_
 refine wp_seq_k (fun K4 hK4 => ?_)
 have hJ5 : ∀ a w1, ((ShA d.k d.s) ∧ Sl a 100 [(0, .agg (d.cells ts.length).toArray), (1, .pointer (some ⟨g2, 0, none⟩))] ∧ Mg w w1 (.obj g2 (.cells (d.cells ts.length).toArray 31) :: [])) → K4 a w1 := by
   clear hA hM
   rintro a w6 ⟨hf7, hA, hM⟩
   have hSA := hf7
   refine hK4 _ _ ?_
   refine wp_seq_k (fun K8 hK8 => ?_)
   have hJ9 : ∀ a w1, ((ShB d.k d.y.q) ∧ Sl a 100 [(0, .agg (d.cells ts.length).toArray), (1, .pointer (some ⟨g2, 0, none⟩))] ∧ Mg w w1 (.obj g2 (.cells (d.cells ts.length).toArray 31) :: [])) → K8 a w1 := by
     clear hA hM
     rintro a w10 ⟨hf11, hA, hM⟩
     have hSB := hf11
     refine hK8 _ _ ?_
     refine wp_seq_k (fun K12 hK12 => ?_)
     have hJ13 : ∀ a w1, ((ShC d.k d.s) ∧ Sl a 100 [(0, .agg (d.cells ts.length).toArray), (1, .pointer (some ⟨g2, 0, none⟩))] ∧ Mg w w1 (.obj g2 (.cells (d.cells ts.length).toArray 31) :: [])) → K12 a w1 := by
       clear hA hM
       rintro a w14 ⟨hf15, hA, hM⟩
       have hSC := hf15
       refine hK12 _ _ ?_
       refine wp_seq_k (fun K16 hK16 => ?_)
       have hJ17 : ∀ a w1, ((ShD d.k d.rl.length) ∧ Sl a 100 [(0, .agg (d.cells ts.length).toArray), (1, .pointer (some ⟨g2, 0, none⟩))] ∧ Mg w w1 (.obj g2 (.cells (d.cells ts.length).toArray 31) :: [])) → K16 a w1 := by
         clear hA hM
         rintro a w18 ⟨hf19, hA, hM⟩
         have hSD := hf19
         refine hK16 _ _ ?_
         refine wp_seq_k (fun K20 hK20 => ?_)
         have hJ21 : ∀ a w1, ((ShE d.k d.n) ∧ Sl a 100 [(0, .agg (d.cells ts.length).toArray), (1, .pointer (some ⟨g2, 0, none⟩))] ∧ Mg w w1 (.obj g2 (.cells (d.cells ts.length).toArray 31) :: [])) → K20 a w1 := by
           clear hA hM
           rintro a w22 ⟨hf23, hA, hM⟩
           have hSE := hf23
           refine hK20 _ _ ?_
           refine wp_seq_k (fun K24 hK24 => ?_)
           refine wp_seq_k (fun K25 hK25 => ?_)
           refine wp_region_lit ?_
           refine qa (v := .pointer (some ⟨g2, 0, none⟩)) hA rfl rfl rfl (qk TrV_fld_31_0 rfl rfl) ?_
           intro a hA
           refine qa hA rfl rfl rfl (zk hM TrV_is1_3 rfl 0 rfl rfl) ?_
           intro a hA
           rcases Bool.eq_false_or_eq_true ((d.k == 8)) with hb26 | hb26
           · have hb26' := eq_of_beq hb26
             refine qa (v := .bool true) hA rfl rfl rfl (qg rfl rfl (fun w => (za w).trans (by rw [hb26]))) ?_
             intro a hA
             refine qf ?_
             refine hK25 _ _ ?_
             refine wp_cond_true (hA.ev rfl) ?_
             refine wp_seq_k (fun K27 hK27 => ?_)
             refine wp_region_lit ?_
             refine qa (v := .pointer (some ⟨g2, 10, none⟩)) hA rfl rfl rfl (qk TrV_fld_31_5 rfl rfl) ?_
             intro a hA
             refine qa hA rfl rfl rfl (zk hM TrV_is1_29 rfl 0 rfl rfl) ?_
             intro a hA
             refine qa (v := .int .i64 (((ts.length : Nat) : Int))) hA rfl rfl rfl (zj Tryz.underlying29 rfl) ?_
             intro a hA
             rcases Bool.eq_false_or_eq_true ((((ts.length : Nat) : Int) == 2)) with hb28 | hb28
             · have hb28' := eq_of_beq hb28
               refine qa (v := .bool true) hA rfl rfl rfl (qg rfl rfl (fun w => (za w).trans (by rw [hb28]))) ?_
               intro a hA
               refine qa hA rfl rfl rfl (qb rfl) ?_
               intro a hA
               refine qf ?_
               refine hK27 _ _ ?_
               refine wp_ret ?_
               refine hret _ _ ?_
               refine ze (v := .bool true) hA rfl (.cons (ql rfl) .nil) rfl ?_
               exact ⟨by rw [← hr, jl, sh9 hSA hSB hSC hSD hSE, if_pos (by omega), decide_eq_true (show (ts.length = 2) by omega)], hM.bel⟩
             · have hb28' := ne_of_beq_false hb28
               refine qa (v := .bool false) hA rfl rfl rfl (qg rfl rfl (fun w => (za w).trans (by rw [hb28]))) ?_
               intro a hA
               refine qa hA rfl rfl rfl (qb rfl) ?_
               intro a hA
               refine qf ?_
               refine hK27 _ _ ?_
               refine wp_ret ?_
               refine hret _ _ ?_
               refine ze (v := .bool false) hA rfl (.cons (ql rfl) .nil) rfl ?_
               exact ⟨by rw [← hr, jl, sh9 hSA hSB hSC hSD hSE, if_pos (by omega), decide_eq_false (show ¬ (ts.length = 2) by omega)], hM.bel⟩
           · have hb26' := ne_of_beq_false hb26
             refine qa (v := .bool false) hA rfl rfl rfl (qg rfl rfl (fun w => (za w).trans (by rw [hb26]))) ?_
             intro a hA
             refine qf ?_
             refine hK25 _ _ ?_
             refine wp_cond_false (hA.ev rfl) ?_
             refine wp_skip ?_
             refine hK24 _ _ ?_
             refine wp_seq_k (fun K29 hK29 => ?_)
             refine wp_region_lit ?_
             refine qa (v := .pointer (some ⟨g2, 0, none⟩)) hA rfl rfl rfl (qk TrV_fld_31_0 rfl rfl) ?_
             intro a hA
             refine qa hA rfl rfl rfl (zk hM TrV_is1_3 rfl 0 rfl rfl) ?_
             intro a hA
             rcases Bool.eq_false_or_eq_true ((d.k == 9)) with hb30 | hb30
             · have hb30' := eq_of_beq hb30
               refine qa (v := .bool true) hA rfl rfl rfl (qg rfl rfl (fun w => (za w).trans (by rw [hb30]))) ?_
               intro a hA
               refine qa hA rfl rfl rfl (qe rfl) ?_
               intro a hA
               refine qj hA rfl rfl rfl ?_
               intro a hA
               refine qj hA rfl rfl rfl ?_
               intro a hA
               refine qj hA rfl rfl rfl ?_
               intro a hA
               refine qj hA rfl rfl rfl ?_
               intro a hA
               refine qa (v := .bool true) hA rfl rfl rfl (qi rfl rfl rfl rfl) ?_
               intro a hA
               refine qa hA rfl rfl rfl (qb rfl) ?_
               intro a hA
               refine qf ?_
               refine hK29 _ _ ?_
               refine wp_ret ?_
               refine hret _ _ ?_
               refine ze (v := .bool true) hA rfl (.cons (ql rfl) .nil) rfl ?_
               exact ⟨by rw [← hr, jl, sh9 hSA hSB hSC hSD hSE, if_neg (by omega), decide_eq_true (show (d.k = 9 ∨ ts.length = 0) by omega)], hM.bel⟩
             · have hb30' := ne_of_beq_false hb30
               refine qa (v := .bool false) hA rfl rfl rfl (qg rfl rfl (fun w => (za w).trans (by rw [hb30]))) ?_
               intro a hA
               refine qa hA rfl rfl rfl (qe rfl) ?_
               intro a hA
               refine qa (v := .pointer (some ⟨g2, 10, none⟩)) hA rfl rfl rfl (qk TrV_fld_31_5 rfl rfl) ?_
               intro a hA
               refine qa hA rfl rfl rfl (zk hM TrV_is1_29 rfl 0 rfl rfl) ?_
               intro a hA
               refine qa (v := .int .i64 (((ts.length : Nat) : Int))) hA rfl rfl rfl (zj Tryz.underlying29 rfl) ?_
               intro a hA
               rcases Bool.eq_false_or_eq_true ((((ts.length : Nat) : Int) == 0)) with hb31 | hb31
               · have hb31' := eq_of_beq hb31
                 refine qa (v := .bool true) hA rfl rfl rfl (qg rfl rfl (fun w => (za w).trans (by rw [hb31]))) ?_
                 intro a hA
                 refine qa (v := .bool true) hA rfl rfl rfl (qi rfl rfl rfl rfl) ?_
                 intro a hA
                 refine qa hA rfl rfl rfl (qb rfl) ?_
                 intro a hA
                 refine qf ?_
                 refine hK29 _ _ ?_
                 refine wp_ret ?_
                 refine hret _ _ ?_
                 refine ze (v := .bool true) hA rfl (.cons (ql rfl) .nil) rfl ?_
                 exact ⟨by rw [← hr, jl, sh9 hSA hSB hSC hSD hSE, if_neg (by omega), decide_eq_true (show (d.k = 9 ∨ ts.length = 0) by omega)], hM.bel⟩
               · have hb31' := ne_of_beq_false hb31
                 refine qa (v := .bool false) hA rfl rfl rfl (qg rfl rfl (fun w => (za w).trans (by rw [hb31]))) ?_
                 intro a hA
                 refine qa (v := .bool false) hA rfl rfl rfl (qi rfl rfl rfl rfl) ?_
                 intro a hA
                 refine qa hA rfl rfl rfl (qb rfl) ?_
                 intro a hA
                 refine qf ?_
                 refine hK29 _ _ ?_
                 refine wp_ret ?_
                 refine hret _ _ ?_
                 refine ze (v := .bool false) hA rfl (.cons (ql rfl) .nil) rfl ?_
                 exact ⟨by rw [← hr, jl, sh9 hSA hSB hSC hSD hSE, if_neg (by omega), decide_eq_false (show ¬ (d.k = 9 ∨ ts.length = 0) by omega)], hM.bel⟩
         refine wp_seq_k (fun K32 hK32 => ?_)
         refine wp_region_lit ?_
         refine qa (v := .pointer (some ⟨g2, 0, none⟩)) hA rfl rfl rfl (qk TrV_fld_31_0 rfl rfl) ?_
         intro a hA
         refine qa hA rfl rfl rfl (zk hM TrV_is1_3 rfl 0 rfl rfl) ?_
         intro a hA
         refine qf ?_
         refine hK32 _ _ ?_
         refine wp_block ?_
         refine wp_seq_k (fun K33 hK33 => ?_)
         refine wp_region_lit ?_
         rcases Bool.eq_false_or_eq_true ((d.k == 2)) with hb34 | hb34
         · have hb34' := eq_of_beq hb34
           refine qa (v := .bool true) hA rfl rfl rfl (qg rfl rfl (fun w => (za w).trans (by rw [hb34]))) ?_
           intro a hA
           refine qa hA rfl rfl rfl (qb rfl) ?_
           intro a hA
           refine qf ?_
           refine hK33 _ _ ?_
           refine wp_cond_true (hA.ev rfl) ?_
           refine wp_seq_k (fun K35 hK35 => ?_)
           refine wp_region_lit ?_
           refine qa (v := .pointer (some ⟨g2, 1, none⟩)) hA rfl rfl rfl (qk TrV_fld_31_1 rfl rfl) ?_
           intro a hA
           refine qa hA rfl rfl rfl (zk hM TrV_is1_3 rfl 0 rfl rfl) ?_
           intro a hA
           rcases Bool.eq_false_or_eq_true ((d.n != 0)) with hb36 | hb36
           · have hb36' := bne_iff_ne.1 hb36
             refine qa (v := .bool true) hA rfl rfl rfl (qg rfl rfl (fun w => (jh w).trans (by rw [hb36]))) ?_
             intro a hA
             refine qa hA rfl rfl rfl (qe rfl) ?_
             intro a hA
             refine qa (v := .pointer (some ⟨g2, 1, none⟩)) hA rfl rfl rfl (qk TrV_fld_31_1 rfl rfl) ?_
             intro a hA
             refine qa hA rfl rfl rfl (zk hM TrV_is1_3 rfl 0 rfl rfl) ?_
             intro a hA
             rcases Bool.eq_false_or_eq_true ((d.n != 1)) with hb37 | hb37
             · have hb37' := bne_iff_ne.1 hb37
               refine qa (v := .bool true) hA rfl rfl rfl (qg rfl rfl (fun w => (jh w).trans (by rw [hb37]))) ?_
               intro a hA
               refine qa (v := .bool true) hA rfl rfl rfl (qi rfl rfl rfl rfl) ?_
               intro a hA
               refine qf ?_
               refine hK35 _ _ ?_
               refine wp_cond_true (hA.ev rfl) ?_
               refine wp_seq_k (fun K38 hK38 => ?_)
               refine wp_region_lit ?_
               refine qa hA rfl rfl rfl (qb rfl) ?_
               intro a hA
               refine qf ?_
               refine hK38 _ _ ?_
               refine wp_ret ?_
               refine hret _ _ ?_
               refine ze (v := .bool false) hA rfl (.cons (ql rfl) .nil) rfl ?_
               exact ⟨by rw [← hr, jl, sh6 hSA hSB hSC hSD (.inl ⟨by omega, by omega, by omega⟩)], hM.bel⟩
             · have hb37' := bne_eq_false_iff_eq.1 hb37
               refine qa (v := .bool false) hA rfl rfl rfl (qg rfl rfl (fun w => (jh w).trans (by rw [hb37]))) ?_
               intro a hA
               refine qa (v := .bool false) hA rfl rfl rfl (qi rfl rfl rfl rfl) ?_
               intro a hA
               refine qf ?_
               refine hK35 _ _ ?_
               refine wp_cond_false (hA.ev rfl) ?_
               refine wp_skip ?_
               exact hJ21 _ _ ⟨⟨fun h => by omega, fun h => absurd h (by omega), fun h h2 => by omega⟩, hA.keep _ ⟨rfl, rfl, trivial⟩, hM⟩
           · have hb36' := bne_eq_false_iff_eq.1 hb36
             refine qa (v := .bool false) hA rfl rfl rfl (qg rfl rfl (fun w => (jh w).trans (by rw [hb36]))) ?_
             intro a hA
             refine qa hA rfl rfl rfl (qe rfl) ?_
             intro a hA
             refine qj hA rfl rfl rfl ?_
             intro a hA
             refine qj hA rfl rfl rfl ?_
             intro a hA
             refine qj hA rfl rfl rfl ?_
             intro a hA
             refine qa (v := .bool false) hA rfl rfl rfl (qi rfl rfl rfl rfl) ?_
             intro a hA
             refine qf ?_
             refine hK35 _ _ ?_
             refine wp_cond_false (hA.ev rfl) ?_
             refine wp_skip ?_
             exact hJ21 _ _ ⟨⟨fun h => by omega, fun h => absurd h (by omega), fun h h2 => by omega⟩, hA.keep _ ⟨rfl, rfl, trivial⟩, hM⟩
         · have hb34' := ne_of_beq_false hb34
           refine qa (v := .bool false) hA rfl rfl rfl (qg rfl rfl (fun w => (za w).trans (by rw [hb34]))) ?_
           intro a hA
           refine qa hA rfl rfl rfl (qb rfl) ?_
           intro a hA
           refine qf ?_
           refine hK33 _ _ ?_
           refine wp_cond_false (hA.ev rfl) ?_
           refine wp_seq_k (fun K39 hK39 => ?_)
           refine wp_region_lit ?_
           rcases Bool.eq_false_or_eq_true ((d.k == 4)) with hb40 | hb40
           · have hb40' := eq_of_beq hb40
             refine qa (v := .bool true) hA rfl rfl rfl (qg rfl rfl (fun w => (za w).trans (by rw [hb40]))) ?_
             intro a hA
             refine qa hA rfl rfl rfl (qb rfl) ?_
             intro a hA
             refine qf ?_
             refine hK39 _ _ ?_
             refine wp_cond_true (hA.ev rfl) ?_
             refine wp_seq_k (fun K41 hK41 => ?_)
             refine wp_region_lit ?_
             refine qa (v := .pointer (some ⟨g2, 1, none⟩)) hA rfl rfl rfl (qk TrV_fld_31_1 rfl rfl) ?_
             intro a hA
             refine qa hA rfl rfl rfl (zk hM TrV_is1_3 rfl 0 rfl rfl) ?_
             intro a hA
             rcases Bool.eq_false_or_eq_true (kz d.n) with hb42 | hb42
             · refine qm hA rfl rfl rfl (qh rfl rfl (fun w => by kernel_rfl)) (risCh_any hb42) ?_
               rintro _ w44 ⟨rfl, hb43⟩
               replace hM := hM.call hb43
               refine ⟨_, rfl, ?_⟩
               intro a hA
               refine qa (v := .bool false) hA rfl rfl rfl (qz rfl zg) ?_
               intro a hA
               refine qf ?_
               refine hK41 _ _ ?_
               refine wp_cond_false (hA.ev rfl) ?_
               refine wp_skip ?_
               exact hJ21 _ _ ⟨⟨fun h => by omega, fun h => hb42, fun h h2 => by omega⟩, hA.keep _ ⟨rfl, rfl, trivial⟩, hM⟩
             · refine qm hA rfl rfl rfl (qh rfl rfl (fun w => by kernel_rfl)) (risCh_any hb42) ?_
               rintro _ w46 ⟨rfl, hb45⟩
               replace hM := hM.call hb45
               refine ⟨_, rfl, ?_⟩
               intro a hA
               refine qa (v := .bool true) hA rfl rfl rfl (qz rfl zg) ?_
               intro a hA
               refine qf ?_
               refine hK41 _ _ ?_
               refine wp_cond_true (hA.ev rfl) ?_
               refine wp_seq_k (fun K47 hK47 => ?_)
               refine wp_region_lit ?_
               refine qa hA rfl rfl rfl (qb rfl) ?_
               intro a hA
               refine qf ?_
               refine hK47 _ _ ?_
               refine wp_ret ?_
               refine hret _ _ ?_
               refine ze (v := .bool false) hA rfl (.cons (ql rfl) .nil) rfl ?_
               exact ⟨by rw [← hr, jl, sh6 hSA hSB hSC hSD (.inr (.inl ⟨by omega, hb42⟩))], hM.bel⟩
           · have hb40' := ne_of_beq_false hb40
             refine qa (v := .bool false) hA rfl rfl rfl (qg rfl rfl (fun w => (za w).trans (by rw [hb40]))) ?_
             intro a hA
             refine qa hA rfl rfl rfl (qb rfl) ?_
             intro a hA
             refine qf ?_
             refine hK39 _ _ ?_
             refine wp_cond_false (hA.ev rfl) ?_
             refine wp_seq_k (fun K48 hK48 => ?_)
             refine wp_region_lit ?_
             refine qa (v := .pointer (some ⟨g2, 1, none⟩)) hA rfl rfl rfl (qk TrV_fld_31_1 rfl rfl) ?_
             intro a hA
             refine qa hA rfl rfl rfl (zk hM TrV_is1_3 rfl 0 rfl rfl) ?_
             intro a hA
             rcases Bool.eq_false_or_eq_true ((d.n != 0)) with hb49 | hb49
             · have hb49' := bne_iff_ne.1 hb49
               refine qa (v := .bool true) hA rfl rfl rfl (qg rfl rfl (fun w => (jh w).trans (by rw [hb49]))) ?_
               intro a hA
               refine qf ?_
               refine hK48 _ _ ?_
               refine wp_cond_true (hA.ev rfl) ?_
               refine wp_seq_k (fun K50 hK50 => ?_)
               refine wp_region_lit ?_
               refine qa hA rfl rfl rfl (qb rfl) ?_
               intro a hA
               refine qf ?_
               refine hK50 _ _ ?_
               refine wp_ret ?_
               refine hret _ _ ?_
               refine ze (v := .bool false) hA rfl (.cons (ql rfl) .nil) rfl ?_
               exact ⟨by rw [← hr, jl, sh6 hSA hSB hSC hSD (.inr (.inr ⟨by omega, by omega, by omega⟩))], hM.bel⟩
             · have hb49' := bne_eq_false_iff_eq.1 hb49
               refine qa (v := .bool false) hA rfl rfl rfl (qg rfl rfl (fun w => (jh w).trans (by rw [hb49]))) ?_
               intro a hA
               refine qf ?_
               refine hK48 _ _ ?_
               refine wp_cond_false (hA.ev rfl) ?_
               refine wp_skip ?_
               exact hJ21 _ _ ⟨⟨fun h => by omega, fun h => absurd h (by omega), fun h h2 => by omega⟩, hA.keep _ ⟨rfl, rfl, trivial⟩, hM⟩
       refine wp_seq_k (fun K51 hK51 => ?_)
       refine wp_region_lit ?_
       refine qa (v := .pointer (some ⟨g2, 9, none⟩)) hA rfl rfl rfl (qk TrV_fld_31_4 rfl rfl) ?_
       intro a hA
       refine qa hA rfl rfl rfl (zk hM TrV_is1_28 rfl 0 rfl rfl) ?_
       intro a hA
       refine qa (v := .int .i64 (((d.rl.length : Nat) : Int))) hA rfl rfl rfl (zj Tryz.underlying28 rfl) ?_
       intro a hA
       rcases Bool.eq_false_or_eq_true (decide (0 < ((d.rl.length : Nat) : Int))) with hb52 | hb52
       · have hb52' := of_decide_eq_true hb52
         refine qa (v := .bool true) hA rfl rfl rfl (qg rfl rfl (fun w => (ju w).trans (by rw [hb52]))) ?_
         intro a hA
         refine qa hA rfl rfl rfl (qe rfl) ?_
         intro a hA
         refine qa (v := .pointer (some ⟨g2, 0, none⟩)) hA rfl rfl rfl (qk TrV_fld_31_0 rfl rfl) ?_
         intro a hA
         refine qa hA rfl rfl rfl (zk hM TrV_is1_3 rfl 0 rfl rfl) ?_
         intro a hA
         rcases Bool.eq_false_or_eq_true ((d.k != 7)) with hb53 | hb53
         · have hb53' := bne_iff_ne.1 hb53
           refine qa (v := .bool true) hA rfl rfl rfl (qg rfl rfl (fun w => (jh w).trans (by rw [hb53]))) ?_
           intro a hA
           refine qa (v := .bool true) hA rfl rfl rfl (qi rfl rfl rfl rfl) ?_
           intro a hA
           refine qf ?_
           refine hK51 _ _ ?_
           refine wp_cond_true (hA.ev rfl) ?_
           refine wp_seq_k (fun K54 hK54 => ?_)
           refine wp_region_lit ?_
           refine qa hA rfl rfl rfl (qb rfl) ?_
           intro a hA
           refine qf ?_
           refine hK54 _ _ ?_
           refine wp_ret ?_
           refine hret _ _ ?_
           refine ze (v := .bool false) hA rfl (.cons (ql rfl) .nil) rfl ?_
           exact ⟨by rw [← hr, jl, sh5 hSA hSB hSC ⟨by omega, by omega⟩], hM.bel⟩
         · have hb53' := bne_eq_false_iff_eq.1 hb53
           refine qa (v := .bool false) hA rfl rfl rfl (qg rfl rfl (fun w => (jh w).trans (by rw [hb53]))) ?_
           intro a hA
           refine qa (v := .bool false) hA rfl rfl rfl (qi rfl rfl rfl rfl) ?_
           intro a hA
           refine qf ?_
           refine hK51 _ _ ?_
           refine wp_cond_false (hA.ev rfl) ?_
           refine wp_skip ?_
           exact hJ17 _ _ ⟨.inr (by omega), hA.keep _ ⟨rfl, rfl, trivial⟩, hM⟩
       · have hb52' := of_decide_eq_false hb52
         refine qa (v := .bool false) hA rfl rfl rfl (qg rfl rfl (fun w => (ju w).trans (by rw [hb52]))) ?_
         intro a hA
         refine qa hA rfl rfl rfl (qe rfl) ?_
         intro a hA
         refine qj hA rfl rfl rfl ?_
         intro a hA
         refine qj hA rfl rfl rfl ?_
         intro a hA
         refine qj hA rfl rfl rfl ?_
         intro a hA
         refine qa (v := .bool false) hA rfl rfl rfl (qi rfl rfl rfl rfl) ?_
         intro a hA
         refine qf ?_
         refine hK51 _ _ ?_
         refine wp_cond_false (hA.ev rfl) ?_
         refine wp_skip ?_
         exact hJ17 _ _ ⟨.inl (by omega), hA.keep _ ⟨rfl, rfl, trivial⟩, hM⟩
     refine wp_seq_k (fun K55 hK55 => ?_)
     refine wp_region_lit ?_
     refine qa (v := .pointer (some ⟨g2, 8, none⟩)) hA rfl rfl rfl (qk TrV_fld_31_3 rfl rfl) ?_
     intro a hA
     refine qa hA rfl rfl rfl (zk hM TrV_is1_9 rfl 0 rfl rfl) ?_
     intro a hA
     rcases Bool.eq_false_or_eq_true (decide (d.s = ⟨#[]⟩)) with hb56 | hb56
     · have hb56' := of_decide_eq_true hb56
       refine qa (v := .bool false) hA rfl rfl rfl (qg rfl rfl (fun w => (bin_neqS Tryz.underlying9 w).trans (by rw [hb56] <;> rfl))) ?_
       intro a hA
       refine qa hA rfl rfl rfl (qe rfl) ?_
       intro a hA
       refine qj hA rfl rfl rfl ?_
       intro a hA
       refine qj hA rfl rfl rfl ?_
       intro a hA
       refine qj hA rfl rfl rfl ?_
       intro a hA
       refine qa (v := .bool false) hA rfl rfl rfl (qi rfl rfl rfl rfl) ?_
       intro a hA
       refine qa hA rfl rfl rfl (qe rfl) ?_
       intro a hA
       refine qj hA rfl rfl rfl ?_
       intro a hA
       refine qj hA rfl rfl rfl ?_
       intro a hA
       refine qj hA rfl rfl rfl ?_
       intro a hA
       refine qa (v := .bool false) hA rfl rfl rfl (qi rfl rfl rfl rfl) ?_
       intro a hA
       refine qa hA rfl rfl rfl (qe rfl) ?_
       intro a hA
       refine qj hA rfl rfl rfl ?_
       intro a hA
       refine qj hA rfl rfl rfl ?_
       intro a hA
       refine qj hA rfl rfl rfl ?_
       intro a hA
       refine qa (v := .bool false) hA rfl rfl rfl (qi rfl rfl rfl rfl) ?_
       intro a hA
       refine qf ?_
       refine hK55 _ _ ?_
       refine wp_cond_false (hA.ev rfl) ?_
       refine wp_skip ?_
       exact hJ13 _ _ ⟨.inl hb56', hA.keep _ ⟨rfl, rfl, trivial⟩, hM⟩
     · have hb56' := of_decide_eq_false hb56
       refine qa (v := .bool true) hA rfl rfl rfl (qg rfl rfl (fun w => (bin_neqS Tryz.underlying9 w).trans (by rw [hb56] <;> rfl))) ?_
       intro a hA
       refine qa hA rfl rfl rfl (qe rfl) ?_
       intro a hA
       refine qa (v := .pointer (some ⟨g2, 0, none⟩)) hA rfl rfl rfl (qk TrV_fld_31_0 rfl rfl) ?_
       intro a hA
       refine qa hA rfl rfl rfl (zk hM TrV_is1_3 rfl 0 rfl rfl) ?_
       intro a hA
       rcases Bool.eq_false_or_eq_true ((d.k != 5)) with hb57 | hb57
       · have hb57' := bne_iff_ne.1 hb57
         refine qa (v := .bool true) hA rfl rfl rfl (qg rfl rfl (fun w => (jh w).trans (by rw [hb57]))) ?_
         intro a hA
         refine qa (v := .bool true) hA rfl rfl rfl (qi rfl rfl rfl rfl) ?_
         intro a hA
         refine qa hA rfl rfl rfl (qe rfl) ?_
         intro a hA
         refine qa (v := .pointer (some ⟨g2, 0, none⟩)) hA rfl rfl rfl (qk TrV_fld_31_0 rfl rfl) ?_
         intro a hA
         refine qa hA rfl rfl rfl (zk hM TrV_is1_3 rfl 0 rfl rfl) ?_
         intro a hA
         rcases Bool.eq_false_or_eq_true ((d.k != 6)) with hb58 | hb58
         · have hb58' := bne_iff_ne.1 hb58
           refine qa (v := .bool true) hA rfl rfl rfl (qg rfl rfl (fun w => (jh w).trans (by rw [hb58]))) ?_
           intro a hA
           refine qa (v := .bool true) hA rfl rfl rfl (qi rfl rfl rfl rfl) ?_
           intro a hA
           refine qa hA rfl rfl rfl (qe rfl) ?_
           intro a hA
           refine qa (v := .pointer (some ⟨g2, 0, none⟩)) hA rfl rfl rfl (qk TrV_fld_31_0 rfl rfl) ?_
           intro a hA
           refine qa hA rfl rfl rfl (zk hM TrV_is1_3 rfl 0 rfl rfl) ?_
           intro a hA
           rcases Bool.eq_false_or_eq_true ((d.k != 11)) with hb59 | hb59
           · have hb59' := bne_iff_ne.1 hb59
             refine qa (v := .bool true) hA rfl rfl rfl (qg rfl rfl (fun w => (jh w).trans (by rw [hb59]))) ?_
             intro a hA
             refine qa (v := .bool true) hA rfl rfl rfl (qi rfl rfl rfl rfl) ?_
             intro a hA
             refine qf ?_
             refine hK55 _ _ ?_
             refine wp_cond_true (hA.ev rfl) ?_
             refine wp_seq_k (fun K60 hK60 => ?_)
             refine wp_region_lit ?_
             refine qa hA rfl rfl rfl (qb rfl) ?_
             intro a hA
             refine qf ?_
             refine hK60 _ _ ?_
             refine wp_ret ?_
             refine hret _ _ ?_
             refine ze (v := .bool false) hA rfl (.cons (ql rfl) .nil) rfl ?_
             exact ⟨by rw [← hr, jl, sh4 hSA hSB ⟨hb56', by omega, by omega, by omega⟩], hM.bel⟩
           · have hb59' := bne_eq_false_iff_eq.1 hb59
             refine qa (v := .bool false) hA rfl rfl rfl (qg rfl rfl (fun w => (jh w).trans (by rw [hb59]))) ?_
             intro a hA
             refine qa (v := .bool false) hA rfl rfl rfl (qi rfl rfl rfl rfl) ?_
             intro a hA
             refine qf ?_
             refine hK55 _ _ ?_
             refine wp_cond_false (hA.ev rfl) ?_
             refine wp_skip ?_
             exact hJ13 _ _ ⟨.inr (by omega), hA.keep _ ⟨rfl, rfl, trivial⟩, hM⟩
         · have hb58' := bne_eq_false_iff_eq.1 hb58
           refine qa (v := .bool false) hA rfl rfl rfl (qg rfl rfl (fun w => (jh w).trans (by rw [hb58]))) ?_
           intro a hA
           refine qa (v := .bool false) hA rfl rfl rfl (qi rfl rfl rfl rfl) ?_
           intro a hA
           refine qa hA rfl rfl rfl (qe rfl) ?_
           intro a hA
           refine qj hA rfl rfl rfl ?_
           intro a hA
           refine qj hA rfl rfl rfl ?_
           intro a hA
           refine qj hA rfl rfl rfl ?_
           intro a hA
           refine qa (v := .bool false) hA rfl rfl rfl (qi rfl rfl rfl rfl) ?_
           intro a hA
           refine qf ?_
           refine hK55 _ _ ?_
           refine wp_cond_false (hA.ev rfl) ?_
           refine wp_skip ?_
           exact hJ13 _ _ ⟨.inr (by omega), hA.keep _ ⟨rfl, rfl, trivial⟩, hM⟩
       · have hb57' := bne_eq_false_iff_eq.1 hb57
         refine qa (v := .bool false) hA rfl rfl rfl (qg rfl rfl (fun w => (jh w).trans (by rw [hb57]))) ?_
         intro a hA
         refine qa (v := .bool false) hA rfl rfl rfl (qi rfl rfl rfl rfl) ?_
         intro a hA
         refine qa hA rfl rfl rfl (qe rfl) ?_
         intro a hA
         refine qj hA rfl rfl rfl ?_
         intro a hA
         refine qj hA rfl rfl rfl ?_
         intro a hA
         refine qj hA rfl rfl rfl ?_
         intro a hA
         refine qa (v := .bool false) hA rfl rfl rfl (qi rfl rfl rfl rfl) ?_
         intro a hA
         refine qa hA rfl rfl rfl (qe rfl) ?_
         intro a hA
         refine qj hA rfl rfl rfl ?_
         intro a hA
         refine qj hA rfl rfl rfl ?_
         intro a hA
         refine qj hA rfl rfl rfl ?_
         intro a hA
         refine qa (v := .bool false) hA rfl rfl rfl (qi rfl rfl rfl rfl) ?_
         intro a hA
         refine qf ?_
         refine hK55 _ _ ?_
         refine wp_cond_false (hA.ev rfl) ?_
         refine wp_skip ?_
         exact hJ13 _ _ ⟨.inr (by omega), hA.keep _ ⟨rfl, rfl, trivial⟩, hM⟩
   refine wp_seq_k (fun K61 hK61 => ?_)
   refine wp_region_lit ?_
   refine qa (v := .pointer (some ⟨g2, 0, none⟩)) hA rfl rfl rfl (qk TrV_fld_31_0 rfl rfl) ?_
   intro a hA
   refine qa hA rfl rfl rfl (zk hM TrV_is1_3 rfl 0 rfl rfl) ?_
   intro a hA
   rcases Bool.eq_false_or_eq_true ((d.k == 3)) with hb62 | hb62
   · have hb62' := eq_of_beq hb62
     refine qa (v := .bool true) hA rfl rfl rfl (qg rfl rfl (fun w => (za w).trans (by rw [hb62]))) ?_
     intro a hA
     refine qf ?_
     refine hK61 _ _ ?_
     refine wp_cond_true (hA.ev rfl) ?_
     refine wp_seq_k (fun K63 hK63 => ?_)
     refine wp_region_lit ?_
     refine qa (v := .pointer (some ⟨g2, 2, none⟩)) hA rfl rfl rfl (qk TrV_fld_31_2 rfl rfl) ?_
     intro a hA
     refine qa hA rfl rfl rfl (jf hM TrV_isS_27 rfl 0 rfl (cs := [.bool d.y.q.b1, .slice d.y.o1 d.y.q.t1.length d.y.c1, .slice d.y.o2 d.y.q.q1.length d.y.c2, .bool d.y.q.b2, .slice d.y.o3 d.y.q.t2.length d.y.c3, .slice d.y.o4 d.y.q.q2.length d.y.c4]) rfl rfl) ?_
     intro a hA
     rcases Bool.eq_false_or_eq_true (xd d.y.q) with hb64 | hb64
     · refine qm hA rfl rfl rfl (qh rfl rfl (fun w => by kernel_rfl)) (qfb (Nu.below hok.num hM.bel) hok.len hb64) ?_
       rintro _ w66 ⟨rfl, hb65⟩
       replace hM := hM.call hb65
       refine ⟨_, rfl, ?_⟩
       intro a hA
       refine qa (v := .bool false) hA rfl rfl rfl (qz rfl zg) ?_
       intro a hA
       refine qf ?_
       refine hK63 _ _ ?_
       refine wp_cond_false (hA.ev rfl) ?_
       refine wp_skip ?_
       exact hJ9 _ _ ⟨⟨fun _ => hb64, fun h => absurd (show d.k = 3 by omega) h⟩, hA.keep _ ⟨rfl, rfl, trivial⟩, hM⟩
     · refine qm hA rfl rfl rfl (qh rfl rfl (fun w => by kernel_rfl)) (qfb (Nu.below hok.num hM.bel) hok.len hb64) ?_
       rintro _ w68 ⟨rfl, hb67⟩
       replace hM := hM.call hb67
       refine ⟨_, rfl, ?_⟩
       intro a hA
       refine qa (v := .bool true) hA rfl rfl rfl (qz rfl zg) ?_
       intro a hA
       refine qf ?_
       refine hK63 _ _ ?_
       refine wp_cond_true (hA.ev rfl) ?_
       refine wp_seq_k (fun K69 hK69 => ?_)
       refine wp_region_lit ?_
       refine qa hA rfl rfl rfl (qb rfl) ?_
       intro a hA
       refine qf ?_
       refine hK69 _ _ ?_
       refine wp_ret ?_
       refine hret _ _ ?_
       refine ze (v := .bool false) hA rfl (.cons (ql rfl) .nil) rfl ?_
       exact ⟨by rw [← hr, jl, sh2 hSA (by omega) hb64], hM.bel⟩
   · have hb62' := ne_of_beq_false hb62
     refine qa (v := .bool false) hA rfl rfl rfl (qg rfl rfl (fun w => (za w).trans (by rw [hb62]))) ?_
     intro a hA
     refine qf ?_
     refine hK61 _ _ ?_
     refine wp_cond_false (hA.ev rfl) ?_
     refine wp_seq_k (fun K70 hK70 => ?_)
     refine wp_region_lit ?_
     refine qa (v := .pointer (some ⟨g2, 2, none⟩)) hA rfl rfl rfl (qk TrV_fld_31_2 rfl rfl) ?_
     intro a hA
     refine qa (v := .pointer (some ⟨g2, 2, none⟩)) hA rfl rfl rfl (qk TrV_fld_27_0 rfl rfl) ?_
     intro a hA
     refine qa hA rfl rfl rfl (jf hM TrV_isS_25 rfl 0 rfl (cs := [.bool d.y.q.b1, .slice d.y.o1 d.y.q.t1.length d.y.c1, .slice d.y.o2 d.y.q.q1.length d.y.c2]) rfl rfl) ?_
     intro a hA
     rcases Bool.eq_false_or_eq_true (ki d.y.q.b1 d.y.q.t1.length d.y.q.q1.length) with hb71 | hb71
     · refine qm hA rfl rfl rfl (qh rfl rfl (fun w => by kernel_rfl)) (qah hok.len.l1 hok.len.l2 hb71) ?_
       rintro _ w73 ⟨rfl, hb72⟩
       replace hM := hM.call hb72
       refine ⟨_, rfl, ?_⟩
       intro a hA
       refine qa (v := .bool false) hA rfl rfl rfl (qz rfl zg) ?_
       intro a hA
       refine qa hA rfl rfl rfl (qe rfl) ?_
       intro a hA
       refine qa (v := .pointer (some ⟨g2, 2, none⟩)) hA rfl rfl rfl (qk TrV_fld_31_2 rfl rfl) ?_
       intro a hA
       refine qa (v := .pointer (some ⟨g2, 5, none⟩)) hA rfl rfl rfl (qk TrV_fld_27_1 rfl rfl) ?_
       intro a hA
       refine qa hA rfl rfl rfl (jf hM TrV_isS_25 rfl 0 rfl (cs := [.bool d.y.q.b2, .slice d.y.o3 d.y.q.t2.length d.y.c3, .slice d.y.o4 d.y.q.q2.length d.y.c4]) rfl rfl) ?_
       intro a hA
       rcases Bool.eq_false_or_eq_true (ki d.y.q.b2 d.y.q.t2.length d.y.q.q2.length) with hb74 | hb74
       · refine qm hA rfl rfl rfl (qh rfl rfl (fun w => by kernel_rfl)) (qah hok.len.l3 hok.len.l4 hb74) ?_
         rintro _ w76 ⟨rfl, hb75⟩
         replace hM := hM.call hb75
         refine ⟨_, rfl, ?_⟩
         intro a hA
         refine qa (v := .bool false) hA rfl rfl rfl (qz rfl zg) ?_
         intro a hA
         refine qa (v := .bool false) hA rfl rfl rfl (qi rfl rfl rfl rfl) ?_
         intro a hA
         refine qf ?_
         refine hK70 _ _ ?_
         refine wp_cond_false (hA.ev rfl) ?_
         refine wp_skip ?_
         exact hJ9 _ _ ⟨⟨fun h => absurd h (by omega), fun _ => ⟨hb71, hb74⟩⟩, hA.keep _ ⟨rfl, rfl, trivial⟩, hM⟩
       · refine qm hA rfl rfl rfl (qh rfl rfl (fun w => by kernel_rfl)) (qah hok.len.l3 hok.len.l4 hb74) ?_
         rintro _ w78 ⟨rfl, hb77⟩
         replace hM := hM.call hb77
         refine ⟨_, rfl, ?_⟩
         intro a hA
         refine qa (v := .bool true) hA rfl rfl rfl (qz rfl zg) ?_
         intro a hA
         refine qa (v := .bool true) hA rfl rfl rfl (qi rfl rfl rfl rfl) ?_
         intro a hA
         refine qf ?_
         refine hK70 _ _ ?_
         refine wp_cond_true (hA.ev rfl) ?_
         refine wp_seq_k (fun K79 hK79 => ?_)
         refine wp_region_lit ?_
         refine qa hA rfl rfl rfl (qb rfl) ?_
         intro a hA
         refine qf ?_
         refine hK79 _ _ ?_
         refine wp_ret ?_
         refine hret _ _ ?_
         refine ze (v := .bool false) hA rfl (.cons (ql rfl) .nil) rfl ?_
         exact ⟨by rw [← hr, jl, sh3 hSA (by omega) (.inr hb74)], hM.bel⟩
     · refine qm hA rfl rfl rfl (qh rfl rfl (fun w => by kernel_rfl)) (qah hok.len.l1 hok.len.l2 hb71) ?_
       rintro _ w81 ⟨rfl, hb80⟩
       replace hM := hM.call hb80
       refine ⟨_, rfl, ?_⟩
       intro a hA
       refine qa (v := .bool true) hA rfl rfl rfl (qz rfl zg) ?_
       intro a hA
       refine qa hA rfl rfl rfl (qe rfl) ?_
       intro a hA
       refine qj hA rfl rfl rfl ?_
       intro a hA
       refine qj hA rfl rfl rfl ?_
       intro a hA
       refine qj hA rfl rfl rfl ?_
       intro a hA
       refine qj hA rfl rfl rfl ?_
       intro a hA
       refine qj hA rfl rfl rfl ?_
       intro a hA
       refine qa (v := .bool true) hA rfl rfl rfl (qi rfl rfl rfl rfl) ?_
       intro a hA
       refine qf ?_
       refine hK70 _ _ ?_
       refine wp_cond_true (hA.ev rfl) ?_
       refine wp_seq_k (fun K82 hK82 => ?_)
       refine wp_region_lit ?_
       refine qa hA rfl rfl rfl (qb rfl) ?_
       intro a hA
       refine qf ?_
       refine hK82 _ _ ?_
       refine wp_ret ?_
       refine hret _ _ ?_
       refine ze (v := .bool false) hA rfl (.cons (ql rfl) .nil) rfl ?_
       exact ⟨by rw [← hr, jl, sh3 hSA (by omega) (.inl hb71)], hM.bel⟩
 refine wp_seq_k (fun K83 hK83 => ?_)
 refine wp_region_lit ?_
 refine qa (v := .pointer (some ⟨g2, 0, none⟩)) hA rfl rfl rfl (qk TrV_fld_31_0 rfl rfl) ?_
 intro a hA
 refine qa hA rfl rfl rfl (zk hM TrV_is1_3 rfl 0 rfl rfl) ?_
 intro a hA
 rcases Bool.eq_false_or_eq_true (decide (d.k < 1)) with hb84 | hb84
 · have hb84' := of_decide_eq_true hb84
   refine qa (v := .bool true) hA rfl rfl rfl (qg rfl rfl (fun w => (zt w).trans (by rw [hb84]))) ?_
   intro a hA
   refine qa hA rfl rfl rfl (qe rfl) ?_
   intro a hA
   refine qj hA rfl rfl rfl ?_
   intro a hA
   refine qj hA rfl rfl rfl ?_
   intro a hA
   refine qj hA rfl rfl rfl ?_
   intro a hA
   refine qa (v := .bool true) hA rfl rfl rfl (qi rfl rfl rfl rfl) ?_
   intro a hA
   refine qa hA rfl rfl rfl (qe rfl) ?_
   intro a hA
   refine qj hA rfl rfl rfl ?_
   intro a hA
   refine qj hA rfl rfl rfl ?_
   intro a hA
   refine qj hA rfl rfl rfl ?_
   intro a hA
   refine qj hA rfl rfl rfl ?_
   intro a hA
   refine qa (v := .bool true) hA rfl rfl rfl (qi rfl rfl rfl rfl) ?_
   intro a hA
   refine qf ?_
   refine hK83 _ _ ?_
   refine wp_cond_true (hA.ev rfl) ?_
   refine wp_seq_k (fun K85 hK85 => ?_)
   refine wp_region_lit ?_
   refine qa hA rfl rfl rfl (qb rfl) ?_
   intro a hA
   refine qf ?_
   refine hK85 _ _ ?_
   refine wp_ret ?_
   refine hret _ _ ?_
   refine ze (v := .bool false) hA rfl (.cons (ql rfl) .nil) rfl ?_
   exact ⟨by rw [← hr, jl, sh1 (by omega)], hM.bel⟩
 · have hb84' := of_decide_eq_false hb84
   refine qa (v := .bool false) hA rfl rfl rfl (qg rfl rfl (fun w => (zt w).trans (by rw [hb84]))) ?_
   intro a hA
   refine qa hA rfl rfl rfl (qe rfl) ?_
   intro a hA
   refine qa (v := .pointer (some ⟨g2, 0, none⟩)) hA rfl rfl rfl (qk TrV_fld_31_0 rfl rfl) ?_
   intro a hA
   refine qa hA rfl rfl rfl (zk hM TrV_is1_3 rfl 0 rfl rfl) ?_
   intro a hA
   rcases Bool.eq_false_or_eq_true (decide (11 < d.k)) with hb86 | hb86
   · have hb86' := of_decide_eq_true hb86
     refine qa (v := .bool true) hA rfl rfl rfl (qg rfl rfl (fun w => (ju w).trans (by rw [hb86]))) ?_
     intro a hA
     refine qa (v := .bool true) hA rfl rfl rfl (qi rfl rfl rfl rfl) ?_
     intro a hA
     refine qa hA rfl rfl rfl (qe rfl) ?_
     intro a hA
     refine qj hA rfl rfl rfl ?_
     intro a hA
     refine qj hA rfl rfl rfl ?_
     intro a hA
     refine qj hA rfl rfl rfl ?_
     intro a hA
     refine qj hA rfl rfl rfl ?_
     intro a hA
     refine qa (v := .bool true) hA rfl rfl rfl (qi rfl rfl rfl rfl) ?_
     intro a hA
     refine qf ?_
     refine hK83 _ _ ?_
     refine wp_cond_true (hA.ev rfl) ?_
     refine wp_seq_k (fun K87 hK87 => ?_)
     refine wp_region_lit ?_
     refine qa hA rfl rfl rfl (qb rfl) ?_
     intro a hA
     refine qf ?_
     refine hK87 _ _ ?_
     refine wp_ret ?_
     refine hret _ _ ?_
     refine ze (v := .bool false) hA rfl (.cons (ql rfl) .nil) rfl ?_
     exact ⟨by rw [← hr, jl, sh1 (by omega)], hM.bel⟩
   · have hb86' := of_decide_eq_false hb86
     refine qa (v := .bool false) hA rfl rfl rfl (qg rfl rfl (fun w => (ju w).trans (by rw [hb86]))) ?_
     intro a hA
     refine qa (v := .bool false) hA rfl rfl rfl (qi rfl rfl rfl rfl) ?_
     intro a hA
     refine qa hA rfl rfl rfl (qe rfl) ?_
     intro a hA
     refine qa (v := .pointer (some ⟨g2, 8, none⟩)) hA rfl rfl rfl (qk TrV_fld_31_3 rfl rfl) ?_
     intro a hA
     refine qa hA rfl rfl rfl (zk hM TrV_is1_9 rfl 0 rfl rfl) ?_
     intro a hA
     rcases Bool.eq_false_or_eq_true (okS d.s) with hb88 | hb88
     · refine qm hA rfl rfl rfl (qh rfl rfl (fun w => by kernel_rfl)) (qkb hs2 hb88) ?_
       rintro _ w90 ⟨rfl, hb89⟩
       replace hM := hM.call hb89
       refine ⟨_, rfl, ?_⟩
       intro a hA
       refine qa (v := .bool false) hA rfl rfl rfl (qz rfl zg) ?_
       intro a hA
       refine qa (v := .bool false) hA rfl rfl rfl (qi rfl rfl rfl rfl) ?_
       intro a hA
       refine qf ?_
       refine hK83 _ _ ?_
       refine wp_cond_false (hA.ev rfl) ?_
       refine wp_skip ?_
       exact hJ5 _ _ ⟨⟨by omega, by omega, hb88⟩, hA.keep _ ⟨rfl, rfl, trivial⟩, hM⟩
     · refine qm hA rfl rfl rfl (qh rfl rfl (fun w => by kernel_rfl)) (qkb hs2 hb88) ?_
       rintro _ w92 ⟨rfl, hb91⟩
       replace hM := hM.call hb91
       refine ⟨_, rfl, ?_⟩
       intro a hA
       refine qa (v := .bool true) hA rfl rfl rfl (qz rfl zg) ?_
       intro a hA
       refine qa (v := .bool true) hA rfl rfl rfl (qi rfl rfl rfl rfl) ?_
       intro a hA
       refine qf ?_
       refine hK83 _ _ ?_
       refine wp_cond_true (hA.ev rfl) ?_
       refine wp_seq_k (fun K93 hK93 => ?_)
       refine wp_region_lit ?_
       refine qa hA rfl rfl rfl (qb rfl) ?_
       intro a hA
       refine qf ?_
       refine hK93 _ _ ?_
       refine wp_ret ?_
       refine hret _ _ ?_
       refine ze (v := .bool false) hA rfl (.cons (ql rfl) .nil) rfl ?_
       exact ⟨by rw [← hr, jl, sh1 (.inr (.inr hb88))], hM.bel⟩
end Go.Proofs.YtoopkbedjbnhhabGreatDoor.G
namespace Go.Proofs.YtoopkbedjbnhhabGreatDoor.G
open Go.RowKit
set_option maxRecDepth 100000
theorem TrW_is1_29 : Is1 Tryz.prog 29 := ⟨⟨_, Tryz.underlying29, rfl⟩, by kernel_rfl⟩
theorem TrW_is1_3 : Is1 Tryz.prog 3 := ⟨⟨_, Tryz.underlying3, rfl⟩, by kernel_rfl⟩
theorem TrW_fld_31_0 : FieldAt Tryz.prog 31 0 0 := ⟨_, _, Tryz.underlying31, rfl, rfl, by kernel_rfl⟩
theorem TrW_fld_31_5 : FieldAt Tryz.prog 31 5 10 := ⟨_, _, Tryz.underlying31, rfl, rfl, by kernel_rfl⟩
theorem TrW_isS_31 : IsS Tryz.prog 31 11 := ⟨⟨_, Tryz.underlying31⟩, by kernel_rfl⟩
def Counts (t : Dt) : Prop := ∀ {w : World} {dp left : Int}, t.rd w → t.tr.bulk ≤ 4000000 → 0 ≤ left → left ≤ 20000 → 0 ≤ dp → dp ≤ 201 → Calls Tryz.prog 14 #[.agg t.cells.toArray, .int .i64 dp, .int .i64 left] w fun e w' => e = .returned (.int .i64 (uu zl dp left t.tr)) ∧ Below w.heap.size w w'
theorem count_all : ∀ t : Dt, Counts t := Dt.indT fun d ts ih => by
 intro w dp left hrd hbk hl0 hl1 hd0 hd1
 have hok := (Dt.rd_iff.1 hrd)
 have hlen : ts.length ≤ 9223372036854775807 := Nat.le_trans hok.2.1 hok.2.2.1
 have hM : Mg w w ([]) := Mg.start w
 refine zb (l := [(0, .agg (d.cells ts.length).toArray), (1, .int .i64 dp), (2, .int .i64 left)]) Tryz.func14 rfl Tryz.ntmps14 rfl rfl ?_
 intro Q hret hnorm hP a hA
 refine wp_seq_k (fun K1 hK1 => ?_)
 refine wp_region_lit ?_
 refine jc (vs := [.int .i64 d.k, .int .i64 d.n, .bool d.y.q.b1, .slice d.y.o1 d.y.q.t1.length d.y.c1, .slice d.y.o2 d.y.q.q1.length d.y.c2, .bool d.y.q.b2, .slice d.y.o3 d.y.q.t2.length d.y.c3, .slice d.y.o4 d.y.q.q2.length d.y.c4, .string d.s, .slice d.ro d.rl.length d.rc, .slice d.lo ts.length d.lc]) (t := 31) hA hM rfl rfl rfl (fun g => .pointer (some ⟨g, 0, none⟩)) (zm rfl rfl) (by decide) ?_
 intro g2 w3 hM a hA
 refine qa hA rfl rfl rfl (qb rfl) ?_
 intro a hA
 refine qf ?_
 refine hK1 _ _ ?_
 refine wp_seq_k (fun K4 hK4 => ?_)
 refine wp_seq_k (fun K5 hK5 => ?_)
 refine wp_region_lit ?_
 refine qa hA rfl rfl rfl (qe rfl) ?_
 intro a hA
 rcases Bool.eq_false_or_eq_true (decide (200 < dp)) with hb6 | hb6
 · have hb6' := of_decide_eq_true hb6
   refine qa (v := .bool true) hA rfl rfl rfl (qg rfl rfl (fun w => (ju w).trans (by rw [hb6]))) ?_
   intro a hA
   refine qa hA rfl rfl rfl (qe rfl) ?_
   intro a hA
   refine qj hA rfl rfl rfl ?_
   intro a hA
   refine qj hA rfl rfl rfl ?_
   intro a hA
   refine qa (v := .bool true) hA rfl rfl rfl (qi rfl rfl rfl rfl) ?_
   intro a hA
   refine qa hA rfl rfl rfl (qe rfl) ?_
   intro a hA
   refine qj hA rfl rfl rfl ?_
   intro a hA
   refine qj hA rfl rfl rfl ?_
   intro a hA
   refine qj hA rfl rfl rfl ?_
   intro a hA
   refine qa (v := .bool true) hA rfl rfl rfl (qi rfl rfl rfl rfl) ?_
   intro a hA
   refine qf ?_
   refine hK5 _ _ ?_
   refine wp_cond_true (hA.ev rfl) ?_
   refine wp_seq_k (fun K7 hK7 => ?_)
   refine wp_region_lit ?_
   refine qa hA rfl rfl rfl (qb rfl) ?_
   intro a hA
   refine qf ?_
   refine hK7 _ _ ?_
   refine wp_ret ?_
   refine hret _ _ ?_
   refine ze (v := .int .i64 (-1)) hA rfl (.cons (ql rfl) .nil) rfl ?_
   rw [cntT_no (by omega)]
   exact ⟨rfl, hM.bel⟩
 · have hb6' := of_decide_eq_false hb6
   refine qa (v := .bool false) hA rfl rfl rfl (qg rfl rfl (fun w => (ju w).trans (by rw [hb6]))) ?_
   intro a hA
   refine qa hA rfl rfl rfl (qe rfl) ?_
   intro a hA
   refine qa hA rfl rfl rfl (qe rfl) ?_
   intro a hA
   rcases Bool.eq_false_or_eq_true (decide (left ≤ 0)) with hb8 | hb8
   · have hb8' := of_decide_eq_true hb8
     refine qa (v := .bool true) hA rfl rfl rfl (qg rfl rfl (fun w => (vv w).trans (by rw [hb8]))) ?_
     intro a hA
     refine qa (v := .bool true) hA rfl rfl rfl (qi rfl rfl rfl rfl) ?_
     intro a hA
     refine qa hA rfl rfl rfl (qe rfl) ?_
     intro a hA
     refine qj hA rfl rfl rfl ?_
     intro a hA
     refine qj hA rfl rfl rfl ?_
     intro a hA
     refine qj hA rfl rfl rfl ?_
     intro a hA
     refine qa (v := .bool true) hA rfl rfl rfl (qi rfl rfl rfl rfl) ?_
     intro a hA
     refine qf ?_
     refine hK5 _ _ ?_
     refine wp_cond_true (hA.ev rfl) ?_
     refine wp_seq_k (fun K9 hK9 => ?_)
     refine wp_region_lit ?_
     refine qa hA rfl rfl rfl (qb rfl) ?_
     intro a hA
     refine qf ?_
     refine hK9 _ _ ?_
     refine wp_ret ?_
     refine hret _ _ ?_
     refine ze (v := .int .i64 (-1)) hA rfl (.cons (ql rfl) .nil) rfl ?_
     rw [cntT_no (by omega)]
     exact ⟨rfl, hM.bel⟩
   · have hb8' := of_decide_eq_false hb8
     refine qa (v := .bool false) hA rfl rfl rfl (qg rfl rfl (fun w => (vv w).trans (by rw [hb8]))) ?_
     intro a hA
     refine qa (v := .bool false) hA rfl rfl rfl (qi rfl rfl rfl rfl) ?_
     intro a hA
     refine qa hA rfl rfl rfl (qe rfl) ?_
     intro a hA
     refine qa hA rfl rfl rfl (jf hM TrW_isS_31 rfl 0 rfl (cs := [.int .i64 d.k, .int .i64 d.n, .bool d.y.q.b1, .slice d.y.o1 d.y.q.t1.length d.y.c1, .slice d.y.o2 d.y.q.q1.length d.y.c2, .bool d.y.q.b2, .slice d.y.o3 d.y.q.t2.length d.y.c3, .slice d.y.o4 d.y.q.q2.length d.y.c4, .string d.s, .slice d.ro d.rl.length d.rc, .slice d.lo ts.length d.lc]) rfl rfl) ?_
     intro a hA
     rcases Bool.eq_false_or_eq_true (jo d.k d.n d.y.q d.s d.rl.length ts.length) with hb10 | hb10
     · refine qm hA rfl rfl rfl (qh rfl rfl (fun w => by kernel_rfl)) (qkc (hok.1.below hM.bel) (Nat.le_trans qlh hbk) hlen hb10) ?_
       rintro _ w12 ⟨rfl, hb11⟩
       replace hM := hM.call hb11
       refine ⟨_, rfl, ?_⟩
       intro a hA
       refine qa (v := .bool false) hA rfl rfl rfl (qz rfl zg) ?_
       intro a hA
       refine qa (v := .bool false) hA rfl rfl rfl (qi rfl rfl rfl rfl) ?_
       intro a hA
       refine qf ?_
       refine hK5 _ _ ?_
       refine wp_cond_false (hA.ev rfl) ?_
       refine wp_skip ?_
       refine hK4 _ _ ?_
       refine wp_seq_k (fun K13 hK13 => ?_)
       refine wp_region_lit ?_
       refine qa hA rfl rfl rfl (qe rfl) ?_
       intro a hA
       refine qa (v := .int .i64 (left - 1)) hA rfl rfl rfl (qg rfl rfl (bin_sub (ym (by omega) (by omega)))) ?_
       intro a hA
       refine qa hA rfl rfl rfl (qb rfl) ?_
       intro a hA
       refine qf ?_
       refine hK13 _ _ ?_
       refine wp_seq_k (fun K14 hK14 => ?_)
       refine wp_seq_k (fun K15 hK15 => ?_)
       refine wp_region_lit ?_
       refine qa hA rfl rfl rfl (qb rfl) ?_
       intro a hA
       refine qf ?_
       refine hK15 _ _ ?_
       refine wp_block ?_
       refine jq (fun m_ a w1 => ∃ (i : Nat) (m : Int), m_ = 1 + (ts.length - i) ∧ (i ≤ ts.length ∧ qce zl dp (decide (d.k = 8)) 0 (left - 1) ((ts.map Dt.tr).drop 0) = qce zl dp (decide (d.k = 8)) i m ((ts.map Dt.tr).drop i) ∧ -1 ≤ m ∧ m ≤ 20000) ∧ Sl a 52 [(0, .agg (d.cells ts.length).toArray), (1, .int .i64 dp), (2, .int .i64 m), (3, .pointer (some ⟨g2, 0, none⟩)), (6, .int .i64 0), (7, .int .i64 (((i : Nat) : Int))), (9, .int .i64 dp), (10, .bool false), (11, .bool false), (12, .int .i64 left), (13, .bool false), (14, .bool false), (15, .bool false), (16, .agg (d.cells ts.length).toArray), (17, .bool true), (18, .bool false), (19, .bool false), (20, .int .i64 left), (21, .int .i64 (left - 1))] ∧ Mg w w1 (.obj g2 (.cells (d.cells ts.length).toArray 31) :: [])) _ ⟨0, left - 1, rfl, ⟨Nat.zero_le _, rfl, by omega, by omega⟩, hA.keep _ (by repeat' constructor), hM⟩ ?_
       clear hM hA
       rintro m_ a w16 ⟨i, m, rfl, hinv18, hA, hM⟩ K17 hK17
       obtain ⟨hi0, hin9, hm0, hm1_⟩ := hinv18
       refine wp_seq_k (fun K19 hK19 => ?_)
       refine wp_seq_k (fun K20 hK20 => ?_)
       refine wp_region_lit ?_
       refine qa hA rfl rfl rfl (qe rfl) ?_
       intro a hA
       refine qa (v := .pointer (some ⟨g2, 10, none⟩)) hA rfl rfl rfl (qk TrW_fld_31_5 rfl rfl) ?_
       intro a hA
       refine qa hA rfl rfl rfl (zk hM TrW_is1_29 rfl 0 rfl rfl) ?_
       intro a hA
       refine qa (v := .int .i64 (((ts.length : Nat) : Int))) hA rfl rfl rfl (zj Tryz.underlying29 rfl) ?_
       intro a hA
       rcases Bool.eq_false_or_eq_true (decide (((i : Nat) : Int) < ((ts.length : Nat) : Int))) with hb21 | hb21
       · have hb21' := of_decide_eq_true hb21
         refine qa (v := .bool true) hA rfl rfl rfl (qg rfl rfl (fun w => (zt w).trans (by rw [hb21]))) ?_
         intro a hA
         refine qa hA rfl rfl rfl (qe rfl) ?_
         intro a hA
         refine qa hA rfl rfl rfl (qe rfl) ?_
         intro a hA
         rcases Bool.eq_false_or_eq_true (decide (0 ≤ m)) with hb22 | hb22
         · have hb22' := of_decide_eq_true hb22
           refine qa (v := .bool true) hA rfl rfl rfl (qg rfl rfl (fun w => (xu w).trans (by rw [hb22]))) ?_
           intro a hA
           refine qa (v := .bool true) hA rfl rfl rfl (qi rfl rfl rfl rfl) ?_
           intro a hA
           refine qf ?_
           refine hK20 _ _ ?_
           refine wp_cond_true (hA.ev rfl) ?_
           refine wp_skip ?_
           refine hK19 _ _ ?_
           refine wp_seq_k (fun K23 hK23 => ?_)
           refine wp_block ?_
           refine wp_seq_k (fun K24 hK24 => ?_)
           refine wp_region_lit ?_
           refine qa hA rfl rfl rfl (qe rfl) ?_
           intro a hA
           refine qa (v := .int .i64 (dp + 1)) hA rfl rfl rfl (qg rfl rfl (kf (ym (by omega) (by omega)))) ?_
           intro a hA
           refine qa hA rfl rfl rfl (qb rfl) ?_
           intro a hA
           refine qf ?_
           refine hK24 _ _ ?_
           refine wp_seq_k (fun K25 hK25 => ?_)
           refine wp_seq_k (fun K26 hK26 => ?_)
           refine wp_region_lit ?_
           refine qa (v := .pointer (some ⟨g2, 0, none⟩)) hA rfl rfl rfl (qk TrW_fld_31_0 rfl rfl) ?_
           intro a hA
           refine qa hA rfl rfl rfl (zk hM TrW_is1_3 rfl 0 rfl rfl) ?_
           intro a hA
           rcases Bool.eq_false_or_eq_true ((d.k == 8)) with hb27 | hb27
           · have hb27' := eq_of_beq hb27
             refine qa (v := .bool true) hA rfl rfl rfl (qg rfl rfl (fun w => (za w).trans (by rw [hb27]))) ?_
             intro a hA
             refine qa hA rfl rfl rfl (qe rfl) ?_
             intro a hA
             refine qa hA rfl rfl rfl (qe rfl) ?_
             intro a hA
             rcases Bool.eq_false_or_eq_true ((((i : Nat) : Int) == 1)) with hb28 | hb28
             · have hb28' := eq_of_beq hb28
               refine qa (v := .bool true) hA rfl rfl rfl (qg rfl rfl (fun w => (za w).trans (by rw [hb28]))) ?_
               intro a hA
               refine qa (v := .bool true) hA rfl rfl rfl (qi rfl rfl rfl rfl) ?_
               intro a hA
               refine qf ?_
               refine hK26 _ _ ?_
               refine wp_cond_true (hA.ev rfl) ?_
               refine wp_region_lit ?_
               refine qa hA rfl rfl rfl (qe rfl) ?_
               intro a hA
               refine qa hA rfl rfl rfl (qb rfl) ?_
               intro a hA
               refine qf ?_
               refine hK25 _ _ ?_
               obtain ⟨t1, b1, o1, hi1, hm1, hr1, hl1, hH1⟩ := kid hrd (i := i) (by omega)
               have hD : (if decide (d.k = 8) = true ∧ i = 1 then dp else dp + 1) = dp := if_pos ⟨decide_eq_true hb27', by omega⟩
               refine wp_region_lit ?_
               refine qa (v := .pointer (some ⟨g2, 10, none⟩)) hA rfl rfl rfl (qk TrW_fld_31_5 rfl rfl) ?_
               intro a hA
               refine qa hA rfl rfl rfl (zk hM TrW_is1_29 rfl 0 rfl rfl) ?_
               intro a hA
               refine qa hA rfl rfl rfl (qe rfl) ?_
               intro a hA
               refine qa (v := .pointer (some ⟨b1, o1 + i * 11, none⟩)) hA rfl rfl rfl (jd (k := i) Tryz.underlying29 (by kernel_rfl) rfl rfl rfl hl1 (by omega)) ?_
               intro a hA
               refine qa hA rfl rfl rfl (vh hM hH1 TrW_isS_31 rfl rfl) ?_
               intro a hA
               refine qa hA rfl rfl rfl (qe rfl) ?_
               intro a hA
               refine qa hA rfl rfl rfl (qe rfl) ?_
               intro a hA
               refine qm hA rfl rfl rfl (qh rfl rfl (fun w => by kernel_rfl)) (ih t1 hm1 (Dt.keep hM.bel _ hr1) (by have := qcg (d := d) hm1; omega) (by omega) (by omega) (by omega) (by omega)) ?_
               rintro _ w30 ⟨rfl, hb29⟩
               replace hM := hM.call hb29
               refine ⟨_, rfl, ?_⟩
               intro a hA
               refine qa hA rfl rfl rfl (qb rfl) ?_
               intro a hA
               refine qf ?_
               refine hK23 _ _ ?_
               refine wp_region_lit ?_
               refine qa hA rfl rfl rfl (qe rfl) ?_
               intro a hA
               refine qa (v := .int .i64 (((i + 1 : Nat) : Int))) hA rfl rfl rfl (qg rfl rfl (fun w => (kf (ym (by omega) (by omega)) w).trans (by rw [show (((i : Nat) : Int) + 1 : Int) = ((i + 1 : Nat) : Int) from by omega]))) ?_
               intro a hA
               refine qa hA rfl rfl rfl (qb rfl) ?_
               intro a hA
               refine qf ?_
               have hc9 := cnt_le zl t1.tr (dp) m (by omega)
               refine hK17 _ _ _ (by omega) ⟨i + 1, uu zl (dp) m t1.tr, rfl, ⟨by omega, by rw [hin9, cntL_go hi1 (by omega) hD], by omega, by omega⟩, hA.keep _ (by repeat' constructor), hM⟩
             · have hb28' := ne_of_beq_false hb28
               refine qa (v := .bool false) hA rfl rfl rfl (qg rfl rfl (fun w => (za w).trans (by rw [hb28]))) ?_
               intro a hA
               refine qa (v := .bool false) hA rfl rfl rfl (qi rfl rfl rfl rfl) ?_
               intro a hA
               refine qf ?_
               refine hK26 _ _ ?_
               refine wp_cond_false (hA.ev rfl) ?_
               refine wp_skip ?_
               refine hK25 _ _ ?_
               obtain ⟨t1, b1, o1, hi1, hm1, hr1, hl1, hH1⟩ := kid hrd (i := i) (by omega)
               have hD : (if decide (d.k = 8) = true ∧ i = 1 then dp else dp + 1) = dp + 1 := if_neg (fun e => by omega)
               refine wp_region_lit ?_
               refine qa (v := .pointer (some ⟨g2, 10, none⟩)) hA rfl rfl rfl (qk TrW_fld_31_5 rfl rfl) ?_
               intro a hA
               refine qa hA rfl rfl rfl (zk hM TrW_is1_29 rfl 0 rfl rfl) ?_
               intro a hA
               refine qa hA rfl rfl rfl (qe rfl) ?_
               intro a hA
               refine qa (v := .pointer (some ⟨b1, o1 + i * 11, none⟩)) hA rfl rfl rfl (jd (k := i) Tryz.underlying29 (by kernel_rfl) rfl rfl rfl hl1 (by omega)) ?_
               intro a hA
               refine qa hA rfl rfl rfl (vh hM hH1 TrW_isS_31 rfl rfl) ?_
               intro a hA
               refine qa hA rfl rfl rfl (qe rfl) ?_
               intro a hA
               refine qa hA rfl rfl rfl (qe rfl) ?_
               intro a hA
               refine qm hA rfl rfl rfl (qh rfl rfl (fun w => by kernel_rfl)) (ih t1 hm1 (Dt.keep hM.bel _ hr1) (by have := qcg (d := d) hm1; omega) (by omega) (by omega) (by omega) (by omega)) ?_
               rintro _ w32 ⟨rfl, hb31⟩
               replace hM := hM.call hb31
               refine ⟨_, rfl, ?_⟩
               intro a hA
               refine qa hA rfl rfl rfl (qb rfl) ?_
               intro a hA
               refine qf ?_
               refine hK23 _ _ ?_
               refine wp_region_lit ?_
               refine qa hA rfl rfl rfl (qe rfl) ?_
               intro a hA
               refine qa (v := .int .i64 (((i + 1 : Nat) : Int))) hA rfl rfl rfl (qg rfl rfl (fun w => (kf (ym (by omega) (by omega)) w).trans (by rw [show (((i : Nat) : Int) + 1 : Int) = ((i + 1 : Nat) : Int) from by omega]))) ?_
               intro a hA
               refine qa hA rfl rfl rfl (qb rfl) ?_
               intro a hA
               refine qf ?_
               have hc9 := cnt_le zl t1.tr (dp + 1) m (by omega)
               refine hK17 _ _ _ (by omega) ⟨i + 1, uu zl (dp + 1) m t1.tr, rfl, ⟨by omega, by rw [hin9, cntL_go hi1 (by omega) hD], by omega, by omega⟩, hA.keep _ (by repeat' constructor), hM⟩
           · have hb27' := ne_of_beq_false hb27
             refine qa (v := .bool false) hA rfl rfl rfl (qg rfl rfl (fun w => (za w).trans (by rw [hb27]))) ?_
             intro a hA
             refine qa hA rfl rfl rfl (qe rfl) ?_
             intro a hA
             refine qj hA rfl rfl rfl ?_
             intro a hA
             refine qj hA rfl rfl rfl ?_
             intro a hA
             refine qa (v := .bool false) hA rfl rfl rfl (qi rfl rfl rfl rfl) ?_
             intro a hA
             refine qf ?_
             refine hK26 _ _ ?_
             refine wp_cond_false (hA.ev rfl) ?_
             refine wp_skip ?_
             refine hK25 _ _ ?_
             obtain ⟨t1, b1, o1, hi1, hm1, hr1, hl1, hH1⟩ := kid hrd (i := i) (by omega)
             have hD : (if decide (d.k = 8) = true ∧ i = 1 then dp else dp + 1) = dp + 1 := if_neg (fun e => hb27' (of_decide_eq_true e.1))
             refine wp_region_lit ?_
             refine qa (v := .pointer (some ⟨g2, 10, none⟩)) hA rfl rfl rfl (qk TrW_fld_31_5 rfl rfl) ?_
             intro a hA
             refine qa hA rfl rfl rfl (zk hM TrW_is1_29 rfl 0 rfl rfl) ?_
             intro a hA
             refine qa hA rfl rfl rfl (qe rfl) ?_
             intro a hA
             refine qa (v := .pointer (some ⟨b1, o1 + i * 11, none⟩)) hA rfl rfl rfl (jd (k := i) Tryz.underlying29 (by kernel_rfl) rfl rfl rfl hl1 (by omega)) ?_
             intro a hA
             refine qa hA rfl rfl rfl (vh hM hH1 TrW_isS_31 rfl rfl) ?_
             intro a hA
             refine qa hA rfl rfl rfl (qe rfl) ?_
             intro a hA
             refine qa hA rfl rfl rfl (qe rfl) ?_
             intro a hA
             refine qm hA rfl rfl rfl (qh rfl rfl (fun w => by kernel_rfl)) (ih t1 hm1 (Dt.keep hM.bel _ hr1) (by have := qcg (d := d) hm1; omega) (by omega) (by omega) (by omega) (by omega)) ?_
             rintro _ w34 ⟨rfl, hb33⟩
             replace hM := hM.call hb33
             refine ⟨_, rfl, ?_⟩
             intro a hA
             refine qa hA rfl rfl rfl (qb rfl) ?_
             intro a hA
             refine qf ?_
             refine hK23 _ _ ?_
             refine wp_region_lit ?_
             refine qa hA rfl rfl rfl (qe rfl) ?_
             intro a hA
             refine qa (v := .int .i64 (((i + 1 : Nat) : Int))) hA rfl rfl rfl (qg rfl rfl (fun w => (kf (ym (by omega) (by omega)) w).trans (by rw [show (((i : Nat) : Int) + 1 : Int) = ((i + 1 : Nat) : Int) from by omega]))) ?_
             intro a hA
             refine qa hA rfl rfl rfl (qb rfl) ?_
             intro a hA
             refine qf ?_
             have hc9 := cnt_le zl t1.tr (dp + 1) m (by omega)
             refine hK17 _ _ _ (by omega) ⟨i + 1, uu zl (dp + 1) m t1.tr, rfl, ⟨by omega, by rw [hin9, cntL_go hi1 (by omega) hD], by omega, by omega⟩, hA.keep _ (by repeat' constructor), hM⟩
         · have hb22' := of_decide_eq_false hb22
           refine qa (v := .bool false) hA rfl rfl rfl (qg rfl rfl (fun w => (xu w).trans (by rw [hb22]))) ?_
           intro a hA
           refine qa (v := .bool false) hA rfl rfl rfl (qi rfl rfl rfl rfl) ?_
           intro a hA
           refine qf ?_
           refine hK20 _ _ ?_
           refine wp_cond_false (hA.ev rfl) ?_
           refine wp_exit ?_
           refine hK14 _ _ ?_
           refine wp_seq_k (fun K35 hK35 => ?_)
           refine wp_region_lit ?_
           refine qa hA rfl rfl rfl (qe rfl) ?_
           intro a hA
           refine qa hA rfl rfl rfl (qb rfl) ?_
           intro a hA
           refine qf ?_
           refine hK35 _ _ ?_
           refine wp_ret ?_
           refine hret _ _ ?_
           refine ze (v := .int .i64 m) hA rfl (.cons (ql rfl) .nil) rfl ?_
           rw [cntT_mk (by omega) (by omega) (by rw [yh]; exact hb10), hin9, qha (by omega)]
           exact ⟨rfl, hM.bel⟩
       · have hb21' := of_decide_eq_false hb21
         refine qa (v := .bool false) hA rfl rfl rfl (qg rfl rfl (fun w => (zt w).trans (by rw [hb21]))) ?_
         intro a hA
         refine qa hA rfl rfl rfl (qe rfl) ?_
         intro a hA
         refine qj hA rfl rfl rfl ?_
         intro a hA
         refine qj hA rfl rfl rfl ?_
         intro a hA
         refine qa (v := .bool false) hA rfl rfl rfl (qi rfl rfl rfl rfl) ?_
         intro a hA
         refine qf ?_
         refine hK20 _ _ ?_
         refine wp_cond_false (hA.ev rfl) ?_
         refine wp_exit ?_
         refine hK14 _ _ ?_
         refine wp_seq_k (fun K36 hK36 => ?_)
         refine wp_region_lit ?_
         refine qa hA rfl rfl rfl (qe rfl) ?_
         intro a hA
         refine qa hA rfl rfl rfl (qb rfl) ?_
         intro a hA
         refine qf ?_
         refine hK36 _ _ ?_
         refine wp_ret ?_
         refine hret _ _ ?_
         refine ze (v := .int .i64 m) hA rfl (.cons (ql rfl) .nil) rfl ?_
         rw [cntT_mk (by omega) (by omega) (by rw [yh]; exact hb10), hin9, qdi (by omega), qce]
         exact ⟨rfl, hM.bel⟩
     · refine qm hA rfl rfl rfl (qh rfl rfl (fun w => by kernel_rfl)) (qkc (hok.1.below hM.bel) (Nat.le_trans qlh hbk) hlen hb10) ?_
       rintro _ w38 ⟨rfl, hb37⟩
       replace hM := hM.call hb37
       refine ⟨_, rfl, ?_⟩
       intro a hA
       refine qa (v := .bool true) hA rfl rfl rfl (qz rfl zg) ?_
       intro a hA
       refine qa (v := .bool true) hA rfl rfl rfl (qi rfl rfl rfl rfl) ?_
       intro a hA
       refine qf ?_
       refine hK5 _ _ ?_
       refine wp_cond_true (hA.ev rfl) ?_
       refine wp_seq_k (fun K39 hK39 => ?_)
       refine wp_region_lit ?_
       refine qa hA rfl rfl rfl (qb rfl) ?_
       intro a hA
       refine qf ?_
       refine hK39 _ _ ?_
       refine wp_ret ?_
       refine hret _ _ ?_
       refine ze (v := .int .i64 (-1)) hA rfl (.cons (ql rfl) .nil) rfl ?_
       rw [cntT_no (.inr (.inr (by rw [yh]; exact hb10)))]
       exact ⟨rfl, hM.bel⟩
theorem rsound_mk {w : World} {d : Nd} {ts : List Dt} (hrd : (Dt.mk d ts).rd w) (hbk : (Dt.mk d ts).tr.bulk ≤ 4000000) : Calls Tryz.prog 7 #[.agg (d.cells ts.length).toArray] w fun e w' => e = .returned (.bool (jv zl (Dt.mk d ts).tr)) ∧ Below w.heap.size w w' := by
 have hM : Mg w w ([]) := Mg.start w
 refine zb (l := [(0, .agg (d.cells ts.length).toArray)]) Tryz.func7 rfl Tryz.ntmps7 rfl rfl ?_
 intro Q hret hnorm hP a hA
 refine wp_seq_k (fun K1 hK1 => ?_)
 refine wp_region_lit ?_
 refine jc (vs := [.int .i64 d.k, .int .i64 d.n, .bool d.y.q.b1, .slice d.y.o1 d.y.q.t1.length d.y.c1, .slice d.y.o2 d.y.q.q1.length d.y.c2, .bool d.y.q.b2, .slice d.y.o3 d.y.q.t2.length d.y.c3, .slice d.y.o4 d.y.q.q2.length d.y.c4, .string d.s, .slice d.ro d.rl.length d.rc, .slice d.lo ts.length d.lc]) (t := 31) hA hM rfl rfl rfl (fun g => .pointer (some ⟨g, 0, none⟩)) (zm rfl rfl) (by decide) ?_
 intro g2 w3 hM a hA
 refine qa hA rfl rfl rfl (qb rfl) ?_
 intro a hA
 refine qf ?_
 refine hK1 _ _ ?_
 refine wp_seq_k (fun K4 hK4 => ?_)
 refine wp_region_lit ?_
 refine qa hA rfl rfl rfl (jf hM TrW_isS_31 rfl 0 rfl (cs := [.int .i64 d.k, .int .i64 d.n, .bool d.y.q.b1, .slice d.y.o1 d.y.q.t1.length d.y.c1, .slice d.y.o2 d.y.q.q1.length d.y.c2, .bool d.y.q.b2, .slice d.y.o3 d.y.q.t2.length d.y.c3, .slice d.y.o4 d.y.q.q2.length d.y.c4, .string d.s, .slice d.ro d.rl.length d.rc, .slice d.lo ts.length d.lc]) rfl rfl) ?_
 intro a hA
 refine qm hA rfl rfl rfl (qh rfl rfl (fun w => by kernel_rfl)) (count_all (Dt.mk d ts) (Dt.keep hM.bel _ hrd) hbk (by omega) (by omega) (by omega) (by omega)) ?_
 rintro _ w5 ⟨rfl, hb9⟩
 replace hM := hM.call hb9
 refine ⟨_, rfl, ?_⟩
 intro a hA
 refine qa (v := .bool (decide (0 ≤ uu zl 1 20000 (Dt.mk d ts).tr))) hA rfl rfl rfl (qg rfl rfl xu) ?_
 intro a hA
 refine qa hA rfl rfl rfl (qb rfl) ?_
 intro a hA
 refine qf ?_
 refine hK4 _ _ ?_
 refine wp_ret ?_
 refine hret _ _ ?_
 refine ze (v := .bool (decide (0 ≤ uu zl 1 20000 (Dt.mk d ts).tr))) hA rfl (.cons (ql rfl) .nil) rfl ?_
 exact ⟨by rw [← count_sound], hM.bel⟩
theorem rsound_any {w : World} {t : Dt} (hrd : t.rd w) (hbk : t.tr.bulk ≤ 4000000) : Calls Tryz.prog 7 #[.agg t.cells.toArray] w fun e w' => e = .returned (.bool (jv zl t.tr)) ∧ Below w.heap.size w w' := by
  obtain ⟨d, ts⟩ := t
  exact rsound_mk hrd hbk
end Go.Proofs.YtoopkbedjbnhhabGreatDoor.G
namespace Go.Proofs.YtoopkbedjbnhhabGreatDoor.G
open Go.RowKit
def OkL (L : List Tr) : Prop := L.all (xw 2) = true ∧ xn L + L.length + 1 ≤ 20000 ∧ L.all (xj zl) = true
theorem OkL.of {L M : List Tr} (h : OkL L) (hm : ∀ x ∈ M, x ∈ L) (hn : xn M + M.length ≤ xn L + L.length) : OkL M := ⟨List.all_eq_true.2 fun x hx => List.all_eq_true.1 h.1 x (hm x hx), by have := h.2.1; omega, List.all_eq_true.2 fun x hx => List.all_eq_true.1 h.2.2 x (hm x hx)⟩
end Go.Proofs.YtoopkbedjbnhhabGreatDoor.G
namespace Go.Proofs.YtoopkbedjbnhhabGreatDoor.G
open Go.RowKit
set_option maxRecDepth 100000
theorem JcJ_isS_31 : IsS Tryz.prog 31 11 := ⟨⟨_, Tryz.underlying31⟩, by kernel_rfl⟩
theorem drop_tr {ts : List Dt} {k : Nat} {t : Dt} (h : ts[k - 1]? = some t) (hk : 0 < k) : (ts.drop (k - 1)).map Dt.tr = t.tr :: (ts.drop k).map Dt.tr := by
  obtain ⟨hl, rfl⟩ := List.getElem?_eq_some_iff.1 h
  rw [List.drop_eq_getElem_cons hl, show k - 1 + 1 = k by omega, List.map_cons]
theorem rlist_any {w : World} {so : Option Addr} {ca : Nat} {ts : List Dt} (hR : Rt w so ts) (hD : ∀ t ∈ ts, t.rd w) {u : Dt} (hu : u.rd w) (hl : ts.length ≤ 1000000000) (P : Nat → Prop) (hPn : ∀ b, w.heap.size ≤ b → P b) (hPt : ∀ t ∈ ts, t.at_ P) (hPu : u.at_ P) : Calls Tryz.prog 12 #[.slice so ts.length ca, .agg (u.d.cells u.ts.length).toArray] w fun e w' => ∃ t2 : Dt, e = .returned (.agg (t2.d.cells t2.ts.length).toArray) ∧ (t2.rd w' ∧ t2.at_ P ∧ t2.tr = jm (ts.map Dt.tr) u.tr) ∧ Below w.heap.size w w' := by
 have hM : Mg w w ([]) := Mg.start w
 refine zb (l := [(0, .slice so ts.length ca), (1, .agg (u.d.cells u.ts.length).toArray)]) Tryz.func12 rfl Tryz.ntmps12 rfl rfl ?_
 intro Q hret hnorm hP a hA
 refine wp_seq_k (fun K1 hK1 => ?_)
 refine wp_region_lit ?_
 refine jc (vs := (u.d.cells u.ts.length)) (t := 31) hA hM rfl rfl rfl (fun g => .pointer (some ⟨g, 0, none⟩)) (zm rfl rfl) (by decide) ?_
 intro g2 w3 hM a hA
 refine jc (vs := (qt.d.cells qt.ts.length)) (t := 31) hA hM rfl rfl rfl (fun g => .pointer (some ⟨g, 0, none⟩)) (zd (z := .agg (qt.d.cells qt.ts.length).toArray) (by kernel_rfl) rfl) (by decide) ?_
 intro g4 w5 hM a hA
 refine qf ?_
 refine hK1 _ _ ?_
 refine wp_seq_k (fun K6 hK6 => ?_)
 refine wp_seq_k (fun K7 hK7 => ?_)
 refine wp_region_lit ?_
 refine qa hA rfl rfl rfl (qe rfl) ?_
 intro a hA
 refine qa (v := .int .i64 (((ts.length : Nat) : Int))) hA rfl rfl rfl (zj Tryz.underlying29 rfl) ?_
 intro a hA
 refine qa (v := .int .i64 (((ts.length : Nat) : Int) - 1)) hA rfl rfl rfl (qg rfl rfl (ar_sub (in_i64 (by omega) (by omega)))) ?_
 intro a hA
 refine qa hA rfl rfl rfl (qb rfl) ?_
 intro a hA
 refine qf ?_
 refine hK7 _ _ ?_
 refine wp_block ?_
 have hge3 := (Ck.lt (hM.has 1 rfl) g2 rfl).1
 have hge4 := (Ck.lt (hM.has 0 rfl) g4 rfl).1
 refine jq (fun m_ a w1 => ∃ (k : Nat) (z : Dt), m_ = 1 + k ∧ (k ≤ ts.length ∧ z.rd w1 ∧ z.at_ (fun b => b ≠ g2 ∧ b ≠ g4) ∧ z.at_ P ∧ z.tr = jm ((ts.drop k).map Dt.tr) u.tr) ∧ Sl a 21 [(0, .slice so ts.length ca), (1, .agg (u.d.cells u.ts.length).toArray), (3, .pointer (some ⟨g2, 0, none⟩)), (4, .pointer (some ⟨g4, 0, none⟩)), (5, .int .i64 (((k : Nat) : Int) - 1)), (6, .slice so ts.length ca), (7, .int .i64 (((ts.length : Nat) : Int))), (8, .int .i64 (((ts.length : Nat) : Int) - 1))] ∧ Mg w w1 (.obj g4 (.cells (qt.d.cells qt.ts.length).toArray 31) :: .obj g2 (.cells (z.d.cells z.ts.length).toArray 31) :: [])) _ ⟨ts.length, u, rfl, ⟨Nat.le_refl _, Dt.keep hM.bel _ hu, Dt.at_mono (fun b hb => by constructor <;> omega) _ (Dt.at_lt _ hu), hPu, by rw [List.drop_length]; rfl⟩, hA.keep _ (by repeat' constructor), hM⟩ ?_
 clear hM hA
 rintro m_ a w8 ⟨k, z, rfl, hinv10, hA, hM⟩ K9 hK9
 obtain ⟨hk0, hzr, hza, hzp, hzt⟩ := hinv10
 refine wp_seq_k (fun K11 hK11 => ?_)
 refine wp_seq_k (fun K12 hK12 => ?_)
 refine wp_region_lit ?_
 refine qa hA rfl rfl rfl (qe rfl) ?_
 intro a hA
 rcases Bool.eq_false_or_eq_true (decide (0 ≤ ((k : Nat) : Int) - 1)) with hb13 | hb13
 · have hb13' := of_decide_eq_true hb13
   refine qa (v := .bool true) hA rfl rfl rfl (qg rfl rfl (fun w => (xu w).trans (by rw [hb13]))) ?_
   intro a hA
   refine qf ?_
   refine hK12 _ _ ?_
   refine wp_cond_true (hA.ev rfl) ?_
   refine wp_skip ?_
   refine hK11 _ _ ?_
   refine wp_seq_k (fun K14 hK14 => ?_)
   refine wp_block ?_
   obtain ⟨t1, bt1, ot1, it1, mt1, rt1_, lt1, Ht1⟩ := kidL hR hD (i := (k - 1)) (by omega)
   have hl3 := (Ck.lt (hM.has 1 rfl) g2 rfl).2
   have hl4 := (Ck.lt (hM.has 0 rfl) g4 rfl).2
   refine vd (S := fun w1 => Mg w w1 ([])) (by kernel_rfl) ?_
   replace hM := hM.drew
   refine zf hA 0 rfl rfl rfl rfl hP (hM.sub (cN (cN (List.nil_sublist _)))) (fun w1 hM => qe rfl) ?_
   intro a hA
   refine zf hA 1 rfl rfl rfl rfl hP (hM.sub (cN (cN (List.nil_sublist _)))) (fun w1 hM => qe rfl) ?_
   intro a hA
   refine zf (v := .pointer (some ⟨bt1, ot1 + (k - 1) * 11, none⟩)) hA 2 rfl rfl rfl rfl hP (hM.sub (cN (cN (List.nil_sublist _)))) (fun w1 hM => jd (k := (k - 1)) Tryz.underlying29 (by kernel_rfl) rfl rfl (by omega) lt1 (by omega)) ?_
   intro a hA
   refine zf hA 3 rfl rfl rfl rfl hP (hM.sub (cN (cN (List.nil_sublist _)))) (fun w1 hM => vh hM Ht1 JcJ_isS_31 rfl rfl) ?_
   intro a hA
   refine qy (by kernel_rfl) (op_do hA 4 rfl rfl rfl rfl (jf hM JcJ_isS_31 rfl 1 rfl (cs := (z.d.cells z.ts.length)) rfl rfl) (hM.sub (cN (cN (List.nil_sublist _)))) ?_)
   intro a hA
   replace hzr : z.rd w8.drew := Dt.keep (Below.refl _ w8).drew _ hzr
   have hdw : w8.drew.heap.size = w8.heap.size := rfl
   refine qy (by kernel_rfl) (jk (e := 31) (sz := 11) (m := 2) (vs := cellsOf [t1, z]) hA hM 5 rfl rfl rfl rfl (qx rfl (by kernel_rfl)) rfl rfl (by decide) ?_)
   intro g5 w15 hM hg5 hb5
   replace hzr := Dt.keep hb5 _ hzr
   refine ⟨(hM.sub (cN (cN (cN (List.nil_sublist _))))), ?_⟩
   intro a hA
   refine zf (v := .agg ((kg g5 t1 z).d.cells (kg g5 t1 z).ts.length).toArray) hA 6 rfl rfl rfl rfl hP (hM.sub (cN (cN (cN (List.nil_sublist _))))) (fun w1 hM => jt rfl (fun w => by kernel_rfl)) ?_
   intro a hA
   refine qy (by kernel_rfl) (g_storeD (us := ((kg g5 t1 z).d.cells (kg g5 t1 z).ts.length)) (L' := (.row 31 11 (.slice (some ⟨g5, 0, none⟩) 2 2) 2 (cellsOf [t1, z]) :: .obj g4 (.cells (qt.d.cells qt.ts.length).toArray 31) :: .obj g2 (.cells ((kg g5 t1 z).d.cells (kg g5 t1 z).ts.length).toArray 31) :: [])) hA hM 7 rfl rfl rfl (zh (cs := (kg g5 t1 z).d.cells (kg g5 t1 z).ts.length) rfl rfl rfl (by kernel_rfl) hM 2 rfl rfl (cells_all (kg g5 t1 z))) 2 rfl rfl rfl ?_)
   intro w16 hM hK17
   replace hzr := Dt.kept hK17 _ hzr (Dt.at_mono (fun b hb => hb.1) _ hza)
   have hr9 : (kg g5 t1 z).rd w16 := pairD_rd (Ck.lt (hM.has 0 rfl) g5 rfl).2 (fun p v hp => by
     obtain ⟨b, o, e, hc⟩ := kl (hM.has 0 rfl) (fun e => by cases e)
     cases e
     have := hc p v hp
     rwa [Nat.zero_add] at this) (Dt.keep hM.bel _ rt1_) hzr
   have ha9 : (kg g5 t1 z).at_ (fun b => b ≠ g2 ∧ b ≠ g4) := pairD_at ⟨by omega, by omega⟩ (Dt.at_mono (fun b hb => by constructor <;> omega) _ (Dt.at_lt _ rt1_)) hza
   have hp9 : (kg g5 t1 z).at_ P := pairD_at (hPn _ (by omega)) (hPt t1 mt1) hzp
   refine ⟨(hM.sub (cN (cN (cN (List.nil_sublist _))))), ?_⟩
   refine zw (by kernel_rfl) ?_
   refine hK14 _ _ ?_
   refine wp_region_lit ?_
   refine qa hA rfl rfl rfl (qe rfl) ?_
   intro a hA
   refine qa (v := .int .i64 (((k - 1 : Nat) : Int) - 1)) hA rfl rfl rfl (qg rfl rfl (ar_sub ((in_i64 (by omega) (by omega)).trans (by omega)))) ?_
   intro a hA
   refine qa hA rfl rfl rfl (qb rfl) ?_
   intro a hA
   refine qf ?_
   replace hM := hM.sub (cN (cC (cC (.refl _))))
   refine hK9 _ _ _ (by omega) ⟨k - 1, (kg g5 t1 z), rfl, ⟨by omega, hr9, ha9, hp9, by rw [pairD_tr, hzt, drop_tr it1 (by omega)]; rfl⟩, hA.keep _ (by repeat' constructor), hM⟩
 · have hb13' := of_decide_eq_false hb13
   refine qa (v := .bool false) hA rfl rfl rfl (qg rfl rfl (fun w => (xu w).trans (by rw [hb13]))) ?_
   intro a hA
   refine qf ?_
   refine hK12 _ _ ?_
   refine wp_cond_false (hA.ev rfl) ?_
   refine wp_exit ?_
   refine hK6 _ _ ?_
   refine wp_seq_k (fun K18 hK18 => ?_)
   refine wp_region_lit ?_
   refine qa hA rfl rfl rfl (jf hM JcJ_isS_31 rfl 1 rfl (cs := (z.d.cells z.ts.length)) rfl rfl) ?_
   intro a hA
   refine s_storeD (us := (z.d.cells z.ts.length)) (L' := (.obj g4 (.cells (z.d.cells z.ts.length).toArray 31) :: .obj g2 (.cells (z.d.cells z.ts.length).toArray 31) :: [])) hA hM rfl rfl (zh rfl rfl rfl (by kernel_rfl) hM 0 rfl rfl rfl) 0 rfl rfl rfl ?_
   intro w19 hM hK20
   replace hzr := Dt.kept hK20 _ hzr (Dt.at_mono (fun b hb => hb.2) _ hza)
   refine qf ?_
   refine hK18 _ _ ?_
   refine wp_ret ?_
   refine hret _ _ ?_
   refine ze (v := .agg (z.d.cells z.ts.length).toArray) hA rfl (.cons (yz hM JcJ_isS_31 rfl 0 rfl (cs := [.int .i64 z.d.k, .int .i64 z.d.n, .bool z.d.y.q.b1, .slice z.d.y.o1 z.d.y.q.t1.length z.d.y.c1, .slice z.d.y.o2 z.d.y.q.q1.length z.d.y.c2, .bool z.d.y.q.b2, .slice z.d.y.o3 z.d.y.q.t2.length z.d.y.c3, .slice z.d.y.o4 z.d.y.q.q2.length z.d.y.c4, .string z.d.s, .slice z.d.ro z.d.rl.length z.d.rc, .slice z.d.lo z.ts.length z.d.lc]) rfl rfl) .nil) rfl ?_
   obtain rfl : k = 0 := by omega
   exact ⟨z, rfl, ⟨hzr, hzp, hzt⟩, hM.bel⟩
def qdf (s : ByteArray) : Dt := .mk ⟨6, 0, ⟨Q6.zero, none, 0, none, 0, none, 0, none, 0⟩, s, none, 0, [], none, 0⟩ []
theorem symD_tr (s : ByteArray) : (qdf s).tr = yf s := by unfold qdf yf; rw [Dt.tr_mk]; rfl
theorem symD_rd (w : World) (s : ByteArray) (h : s.size ≤ 9223372036854775807) : (qdf s).rd w :=
  Dt.rd_iff.2 ⟨⟨⟨Sc.none w, Sc.none w, Sc.none w, Sc.none w⟩, qea, ⟨fun h => absurd rfl h⟩, Nat.le_refl _, by show (0 : Nat) ≤ _; omega, by show (-9223372036854775808 : Int) ≤ 6; omega, by show (6 : Int) ≤ 9223372036854775807; omega, by show (-9223372036854775808 : Int) ≤ 0; omega, by show (0 : Int) ≤ 9223372036854775807; omega, h⟩, Nat.le_refl _, by show (0 : Nat) ≤ _; omega, fun h => absurd rfl h, fun t h => by cases h⟩
theorem symD_at (p : Nat → Prop) (s : ByteArray) : (qdf s).at_ p :=
  Dt.at_iff.2 ⟨⟨fun h => absurd rfl h, fun h => absurd rfl h, fun h => absurd rfl h, fun h => absurd rfl h, fun h => absurd rfl h⟩, fun h => absurd rfl h, fun t h => by cases h⟩
theorem headed_any {w : World} {so : Option Addr} {ca : Nat} {ts : List Dt} (hR : Rt w so ts) (hD : ∀ t ∈ ts, t.rd w) {s : ByteArray} (hl : ts.length ≤ 1000) (hs : s.size ≤ 9223372036854775807) (P : Nat → Prop) (hPn : ∀ b, w.heap.size ≤ b → P b) (hPt : ∀ t ∈ ts, t.at_ P) : Calls Tryz.prog 5 #[.string s, .slice so ts.length ca] w fun e w' => ∃ z : Dt, e = .returned (.agg (z.d.cells z.ts.length).toArray) ∧ (z.rd w' ∧ z.at_ P ∧ z.tr = xb s (ts.map Dt.tr)) ∧ Below w.heap.size w w' := by
 have hM : Mg w w ([]) := Mg.start w
 refine zb (l := [(0, .string s), (1, .slice so ts.length ca)]) Tryz.func5 rfl Tryz.ntmps5 rfl rfl ?_
 intro Q hret hnorm hP a hA
 refine wp_seq_k (fun K1 hK1 => ?_)
 refine wp_region_lit ?_
 refine jc (vs := (qt.d.cells qt.ts.length)) (t := 31) hA hM rfl rfl rfl (fun g => .pointer (some ⟨g, 0, none⟩)) (zd (z := .agg (qt.d.cells qt.ts.length).toArray) (by kernel_rfl) rfl) (by decide) ?_
 intro g2 w3 hM a hA
 refine qf ?_
 refine hK1 _ _ ?_
 refine wp_seq_k (fun K4 hK4 => ?_)
 refine wp_region_lit ?_
 refine qa hA rfl rfl rfl (qe rfl) ?_
 intro a hA
 refine qa (v := .agg ((qdf s).d.cells (qdf s).ts.length).toArray) hA rfl rfl rfl (jt rfl (fun w => by kernel_rfl)) ?_
 intro a hA
 refine vt (e := 31) (sz := 11) (m := 1) (vs := cellsOf [qdf s]) hA hM rfl rfl rfl (qx rfl (by kernel_rfl)) rfl rfl (.inl (by decide)) ?_
 intro g5 w6 hM a hA
 refine qa hA rfl rfl rfl (qe rfl) ?_
 intro a hA
 refine vp (e := 31) (sz := 11) (k := 0) (q := 1) (m := ts.length) (xs := cellsOf [qdf s]) (news := cellsOf ts) (L' := fun v7 => (.row 31 11 (v7) (1 + ts.length) (cellsOf [qdf s] ++ cellsOf ts) :: .obj g2 (.cells (qt.d.cells qt.ts.length).toArray 31) :: [])) hA rfl rfl rfl (qbh (z := .agg #[.int .i64 0, .int .i64 0, .bool false, .slice none 0 0, .slice none 0 0, .bool false, .slice none 0 0, .slice none 0 0, .string ⟨#[]⟩, .slice none 0 0, .slice none 0 0]) (sz := 11) (by_ := 192) Tryz.underlying29 (by kernel_rfl) rfl rfl rfl hM 0 rfl rfl rfl (yy ts) (rc_rt (hR.below hM.bel)) (qda ts) (by omega)) (fun _ => rfl) ?_
 intro v7 w8 hM a hA
 replace hM : Mg w w8 (.row 31 11 (v7) (([qdf s] ++ ts).length) (cellsOf ([qdf s] ++ ts)) :: .obj g2 (.cells (qt.d.cells qt.ts.length).toArray 31) :: []) := by
   rw [uw, List.length_append]; exact hM
 obtain ⟨so9, ca10, rfl⟩ := ux (hM.has 0 rfl)
 refine qa hA rfl rfl rfl (qb rfl) ?_
 intro a hA
 refine qf ?_
 refine hK4 _ _ ?_
 refine wp_seq_k (fun K11 hK11 => ?_)
 refine wp_region_lit ?_
 refine qa hA rfl rfl rfl (qe rfl) ?_
 intro a hA
 refine qa (v := .agg (nilD.d.cells nilD.ts.length).toArray) hA rfl rfl rfl (jt rfl (fun w => by kernel_rfl)) ?_
 intro a hA
 have hz9 := hM.bel.size
 have hl4 := Ck.lt (hM.has 1 rfl) g2 rfl
 refine qm hA rfl rfl rfl (qh rfl rfl (fun w => by kernel_rfl)) (rlist_any (kk (hM.has 0 rfl)).1 (fun t ht => by rcases List.mem_append.1 ht with h | h; (rw [List.mem_singleton.1 h]; exact symD_rd _ _ hs); exact Dt.keep hM.bel _ (hD t h)) (nilD_rd _) (by rw [List.length_append]; simp only [List.length_cons, List.length_nil]; omega) (fun b => P b ∧ b ≠ g2) (fun b hb => ⟨hPn b (by omega), by omega⟩) (fun t ht => by rcases List.mem_append.1 ht with h | h; (rw [List.mem_singleton.1 h]; exact symD_at _ _); exact Dt.at_mono (fun b hb => ⟨hb.2, by have := hb.1; omega⟩) _ (at_two t (Dt.at_lt _ (hD t h)) (hPt t h))) (nilD_at _)) ?_
 rintro _ w13 ⟨t2, rfl, ⟨hr2, ha2, ht2⟩, hb12⟩
 replace hM := hM.call hb12
 refine ⟨_, rfl, ?_⟩
 intro a hA
 refine s_storeD (us := (t2.d.cells t2.ts.length)) (L' := (.row 31 11 (.slice so9 (([qdf s] ++ ts).length) ca10) (([qdf s] ++ ts).length) (cellsOf ([qdf s] ++ ts)) :: .obj g2 (.cells (t2.d.cells t2.ts.length).toArray 31) :: [])) hA hM rfl rfl (zh rfl rfl rfl (by kernel_rfl) hM 1 rfl rfl rfl) 1 rfl rfl rfl ?_
 intro w14 hM hK15
 replace hr2 := Dt.kept hK15 _ hr2 (Dt.at_mono (fun b hb => hb.2) _ ha2)
 refine qf ?_
 refine hK11 _ _ ?_
 refine wp_ret ?_
 refine hret _ _ ?_
 refine ze (v := .agg (t2.d.cells t2.ts.length).toArray) hA rfl (.cons (yz hM JcJ_isS_31 rfl 1 rfl (cs := [.int .i64 t2.d.k, .int .i64 t2.d.n, .bool t2.d.y.q.b1, .slice t2.d.y.o1 t2.d.y.q.t1.length t2.d.y.c1, .slice t2.d.y.o2 t2.d.y.q.q1.length t2.d.y.c2, .bool t2.d.y.q.b2, .slice t2.d.y.o3 t2.d.y.q.t2.length t2.d.y.c3, .slice t2.d.y.o4 t2.d.y.q.q2.length t2.d.y.c4, .string t2.d.s, .slice t2.d.ro t2.d.rl.length t2.d.rc, .slice t2.d.lo t2.ts.length t2.d.lc]) rfl rfl) .nil) rfl ?_
 exact ⟨t2, rfl, ⟨hr2, Dt.at_mono (fun b hb => hb.1) _ ha2, by rw [ht2, List.map_append, List.map_singleton, symD_tr, nilD_tr]; rfl⟩, hM.bel⟩
end Go.Proofs.YtoopkbedjbnhhabGreatDoor.G
namespace Go.Proofs.YtoopkbedjbnhhabGreatDoor.G
open Go.RowKit
set_option maxRecDepth 100000
theorem JcK_isS_31 : IsS Tryz.prog 31 11 := ⟨⟨_, Tryz.underlying31⟩, by kernel_rfl⟩
theorem ub (s : ByteArray) (xs : List Tr) : (xb s xs).bulk = s.size + 1 + Tr.bulks xs + (xs.length + 1) + 1 := by
  unfold xb
  have h1 : (yf s).bulk = s.size + 1 := by unfold yf; rw [yi, Tr.bulks]; show s.size + 0 + (0 + 0 + (0 + 0)) + 1 + 0 = _; omega
  have h2 : nilT.bulk = 1 := by rfl
  rw [qlj, Tr.bulks, h1, h2, List.length_cons]
theorem ko {w : World} {t : Dt} {l : List Int} {sv : Option Addr} {cv : Nat} (n : Nat) (ht : t.rd w) (hT8 : Tabs8 w) (hb : t.tr.bulk ≤ n) (hn : n ≤ 4000000) (hv : Rc w sv (izC l)) (hll : l.length ≤ 2000000) : Calls Tryz.prog 4 #[.slice sv l.length cv, .agg (t.d.cells t.ts.length).toArray] w fun e w' => ∃ b k, un n l t.tr = (b, k) ∧ e = .returned (.tuple #[.bool b, .int .i64 k]) ∧ Below w.heap.size w w' :=
  (version_any ht hT8 hb hn hv hll).mono fun e w' h => ⟨_, _, rfl, h.1, h.2⟩
theorem kp {p : Dt → Prop} {x : Dt} (hx : p x) : ∀ t ∈ [x], p t := fun t ht => by rw [List.mem_singleton.1 ht]; exact hx
theorem yt {p : Dt → Prop} {x y : Dt} (hx : p x) (hy : p y) : ∀ t ∈ [x, y], p t := fun t ht => by
  rcases List.mem_cons.1 ht with h | h
  · rw [h]; exact hx
  · rw [List.mem_singleton.1 h]; exact hy
theorem zv {w wk : World} (C : List Ck) {L : List Ck} {so : Option Addr} {ca : Nat} {ts : List Dt} {s : ByteArray} (hM : Mg w wk (.row 31 11 (.slice so ts.length ca) ts.length (cellsOf ts) :: (C ++ L))) (hnC : xp C) (hnL : xp L) (hx : ∀ t ∈ ts, LV w L t) (hl : ts.length ≤ 1000) (hs : s.size ≤ 9223372036854775807) : Calls Tryz.prog 5 #[.string s, .slice so ts.length ca] wk fun e w' => ∃ z L', e = .returned (.agg (z.d.cells z.ts.length).toArray) ∧ (z.tr = xb s (ts.map Dt.tr) ∧ LV w L' z ∧ L.Sublist L' ∧ xp L') ∧ Mg w w' (C ++ L') := by
  have hML : Mg w wk L := hM.sub (cN (List.sublist_append_right _ _))
  have hO : Ob L wk := hML.ob (List.Subset.refl _)
  refine (headed_any (kk (hM.has 0 rfl)).1 (fun t ht => (hx t ht).2 _ hM.bel hO) hl hs (fun b => LB w L b ∨ wk.heap.size ≤ b) (fun b hb => .inr hb) (fun t ht => Dt.at_mono (fun b hb => .inl hb) _ (hx t ht).1)).mono ?_
  rintro e w' ⟨z, h1, ⟨h2, h3, h4⟩, hb⟩
  have hF := (hM.sub (cN (List.Sublist.refl _))).freezeAt C.length (qad hnC hnL) hb
  rw [List.take_left, List.drop_left] at hF
  exact ⟨z, made wk w' ++ L, h1, ⟨h4, lv_new (hM.bel.trans (hb.mono hM.bel.size)) hM.bel.size (hO.below hb) h2 h3, List.sublist_append_right _ _, qad qhh hnL⟩, hF⟩
theorem vi {P : Program} {w0 w : World} {L : List Ck} {l : List (Nat × Value)} {dst : Option Tmp} {ty : TypeId} {pos : String} {after : Array Edge} {guard : Option (Nat × Bool)} (hM : Mg w0 w L) {g n : Nat} {cs : List Value} {e : TypeId} (hm : Ck.obj g (.cells cs.toArray e) ∈ L) {t : TypeId} (ht : IsS P t n) {x : Operand} (hx : ev l x = some (.pointer (some ⟨g, 0, none⟩))) (hl : cs.length = n) : Does P l ⟨dst, .load t x, ty, pos, after, guard⟩ w (.agg cs.toArray) w :=
  jb hx (vn ht cs hl (fun j v hj => by
    have h1 : w.heap[g]? = some (.cells cs.toArray e) := (hM.all _ hm).2
    rw [cell_of_row _ _ _ _ _ _ h1]
    simpa using hj))
section
variable {P : Program} {w0 w : World} {L : List Ck} {l : List (Nat × Value)} {ops : List Oper} {Q : Exit → Act → World → Prop} {a : Act} {n : Nat} {o : Oper} {rest : List Oper} {d : Nat} {S : World → Prop} {md : Region.Mode} {fuel : Nat} {listed : Array Bool}
theorem kj (hA : Sl a n l) (hM : Mg w0 w L) (i : Nat) (hi : ops[i]? = some o) (hg : zy l ops o = true) (hdst : o.dst = some d) (hd : Nat.blt d n = true) {vs : List Value} {t : TypeId} (val : Nat → Value) (he : Does P l o w (val w.heap.size) (w.alloc (.cells vs.toArray t))) (ht : t ≠ BY)
    (hk : ∀ g w', Mg w0 w' (.obj g (.cells vs.toArray t) :: L) → S w' ∧ ∀ a', Sl a' n ((d, val g) :: l) → wpAnyH P md ops.toArray Q S fuel (listed.setIfInBounds i true) a' w') : wpOp P ops.toArray Q i (fun a' w' => S w' ∧ wpAnyH P md ops.toArray Q S fuel (listed.setIfInBounds i true) a' w') a w := by
  have h := hk _ _ (hM.addObj _ (yu ht))
  exact op_do hA i hi hg hdst hd he h.1 h.2
end
theorem logic_any {w : World} {l : List Int} {sv : Option Addr} {cv : Nat} {ta tb : Dt} (hv : Rc w sv (izC l)) (hll : l.length ≤ 2000000) (hta : ta.rd w) (htb : tb.rd w) (hT8 : Tabs8 w) (hba : ta.tr.bulk ≤ 1048576) (hbb : tb.tr.bulk ≤ 1048576) : Calls Tryz.prog 3 #[.slice sv l.length cv, .agg (ta.d.cells ta.ts.length).toArray, .agg (tb.d.cells tb.ts.length).toArray] w fun e w' => e = .returned (.bool true) ∧ Below w.heap.size w w' := by
 have hLa := lv_in [] hta
 have hLb := lv_in [] htb
 have hnL : xp [] := (qp qw)
 have hM : Mg w w ([]) := Mg.start w
 refine zb (l := [(0, .slice sv l.length cv), (1, .agg (ta.d.cells ta.ts.length).toArray), (2, .agg (tb.d.cells tb.ts.length).toArray)]) Tryz.func3 rfl Tryz.ntmps3 rfl rfl ?_
 intro Q hret hnorm hP a hA
 refine wp_seq_k (fun K1 hK1 => ?_)
 refine wp_region_lit ?_
 refine jc (vs := (ta.d.cells ta.ts.length)) (t := 31) hA hM rfl rfl rfl (fun g => .pointer (some ⟨g, 0, none⟩)) (zm rfl rfl) (by decide) ?_
 intro g2 w3 hM a hA
 refine jc (vs := (tb.d.cells tb.ts.length)) (t := 31) hA hM rfl rfl rfl (fun g => .pointer (some ⟨g, 0, none⟩)) (zm rfl rfl) (by decide) ?_
 intro g4 w5 hM a hA
 refine qa hA rfl rfl rfl (qb rfl) ?_
 intro a hA
 refine qf ?_
 refine hK1 _ _ ?_
 refine wp_seq_k (fun K6 hK6 => ?_)
 obtain ⟨L7, hs8, hm9, hm10, hnL2, hM⟩ : ∃ L7 : List Ck, List.Sublist [] L7 ∧ .obj g4 (.cells (tb.d.cells tb.ts.length).toArray 31) ∈ L7 ∧ .obj g2 (.cells (ta.d.cells ta.ts.length).toArray 31) ∈ L7 ∧ xp L7 ∧ Mg w w5 L7 := ⟨_, (cN (cN (List.Sublist.refl _))), List.mem_cons_self, (List.mem_cons_of_mem _ List.mem_cons_self), (qr (by simp) (qr (by simp) hnL)), hM⟩
 replace hnL := hnL2
 clear hnL2
 replace hLa := hLa.sub hs8.subset
 replace hLb := hLb.sub hs8.subset
 refine wp_region_lit ?_
 refine qa hA rfl rfl rfl (qe rfl) ?_
 intro a hA
 refine qa (v := .agg (ta.d.cells ta.ts.length).toArray) hA rfl rfl rfl (vi hM hm10 JcK_isS_31 rfl rfl) ?_
 intro a hA
 refine qm hA rfl rfl rfl (qh rfl rfl (fun w => by kernel_rfl)) (ko 3000000 (hLa.2 _ hM.bel (hM.ob (List.Subset.refl _))) (hT8.below hM.bel) (by omega) (by decide) (hv.below hM.bel) hll) ?_
 rintro _ w12 ⟨b1, k1, hv1, rfl, hb11⟩
 replace hM := hM.call hb11
 refine ⟨_, rfl, ?_⟩
 intro a hA
 refine qa hA rfl rfl rfl (qe rfl) ?_
 intro a hA
 refine qa (v := .bool b1) hA rfl rfl rfl (qn (vs := [.bool b1, .int .i64 k1]) rfl rfl) ?_
 intro a hA
 refine qa (v := .int .i64 k1) hA rfl rfl rfl (qn (vs := [.bool b1, .int .i64 k1]) rfl rfl) ?_
 intro a hA
 refine qa hA rfl rfl rfl (qb rfl) ?_
 intro a hA
 refine qa hA rfl rfl rfl (qb rfl) ?_
 intro a hA
 refine qf ?_
 refine hK6 _ _ ?_
 refine wp_seq_k (fun K13 hK13 => ?_)
 refine wp_region_lit ?_
 refine qa hA rfl rfl rfl (qe rfl) ?_
 intro a hA
 refine qa (v := .agg (tb.d.cells tb.ts.length).toArray) hA rfl rfl rfl (vi hM hm9 JcK_isS_31 rfl rfl) ?_
 intro a hA
 refine qm hA rfl rfl rfl (qh rfl rfl (fun w => by kernel_rfl)) (ko 3000000 (hLb.2 _ hM.bel (hM.ob (List.Subset.refl _))) (hT8.below hM.bel) (by omega) (by decide) (hv.below hM.bel) hll) ?_
 rintro _ w15 ⟨b2, k2, hv2, rfl, hb14⟩
 replace hM := hM.call hb14
 refine ⟨_, rfl, ?_⟩
 intro a hA
 refine qa hA rfl rfl rfl (qe rfl) ?_
 intro a hA
 refine qa (v := .bool b2) hA rfl rfl rfl (qn (vs := [.bool b2, .int .i64 k2]) rfl rfl) ?_
 intro a hA
 refine qa (v := .int .i64 k2) hA rfl rfl rfl (qn (vs := [.bool b2, .int .i64 k2]) rfl rfl) ?_
 intro a hA
 refine qa hA rfl rfl rfl (qb rfl) ?_
 intro a hA
 refine qa hA rfl rfl rfl (qb rfl) ?_
 intro a hA
 refine qf ?_
 refine hK13 _ _ ?_
 refine wp_seq_k (fun K16 hK16 => ?_)
 refine wp_region_lit ?_
 refine qa (v := .agg (ta.d.cells ta.ts.length).toArray) hA rfl rfl rfl (vi hM hm10 JcK_isS_31 rfl rfl) ?_
 intro a hA
 refine qa (v := .agg (tb.d.cells tb.ts.length).toArray) hA rfl rfl rfl (vi hM hm9 JcK_isS_31 rfl rfl) ?_
 intro a hA
 refine vt (e := 31) (sz := 11) (m := 2) (vs := cellsOf [ta, tb]) hA hM rfl rfl rfl (qx rfl (by kernel_rfl)) rfl rfl (.inl (by decide)) ?_
 intro g17 w18 hM a hA
 refine qm hA rfl rfl rfl (qh rfl rfl (fun w => by kernel_rfl)) (zv (s := xy) (ts := [ta, tb]) [] hM (qp qw) hnL (yt hLa hLb) (Nat.le_of_ble_eq_true rfl) (Nat.le_of_ble_eq_true rfl)) ?_
 rintro _ w26 ⟨z19, L20, rfl, ⟨ht22, hL23, hs24, hnL2⟩, hM25⟩
 replace hnL := hnL2
 clear hnL2
 replace hLa := hLa.sub hs24.subset
 replace hLb := hLb.sub hs24.subset
 replace hm9 := hs24.subset hm9
 replace hm10 := hs24.subset hm10
 replace hM : Mg w w26 (L20) := hM25
 refine ⟨_, rfl, ?_⟩
 intro a hA
 refine jc (vs := (qt.d.cells qt.ts.length)) (t := 31) hA hM rfl rfl rfl (fun g => .pointer (some ⟨g, 0, none⟩)) (zd (z := .agg (qt.d.cells qt.ts.length).toArray) (by kernel_rfl) rfl) (by decide) ?_
 intro g27 w28 hM a hA
 refine zq (us := (z19.d.cells z19.ts.length)) (L' := (.obj g27 (.cells (z19.d.cells z19.ts.length).toArray 31) :: L20)) hA hM rfl rfl (zh rfl rfl rfl (by kernel_rfl) hM 0 rfl rfl rfl) 0 rfl rfl rfl ?_
 intro w29 hM
 refine qf ?_
 refine hK16 _ _ ?_
 refine wp_seq_k (fun K30 hK30 => ?_)
 obtain ⟨L31, hs32, hm33, hnL2, hM⟩ : ∃ L31 : List Ck, List.Sublist L20 L31 ∧ .obj g27 (.cells (z19.d.cells z19.ts.length).toArray 31) ∈ L31 ∧ xp L31 ∧ Mg w w29 L31 := ⟨_, (cN (List.Sublist.refl _)), List.mem_cons_self, (qr (by simp) hnL), hM⟩
 replace hnL := hnL2
 clear hnL2
 replace hm9 := hs32.subset hm9
 replace hm10 := hs32.subset hm10
 replace hLa := hLa.sub hs32.subset
 replace hLb := hLb.sub hs32.subset
 replace hL23 := hL23.sub hs32.subset
 refine wp_region_lit ?_
 refine qa (v := .agg (ta.d.cells ta.ts.length).toArray) hA rfl rfl rfl (vi hM hm10 JcK_isS_31 rfl rfl) ?_
 intro a hA
 refine qa (v := .agg (tb.d.cells tb.ts.length).toArray) hA rfl rfl rfl (vi hM hm9 JcK_isS_31 rfl rfl) ?_
 intro a hA
 refine vt (e := 31) (sz := 11) (m := 2) (vs := cellsOf [ta, tb]) hA hM rfl rfl rfl (qx rfl (by kernel_rfl)) rfl rfl (.inl (by decide)) ?_
 intro g34 w35 hM a hA
 refine qm hA rfl rfl rfl (qh rfl rfl (fun w => by kernel_rfl)) (zv (s := wOr) (ts := [ta, tb]) [] hM (qp qw) hnL (yt hLa hLb) (Nat.le_of_ble_eq_true rfl) (Nat.le_of_ble_eq_true rfl)) ?_
 rintro _ w43 ⟨z36, L37, rfl, ⟨ht39, hL40, hs41, hnL2⟩, hM42⟩
 replace hnL := hnL2
 clear hnL2
 replace hLa := hLa.sub hs41.subset
 replace hLb := hLb.sub hs41.subset
 replace hL23 := hL23.sub hs41.subset
 replace hm9 := hs41.subset hm9
 replace hm10 := hs41.subset hm10
 replace hm33 := hs41.subset hm33
 replace hM : Mg w w43 (L37) := hM42
 refine ⟨_, rfl, ?_⟩
 intro a hA
 refine jc (vs := (qt.d.cells qt.ts.length)) (t := 31) hA hM rfl rfl rfl (fun g => .pointer (some ⟨g, 0, none⟩)) (zd (z := .agg (qt.d.cells qt.ts.length).toArray) (by kernel_rfl) rfl) (by decide) ?_
 intro g44 w45 hM a hA
 refine zq (us := (z36.d.cells z36.ts.length)) (L' := (.obj g44 (.cells (z36.d.cells z36.ts.length).toArray 31) :: L37)) hA hM rfl rfl (zh rfl rfl rfl (by kernel_rfl) hM 0 rfl rfl rfl) 0 rfl rfl rfl ?_
 intro w46 hM
 refine qf ?_
 refine hK30 _ _ ?_
 refine wp_seq_k (fun K47 hK47 => ?_)
 obtain ⟨L48, hs49, hm50, hnL2, hM⟩ : ∃ L48 : List Ck, List.Sublist L37 L48 ∧ .obj g44 (.cells (z36.d.cells z36.ts.length).toArray 31) ∈ L48 ∧ xp L48 ∧ Mg w w46 L48 := ⟨_, (cN (List.Sublist.refl _)), List.mem_cons_self, (qr (by simp) hnL), hM⟩
 replace hnL := hnL2
 clear hnL2
 replace hm9 := hs49.subset hm9
 replace hm10 := hs49.subset hm10
 replace hm33 := hs49.subset hm33
 replace hLa := hLa.sub hs49.subset
 replace hLb := hLb.sub hs49.subset
 replace hL23 := hL23.sub hs49.subset
 replace hL40 := hL40.sub hs49.subset
 refine wp_region_lit ?_
 refine qa (v := .agg (z36.d.cells z36.ts.length).toArray) hA rfl rfl rfl (vi hM hm50 JcK_isS_31 rfl rfl) ?_
 intro a hA
 refine vt (e := 31) (sz := 11) (m := 1) (vs := cellsOf [z36]) hA hM rfl rfl rfl (qx rfl (by kernel_rfl)) rfl rfl (.inl (by decide)) ?_
 intro g51 w52 hM a hA
 refine qm hA rfl rfl rfl (qh rfl rfl (fun w => by kernel_rfl)) (zv (s := xq) (ts := [z36]) [] hM (qp qw) hnL (kp hL40) (Nat.le_of_ble_eq_true rfl) (Nat.le_of_ble_eq_true rfl)) ?_
 rintro _ w60 ⟨z53, L54, rfl, ⟨ht56, hL57, hs58, hnL2⟩, hM59⟩
 replace hnL := hnL2
 clear hnL2
 replace hLa := hLa.sub hs58.subset
 replace hLb := hLb.sub hs58.subset
 replace hL23 := hL23.sub hs58.subset
 replace hL40 := hL40.sub hs58.subset
 replace hm9 := hs58.subset hm9
 replace hm10 := hs58.subset hm10
 replace hm33 := hs58.subset hm33
 replace hm50 := hs58.subset hm50
 replace hM : Mg w w60 (L54) := hM59
 refine ⟨_, rfl, ?_⟩
 intro a hA
 refine jc (vs := (qt.d.cells qt.ts.length)) (t := 31) hA hM rfl rfl rfl (fun g => .pointer (some ⟨g, 0, none⟩)) (zd (z := .agg (qt.d.cells qt.ts.length).toArray) (by kernel_rfl) rfl) (by decide) ?_
 intro g61 w62 hM a hA
 refine zq (us := (z53.d.cells z53.ts.length)) (L' := (.obj g61 (.cells (z53.d.cells z53.ts.length).toArray 31) :: L54)) hA hM rfl rfl (zh rfl rfl rfl (by kernel_rfl) hM 0 rfl rfl rfl) 0 rfl rfl rfl ?_
 intro w63 hM
 refine qf ?_
 refine hK47 _ _ ?_
 refine wp_seq_k (fun K64 hK64 => ?_)
 obtain ⟨L65, hs66, hm67, hnL2, hM⟩ : ∃ L65 : List Ck, List.Sublist L54 L65 ∧ .obj g61 (.cells (z53.d.cells z53.ts.length).toArray 31) ∈ L65 ∧ xp L65 ∧ Mg w w63 L65 := ⟨_, (cN (List.Sublist.refl _)), List.mem_cons_self, (qr (by simp) hnL), hM⟩
 replace hnL := hnL2
 clear hnL2
 replace hm9 := hs66.subset hm9
 replace hm10 := hs66.subset hm10
 replace hm33 := hs66.subset hm33
 replace hm50 := hs66.subset hm50
 replace hLa := hLa.sub hs66.subset
 replace hLb := hLb.sub hs66.subset
 replace hL23 := hL23.sub hs66.subset
 replace hL40 := hL40.sub hs66.subset
 replace hL57 := hL57.sub hs66.subset
 have hJ68 : ∀ a w1, (∃ (zr : Dt) (gR : Nat) (T : List Ck) (hLr : LV w T zr) (hzr : zr.tr = xb xy [xb xq [ta.tr], xb xq [tb.tr]]) (hnL : xp T) (hTs : List.Sublist L65 T), Sl a 135 [(0, .slice sv l.length cv), (1, .agg (ta.d.cells ta.ts.length).toArray), (2, .agg (tb.d.cells tb.ts.length).toArray), (4, .pointer (some ⟨g2, 0, none⟩)), (5, .pointer (some ⟨g4, 0, none⟩)), (6, .bool false), (7, .bool b1), (8, .int .i64 k1), (9, .bool b2), (10, .int .i64 k2), (11, .pointer (some ⟨g27, 0, none⟩)), (12, .pointer (some ⟨g44, 0, none⟩)), (13, .pointer (some ⟨g61, 0, none⟩)), (14, .pointer (some ⟨gR, 0, none⟩)), (23, .tuple #[.bool b1, .int .i64 k1]), (24, .slice sv l.length cv), (25, .agg (ta.d.cells ta.ts.length).toArray), (26, .tuple #[.bool b1, .int .i64 k1]), (27, .bool b1), (28, .int .i64 k1), (29, .tuple #[.bool b2, .int .i64 k2]), (30, .slice sv l.length cv), (31, .agg (tb.d.cells tb.ts.length).toArray), (32, .tuple #[.bool b2, .int .i64 k2]), (33, .bool b2), (34, .int .i64 k2), (35, .agg (ta.d.cells ta.ts.length).toArray), (36, .agg (tb.d.cells tb.ts.length).toArray), (37, .slice (some ⟨g17, 0, none⟩) 2 2), (38, .agg (z19.d.cells z19.ts.length).toArray), (39, .agg (ta.d.cells ta.ts.length).toArray), (40, .agg (tb.d.cells tb.ts.length).toArray), (41, .slice (some ⟨g34, 0, none⟩) 2 2), (42, .agg (z36.d.cells z36.ts.length).toArray), (43, .agg (z36.d.cells z36.ts.length).toArray), (44, .slice (some ⟨g51, 0, none⟩) 1 1), (45, .agg (z53.d.cells z53.ts.length).toArray)] ∧ Mg w w1 (.obj gR (.cells (zr.d.cells zr.ts.length).toArray 31) :: T)) → K64 a w1 := by
   clear hA hM
   rintro a w69 ⟨zr, gR, T, hLr, hzr, hnL, hTs, hA, hM⟩
   replace hm9 := hTs.subset hm9
   replace hm10 := hTs.subset hm10
   replace hm33 := hTs.subset hm33
   replace hm50 := hTs.subset hm50
   replace hm67 := hTs.subset hm67
   replace hLa := hLa.sub hTs.subset
   replace hLb := hLb.sub hTs.subset
   replace hL23 := hL23.sub hTs.subset
   replace hL40 := hL40.sub hTs.subset
   replace hL57 := hL57.sub hTs.subset
   refine hK64 _ _ ?_
   refine wp_seq_k (fun K70 hK70 => ?_)
   refine wp_seq_k (fun K71 hK71 => ?_)
   obtain ⟨L72, hs73, hm74, hnL2, hM⟩ : ∃ L72 : List Ck, List.Sublist T L72 ∧ .obj gR (.cells (zr.d.cells zr.ts.length).toArray 31) ∈ L72 ∧ xp L72 ∧ Mg w w69 L72 := ⟨_, (cN (List.Sublist.refl _)), List.mem_cons_self, (qr (by simp) hnL), hM⟩
   replace hnL := hnL2
   clear hnL2
   replace hm9 := hs73.subset hm9
   replace hm10 := hs73.subset hm10
   replace hm33 := hs73.subset hm33
   replace hm50 := hs73.subset hm50
   replace hm67 := hs73.subset hm67
   replace hLa := hLa.sub hs73.subset
   replace hLb := hLb.sub hs73.subset
   replace hL23 := hL23.sub hs73.subset
   replace hL40 := hL40.sub hs73.subset
   replace hL57 := hL57.sub hs73.subset
   replace hLr := hLr.sub hs73.subset
   refine wp_region_lit ?_
   refine qm hA rfl rfl rfl (qh rfl rfl (fun w => by kernel_rfl)) (qai) ?_
   rintro _ w76 ⟨rfl, hb75⟩
   replace hM := hM.call hb75
   refine ⟨_, rfl, ?_⟩
   intro a hA
   refine qa (v := .bool false) hA rfl rfl rfl (qz rfl zg) ?_
   intro a hA
   refine qa hA rfl rfl rfl (qe rfl) ?_
   intro a hA
   refine qa hA rfl rfl rfl (qe rfl) ?_
   intro a hA
   rcases Bool.eq_false_or_eq_true ((k1 != 0)) with hb77 | hb77
   · have hb77' := bne_iff_ne.1 hb77
     refine qa (v := .bool true) hA rfl rfl rfl (qg rfl rfl (fun w => (jh w).trans (by rw [hb77]))) ?_
     intro a hA
     refine qa (v := .bool true) hA rfl rfl rfl (qi rfl rfl rfl rfl) ?_
     intro a hA
     refine qa hA rfl rfl rfl (qe rfl) ?_
     intro a hA
     refine qj hA rfl rfl rfl ?_
     intro a hA
     refine qj hA rfl rfl rfl ?_
     intro a hA
     refine qa (v := .bool true) hA rfl rfl rfl (qi rfl rfl rfl rfl) ?_
     intro a hA
     refine qa hA rfl rfl rfl (qe rfl) ?_
     intro a hA
     refine qj hA rfl rfl rfl ?_
     intro a hA
     refine qj hA rfl rfl rfl ?_
     intro a hA
     refine qj hA rfl rfl rfl ?_
     intro a hA
     refine qa (v := .bool true) hA rfl rfl rfl (qi rfl rfl rfl rfl) ?_
     intro a hA
     refine qf ?_
     refine hK71 _ _ ?_
     refine wp_cond_true (hA.ev rfl) ?_
     refine wp_seq_k (fun K78 hK78 => ?_)
     refine wp_region_lit ?_
     refine qm hA rfl rfl rfl (qh rfl rfl (fun w => by kernel_rfl)) (qai) ?_
     rintro _ w80 ⟨rfl, hb79⟩
     replace hM := hM.call hb79
     refine ⟨_, rfl, ?_⟩
     intro a hA
     refine qa hA rfl rfl rfl (qb rfl) ?_
     intro a hA
     refine qf ?_
     refine hK78 _ _ ?_
     refine wp_ret ?_
     refine hret _ _ ?_
     refine ze (v := .bool true) hA rfl (.cons (ql rfl) .nil) rfl ?_
     exact ⟨rfl, hM.bel⟩
   · have hb77' := bne_eq_false_iff_eq.1 hb77
     refine qa (v := .bool false) hA rfl rfl rfl (qg rfl rfl (fun w => (jh w).trans (by rw [hb77]))) ?_
     intro a hA
     refine qa (v := .bool false) hA rfl rfl rfl (qi rfl rfl rfl rfl) ?_
     intro a hA
     refine qa hA rfl rfl rfl (qe rfl) ?_
     intro a hA
     refine qa hA rfl rfl rfl (qe rfl) ?_
     intro a hA
     rcases Bool.eq_false_or_eq_true ((k2 != 0)) with hb81 | hb81
     · have hb81' := bne_iff_ne.1 hb81
       refine qa (v := .bool true) hA rfl rfl rfl (qg rfl rfl (fun w => (jh w).trans (by rw [hb81]))) ?_
       intro a hA
       refine qa (v := .bool true) hA rfl rfl rfl (qi rfl rfl rfl rfl) ?_
       intro a hA
       refine qa hA rfl rfl rfl (qe rfl) ?_
       intro a hA
       refine qj hA rfl rfl rfl ?_
       intro a hA
       refine qj hA rfl rfl rfl ?_
       intro a hA
       refine qj hA rfl rfl rfl ?_
       intro a hA
       refine qa (v := .bool true) hA rfl rfl rfl (qi rfl rfl rfl rfl) ?_
       intro a hA
       refine qf ?_
       refine hK71 _ _ ?_
       refine wp_cond_true (hA.ev rfl) ?_
       refine wp_seq_k (fun K82 hK82 => ?_)
       refine wp_region_lit ?_
       refine qm hA rfl rfl rfl (qh rfl rfl (fun w => by kernel_rfl)) (qai) ?_
       rintro _ w84 ⟨rfl, hb83⟩
       replace hM := hM.call hb83
       refine ⟨_, rfl, ?_⟩
       intro a hA
       refine qa hA rfl rfl rfl (qb rfl) ?_
       intro a hA
       refine qf ?_
       refine hK82 _ _ ?_
       refine wp_ret ?_
       refine hret _ _ ?_
       refine ze (v := .bool true) hA rfl (.cons (ql rfl) .nil) rfl ?_
       exact ⟨rfl, hM.bel⟩
     · have hb81' := bne_eq_false_iff_eq.1 hb81
       refine qa (v := .bool false) hA rfl rfl rfl (qg rfl rfl (fun w => (jh w).trans (by rw [hb81]))) ?_
       intro a hA
       refine qa (v := .bool false) hA rfl rfl rfl (qi rfl rfl rfl rfl) ?_
       intro a hA
       refine qa hA rfl rfl rfl (qe rfl) ?_
       intro a hA
       refine qa (v := .agg (zr.d.cells zr.ts.length).toArray) hA rfl rfl rfl (vi hM hm74 JcK_isS_31 rfl rfl) ?_
       intro a hA
       have hkr := congrArg Tr.bulk hzr
       rw [ub] at hkr
       simp only [Tr.bulks, ub, List.length_cons, List.length_nil] at hkr
       have hkr1 : xy.size ≤ 3 := by decide
       have hkr2 : xq.size ≤ 3 := by decide
       rcases Bool.eq_false_or_eq_true (jv zl zr.tr) with hb85 | hb85
       · refine qm hA rfl rfl rfl (qh rfl rfl (fun w => by kernel_rfl)) ((hb85 ▸ rsound_any (t := zr) (hLr.2 _ hM.bel (hM.ob (List.Subset.refl _))) (by omega))) ?_
         rintro _ w87 ⟨rfl, hb86⟩
         replace hM := hM.call hb86
         refine ⟨_, rfl, ?_⟩
         intro a hA
         refine qa (v := .bool false) hA rfl rfl rfl (qz rfl zg) ?_
         intro a hA
         refine qa (v := .bool false) hA rfl rfl rfl (qi rfl rfl rfl rfl) ?_
         intro a hA
         refine qf ?_
         refine hK71 _ _ ?_
         refine wp_cond_false (hA.ev rfl) ?_
         refine wp_skip ?_
         refine hK70 _ _ ?_
         refine wp_seq_k (fun K88 hK88 => ?_)
         refine wp_region_lit ?_
         refine qa hA rfl rfl rfl (qe rfl) ?_
         intro a hA
         refine qa (v := .agg (z19.d.cells z19.ts.length).toArray) hA rfl rfl rfl (vi hM hm33 JcK_isS_31 rfl rfl) ?_
         intro a hA
         have hk89 := congrArg Tr.bulk ht22
         rw [ub] at hk89
         simp only [Tr.bulks, List.map_cons, List.map_nil, List.length_cons, List.length_nil] at hk89
         have hk89s : xy.size ≤ 3 := by decide
         refine qm hA rfl rfl rfl (qh rfl rfl (fun w => by kernel_rfl)) (ko 3000001 (hL23.2 _ hM.bel (hM.ob (List.Subset.refl _))) (hT8.below hM.bel) (by omega) (by decide) (hv.below hM.bel) hll) ?_
         rintro _ w91 ⟨b3, k3, hv3, rfl, hb90⟩
         replace hM := hM.call hb90
         refine ⟨_, rfl, ?_⟩
         intro a hA
         refine qa hA rfl rfl rfl (qe rfl) ?_
         intro a hA
         refine qa (v := .bool b3) hA rfl rfl rfl (qn (vs := [.bool b3, .int .i64 k3]) rfl rfl) ?_
         intro a hA
         refine qa (v := .int .i64 k3) hA rfl rfl rfl (qn (vs := [.bool b3, .int .i64 k3]) rfl rfl) ?_
         intro a hA
         refine qa hA rfl rfl rfl (qb rfl) ?_
         intro a hA
         refine qa hA rfl rfl rfl (qb rfl) ?_
         intro a hA
         refine qf ?_
         refine hK88 _ _ ?_
         refine wp_seq_k (fun K92 hK92 => ?_)
         refine wp_region_lit ?_
         refine qa hA rfl rfl rfl (qe rfl) ?_
         intro a hA
         refine qa (v := .agg (z36.d.cells z36.ts.length).toArray) hA rfl rfl rfl (vi hM hm50 JcK_isS_31 rfl rfl) ?_
         intro a hA
         have hk93 := congrArg Tr.bulk ht39
         rw [ub] at hk93
         simp only [Tr.bulks, List.map_cons, List.map_nil, List.length_cons, List.length_nil] at hk93
         have hk93s : wOr.size ≤ 3 := by decide
         refine qm hA rfl rfl rfl (qh rfl rfl (fun w => by kernel_rfl)) (ko 3000001 (hL40.2 _ hM.bel (hM.ob (List.Subset.refl _))) (hT8.below hM.bel) (by omega) (by decide) (hv.below hM.bel) hll) ?_
         rintro _ w95 ⟨b4, k4, hv4, rfl, hb94⟩
         replace hM := hM.call hb94
         refine ⟨_, rfl, ?_⟩
         intro a hA
         refine qa hA rfl rfl rfl (qe rfl) ?_
         intro a hA
         refine qa (v := .bool b4) hA rfl rfl rfl (qn (vs := [.bool b4, .int .i64 k4]) rfl rfl) ?_
         intro a hA
         refine qa (v := .int .i64 k4) hA rfl rfl rfl (qn (vs := [.bool b4, .int .i64 k4]) rfl rfl) ?_
         intro a hA
         refine qa hA rfl rfl rfl (qb rfl) ?_
         intro a hA
         refine qa hA rfl rfl rfl (qb rfl) ?_
         intro a hA
         refine qf ?_
         refine hK92 _ _ ?_
         refine wp_seq_k (fun K96 hK96 => ?_)
         refine wp_region_lit ?_
         refine qa hA rfl rfl rfl (qe rfl) ?_
         intro a hA
         refine qa (v := .agg (z53.d.cells z53.ts.length).toArray) hA rfl rfl rfl (vi hM hm67 JcK_isS_31 rfl rfl) ?_
         intro a hA
         have hk97 := congrArg Tr.bulk ht56
         rw [ub] at hk97
         simp only [Tr.bulks, List.map_cons, List.map_nil, List.length_cons, List.length_nil] at hk97
         have hk97s : xq.size ≤ 3 := by decide
         refine qm hA rfl rfl rfl (qh rfl rfl (fun w => by kernel_rfl)) (ko 3000002 (hL57.2 _ hM.bel (hM.ob (List.Subset.refl _))) (hT8.below hM.bel) (by omega) (by decide) (hv.below hM.bel) hll) ?_
         rintro _ w99 ⟨b5, k5, hv5, rfl, hb98⟩
         replace hM := hM.call hb98
         refine ⟨_, rfl, ?_⟩
         intro a hA
         refine qa hA rfl rfl rfl (qe rfl) ?_
         intro a hA
         refine qa (v := .bool b5) hA rfl rfl rfl (qn (vs := [.bool b5, .int .i64 k5]) rfl rfl) ?_
         intro a hA
         refine qa (v := .int .i64 k5) hA rfl rfl rfl (qn (vs := [.bool b5, .int .i64 k5]) rfl rfl) ?_
         intro a hA
         refine qa hA rfl rfl rfl (qb rfl) ?_
         intro a hA
         refine qa hA rfl rfl rfl (qb rfl) ?_
         intro a hA
         refine qf ?_
         refine hK96 _ _ ?_
         refine wp_seq_k (fun K100 hK100 => ?_)
         refine wp_region_lit ?_
         refine qa hA rfl rfl rfl (qe rfl) ?_
         intro a hA
         refine qa (v := .agg (zr.d.cells zr.ts.length).toArray) hA rfl rfl rfl (vi hM hm74 JcK_isS_31 rfl rfl) ?_
         intro a hA
         refine qm hA rfl rfl rfl (qh rfl rfl (fun w => by kernel_rfl)) (ko 3000002 (hLr.2 _ hM.bel (hM.ob (List.Subset.refl _))) (hT8.below hM.bel) (by omega) (by decide) (hv.below hM.bel) hll) ?_
         rintro _ w102 ⟨b6, k6, hv6, rfl, hb101⟩
         replace hM := hM.call hb101
         refine ⟨_, rfl, ?_⟩
         intro a hA
         refine qa hA rfl rfl rfl (qe rfl) ?_
         intro a hA
         refine qa (v := .bool b6) hA rfl rfl rfl (qn (vs := [.bool b6, .int .i64 k6]) rfl rfl) ?_
         intro a hA
         refine qa (v := .int .i64 k6) hA rfl rfl rfl (qn (vs := [.bool b6, .int .i64 k6]) rfl rfl) ?_
         intro a hA
         refine qa hA rfl rfl rfl (qb rfl) ?_
         intro a hA
         refine qa hA rfl rfl rfl (qb rfl) ?_
         intro a hA
         refine qf ?_
         refine hK100 _ _ ?_
         refine wp_seq_k (fun K103 hK103 => ?_)
         refine wp_region_lit ?_
         obtain rfl : k1 = 0 := by simpa using hb77
         obtain rfl : k2 = 0 := by simpa using hb81
         rw [ht22] at hv3
         rw [ht39] at hv4
         rw [ht56, List.map_cons, List.map_nil, ht39] at hv5
         rw [hzr] at hv6
         have hs9 := hb85
         rw [hzr] at hs9
         obtain ⟨e3, e4, e5, e6⟩ := logic_all hv1 hv2 hs9
         obtain ⟨rfl, rfl⟩ := Prod.mk.inj (hv3.symm.trans e3)
         obtain ⟨rfl, rfl⟩ := Prod.mk.inj (hv4.symm.trans e4)
         obtain ⟨rfl, rfl⟩ := Prod.mk.inj (hv5.symm.trans e5)
         obtain ⟨rfl, rfl⟩ := Prod.mk.inj (hv6.symm.trans e6)
         clear hv1 hv2 hv3 hv4 hv5 hv6 e3 e4 e5 e6
         rcases b1 with _ | _
         · rcases b2 with _ | _
           · replace hA : Sl a 135 [(0, .slice sv l.length cv), (1, .agg (ta.d.cells ta.ts.length).toArray), (2, .agg (tb.d.cells tb.ts.length).toArray), (4, .pointer (some ⟨g2, 0, none⟩)), (5, .pointer (some ⟨g4, 0, none⟩)), (6, .bool false), (7, .bool false), (8, .int .i64 0), (9, .bool false), (10, .int .i64 0), (11, .pointer (some ⟨g27, 0, none⟩)), (12, .pointer (some ⟨g44, 0, none⟩)), (13, .pointer (some ⟨g61, 0, none⟩)), (14, .pointer (some ⟨gR, 0, none⟩)), (15, .bool false), (16, .int .i64 0), (17, .bool false), (18, .int .i64 0), (19, .bool true), (20, .int .i64 0), (21, .bool true), (22, .int .i64 0)] := hA.keep _ (by repeat' constructor)
             refine qa (v := .int .i64 0) hA rfl rfl rfl (qe rfl) ?_
             intro a hA
             refine qa (v := .bool true) hA rfl rfl rfl (qg rfl rfl (fun w => by kernel_rfl)) ?_
             intro a hA
             refine qa hA rfl rfl rfl (qe rfl) ?_
             intro a hA
             refine qa hA rfl rfl rfl (qe rfl) ?_
             intro a hA
             refine qa (v := .bool true) hA rfl rfl rfl (qg rfl rfl (fun w => by kernel_rfl)) ?_
             intro a hA
             refine qa (v := .bool true) hA rfl rfl rfl (qi rfl rfl rfl rfl) ?_
             intro a hA
             refine qa hA rfl rfl rfl (qe rfl) ?_
             intro a hA
             refine qa hA rfl rfl rfl (qe rfl) ?_
             intro a hA
             refine qa (v := .bool true) hA rfl rfl rfl (qg rfl rfl (fun w => by kernel_rfl)) ?_
             intro a hA
             refine qa (v := .bool true) hA rfl rfl rfl (qi rfl rfl rfl rfl) ?_
             intro a hA
             refine qa hA rfl rfl rfl (qe rfl) ?_
             intro a hA
             refine qa hA rfl rfl rfl (qe rfl) ?_
             intro a hA
             refine qa (v := .bool true) hA rfl rfl rfl (qg rfl rfl (fun w => by kernel_rfl)) ?_
             intro a hA
             refine qa (v := .bool true) hA rfl rfl rfl (qi rfl rfl rfl rfl) ?_
             intro a hA
             refine qa hA rfl rfl rfl (qe rfl) ?_
             intro a hA
             refine qa hA rfl rfl rfl (qe rfl) ?_
             intro a hA
             refine qa hA rfl rfl rfl (qe rfl) ?_
             intro a hA
             refine qa hA rfl rfl rfl (qe rfl) ?_
             intro a hA
             refine qj hA rfl rfl rfl ?_
             intro a hA
             refine qa (v := .bool false) hA rfl rfl rfl (qi rfl rfl rfl rfl) ?_
             intro a hA
             refine qa (v := .bool true) hA rfl rfl rfl (qg rfl rfl (fun w => by kernel_rfl)) ?_
             intro a hA
             refine qa (v := .bool true) hA rfl rfl rfl (qi rfl rfl rfl rfl) ?_
             intro a hA
             refine qa hA rfl rfl rfl (qe rfl) ?_
             intro a hA
             refine qa hA rfl rfl rfl (qe rfl) ?_
             intro a hA
             refine qa hA rfl rfl rfl (qe rfl) ?_
             intro a hA
             refine qa hA rfl rfl rfl (qe rfl) ?_
             intro a hA
             refine qa hA rfl rfl rfl (qe rfl) ?_
             intro a hA
             refine qa (v := .bool false) hA rfl rfl rfl (qi rfl rfl rfl rfl) ?_
             intro a hA
             refine qa (v := .bool true) hA rfl rfl rfl (qg rfl rfl (fun w => by kernel_rfl)) ?_
             intro a hA
             refine qa (v := .bool true) hA rfl rfl rfl (qi rfl rfl rfl rfl) ?_
             intro a hA
             refine qa hA rfl rfl rfl (qe rfl) ?_
             intro a hA
             refine qa hA rfl rfl rfl (qe rfl) ?_
             intro a hA
             refine qa hA rfl rfl rfl (qe rfl) ?_
             intro a hA
             refine qa (v := .bool true) hA rfl rfl rfl (qg rfl rfl (fun w => by kernel_rfl)) ?_
             intro a hA
             refine qa (v := .bool true) hA rfl rfl rfl (qi rfl rfl rfl rfl) ?_
             intro a hA
             refine qa hA rfl rfl rfl (qe rfl) ?_
             intro a hA
             refine qa hA rfl rfl rfl (qe rfl) ?_
             intro a hA
             refine qa hA rfl rfl rfl (qe rfl) ?_
             intro a hA
             refine qa (v := .bool true) hA rfl rfl rfl (qz rfl zg) ?_
             intro a hA
             refine qa (v := .bool true) hA rfl rfl rfl (qg rfl rfl (fun w => by kernel_rfl)) ?_
             intro a hA
             refine qa (v := .bool true) hA rfl rfl rfl (qi rfl rfl rfl rfl) ?_
             intro a hA
             refine qa hA rfl rfl rfl (qb rfl) ?_
             intro a hA
             refine qf ?_
             refine hK103 _ _ ?_
             refine wp_ret ?_
             refine hret _ _ ?_
             refine ze (v := .bool true) hA rfl (.cons (ql rfl) .nil) rfl ?_
             exact ⟨rfl, hM.bel⟩
           · replace hA : Sl a 135 [(0, .slice sv l.length cv), (1, .agg (ta.d.cells ta.ts.length).toArray), (2, .agg (tb.d.cells tb.ts.length).toArray), (4, .pointer (some ⟨g2, 0, none⟩)), (5, .pointer (some ⟨g4, 0, none⟩)), (6, .bool false), (7, .bool false), (8, .int .i64 0), (9, .bool true), (10, .int .i64 0), (11, .pointer (some ⟨g27, 0, none⟩)), (12, .pointer (some ⟨g44, 0, none⟩)), (13, .pointer (some ⟨g61, 0, none⟩)), (14, .pointer (some ⟨gR, 0, none⟩)), (15, .bool false), (16, .int .i64 0), (17, .bool true), (18, .int .i64 0), (19, .bool false), (20, .int .i64 0), (21, .bool false), (22, .int .i64 0)] := hA.keep _ (by repeat' constructor)
             refine qa (v := .int .i64 0) hA rfl rfl rfl (qe rfl) ?_
             intro a hA
             refine qa (v := .bool true) hA rfl rfl rfl (qg rfl rfl (fun w => by kernel_rfl)) ?_
             intro a hA
             refine qa hA rfl rfl rfl (qe rfl) ?_
             intro a hA
             refine qa hA rfl rfl rfl (qe rfl) ?_
             intro a hA
             refine qa (v := .bool true) hA rfl rfl rfl (qg rfl rfl (fun w => by kernel_rfl)) ?_
             intro a hA
             refine qa (v := .bool true) hA rfl rfl rfl (qi rfl rfl rfl rfl) ?_
             intro a hA
             refine qa hA rfl rfl rfl (qe rfl) ?_
             intro a hA
             refine qa hA rfl rfl rfl (qe rfl) ?_
             intro a hA
             refine qa (v := .bool true) hA rfl rfl rfl (qg rfl rfl (fun w => by kernel_rfl)) ?_
             intro a hA
             refine qa (v := .bool true) hA rfl rfl rfl (qi rfl rfl rfl rfl) ?_
             intro a hA
             refine qa hA rfl rfl rfl (qe rfl) ?_
             intro a hA
             refine qa hA rfl rfl rfl (qe rfl) ?_
             intro a hA
             refine qa (v := .bool true) hA rfl rfl rfl (qg rfl rfl (fun w => by kernel_rfl)) ?_
             intro a hA
             refine qa (v := .bool true) hA rfl rfl rfl (qi rfl rfl rfl rfl) ?_
             intro a hA
             refine qa hA rfl rfl rfl (qe rfl) ?_
             intro a hA
             refine qa hA rfl rfl rfl (qe rfl) ?_
             intro a hA
             refine qa hA rfl rfl rfl (qe rfl) ?_
             intro a hA
             refine qa hA rfl rfl rfl (qe rfl) ?_
             intro a hA
             refine qj hA rfl rfl rfl ?_
             intro a hA
             refine qa (v := .bool false) hA rfl rfl rfl (qi rfl rfl rfl rfl) ?_
             intro a hA
             refine qa (v := .bool true) hA rfl rfl rfl (qg rfl rfl (fun w => by kernel_rfl)) ?_
             intro a hA
             refine qa (v := .bool true) hA rfl rfl rfl (qi rfl rfl rfl rfl) ?_
             intro a hA
             refine qa hA rfl rfl rfl (qe rfl) ?_
             intro a hA
             refine qa hA rfl rfl rfl (qe rfl) ?_
             intro a hA
             refine qa hA rfl rfl rfl (qe rfl) ?_
             intro a hA
             refine qa hA rfl rfl rfl (qe rfl) ?_
             intro a hA
             refine qa hA rfl rfl rfl (qe rfl) ?_
             intro a hA
             refine qa (v := .bool true) hA rfl rfl rfl (qi rfl rfl rfl rfl) ?_
             intro a hA
             refine qa (v := .bool true) hA rfl rfl rfl (qg rfl rfl (fun w => by kernel_rfl)) ?_
             intro a hA
             refine qa (v := .bool true) hA rfl rfl rfl (qi rfl rfl rfl rfl) ?_
             intro a hA
             refine qa hA rfl rfl rfl (qe rfl) ?_
             intro a hA
             refine qa hA rfl rfl rfl (qe rfl) ?_
             intro a hA
             refine qa hA rfl rfl rfl (qe rfl) ?_
             intro a hA
             refine qa (v := .bool true) hA rfl rfl rfl (qg rfl rfl (fun w => by kernel_rfl)) ?_
             intro a hA
             refine qa (v := .bool true) hA rfl rfl rfl (qi rfl rfl rfl rfl) ?_
             intro a hA
             refine qa hA rfl rfl rfl (qe rfl) ?_
             intro a hA
             refine qa hA rfl rfl rfl (qe rfl) ?_
             intro a hA
             refine qa hA rfl rfl rfl (qe rfl) ?_
             intro a hA
             refine qa (v := .bool false) hA rfl rfl rfl (qz rfl zg) ?_
             intro a hA
             refine qa (v := .bool true) hA rfl rfl rfl (qg rfl rfl (fun w => by kernel_rfl)) ?_
             intro a hA
             refine qa (v := .bool true) hA rfl rfl rfl (qi rfl rfl rfl rfl) ?_
             intro a hA
             refine qa hA rfl rfl rfl (qb rfl) ?_
             intro a hA
             refine qf ?_
             refine hK103 _ _ ?_
             refine wp_ret ?_
             refine hret _ _ ?_
             refine ze (v := .bool true) hA rfl (.cons (ql rfl) .nil) rfl ?_
             exact ⟨rfl, hM.bel⟩
         · rcases b2 with _ | _
           · replace hA : Sl a 135 [(0, .slice sv l.length cv), (1, .agg (ta.d.cells ta.ts.length).toArray), (2, .agg (tb.d.cells tb.ts.length).toArray), (4, .pointer (some ⟨g2, 0, none⟩)), (5, .pointer (some ⟨g4, 0, none⟩)), (6, .bool false), (7, .bool true), (8, .int .i64 0), (9, .bool false), (10, .int .i64 0), (11, .pointer (some ⟨g27, 0, none⟩)), (12, .pointer (some ⟨g44, 0, none⟩)), (13, .pointer (some ⟨g61, 0, none⟩)), (14, .pointer (some ⟨gR, 0, none⟩)), (15, .bool false), (16, .int .i64 0), (17, .bool true), (18, .int .i64 0), (19, .bool false), (20, .int .i64 0), (21, .bool false), (22, .int .i64 0)] := hA.keep _ (by repeat' constructor)
             refine qa (v := .int .i64 0) hA rfl rfl rfl (qe rfl) ?_
             intro a hA
             refine qa (v := .bool true) hA rfl rfl rfl (qg rfl rfl (fun w => by kernel_rfl)) ?_
             intro a hA
             refine qa hA rfl rfl rfl (qe rfl) ?_
             intro a hA
             refine qa hA rfl rfl rfl (qe rfl) ?_
             intro a hA
             refine qa (v := .bool true) hA rfl rfl rfl (qg rfl rfl (fun w => by kernel_rfl)) ?_
             intro a hA
             refine qa (v := .bool true) hA rfl rfl rfl (qi rfl rfl rfl rfl) ?_
             intro a hA
             refine qa hA rfl rfl rfl (qe rfl) ?_
             intro a hA
             refine qa hA rfl rfl rfl (qe rfl) ?_
             intro a hA
             refine qa (v := .bool true) hA rfl rfl rfl (qg rfl rfl (fun w => by kernel_rfl)) ?_
             intro a hA
             refine qa (v := .bool true) hA rfl rfl rfl (qi rfl rfl rfl rfl) ?_
             intro a hA
             refine qa hA rfl rfl rfl (qe rfl) ?_
             intro a hA
             refine qa hA rfl rfl rfl (qe rfl) ?_
             intro a hA
             refine qa (v := .bool true) hA rfl rfl rfl (qg rfl rfl (fun w => by kernel_rfl)) ?_
             intro a hA
             refine qa (v := .bool true) hA rfl rfl rfl (qi rfl rfl rfl rfl) ?_
             intro a hA
             refine qa hA rfl rfl rfl (qe rfl) ?_
             intro a hA
             refine qa hA rfl rfl rfl (qe rfl) ?_
             intro a hA
             refine qa hA rfl rfl rfl (qe rfl) ?_
             intro a hA
             refine qa hA rfl rfl rfl (qe rfl) ?_
             intro a hA
             refine qa hA rfl rfl rfl (qe rfl) ?_
             intro a hA
             refine qa (v := .bool false) hA rfl rfl rfl (qi rfl rfl rfl rfl) ?_
             intro a hA
             refine qa (v := .bool true) hA rfl rfl rfl (qg rfl rfl (fun w => by kernel_rfl)) ?_
             intro a hA
             refine qa (v := .bool true) hA rfl rfl rfl (qi rfl rfl rfl rfl) ?_
             intro a hA
             refine qa hA rfl rfl rfl (qe rfl) ?_
             intro a hA
             refine qa hA rfl rfl rfl (qe rfl) ?_
             intro a hA
             refine qa hA rfl rfl rfl (qe rfl) ?_
             intro a hA
             refine qa hA rfl rfl rfl (qe rfl) ?_
             intro a hA
             refine qj hA rfl rfl rfl ?_
             intro a hA
             refine qa (v := .bool true) hA rfl rfl rfl (qi rfl rfl rfl rfl) ?_
             intro a hA
             refine qa (v := .bool true) hA rfl rfl rfl (qg rfl rfl (fun w => by kernel_rfl)) ?_
             intro a hA
             refine qa (v := .bool true) hA rfl rfl rfl (qi rfl rfl rfl rfl) ?_
             intro a hA
             refine qa hA rfl rfl rfl (qe rfl) ?_
             intro a hA
             refine qa hA rfl rfl rfl (qe rfl) ?_
             intro a hA
             refine qa hA rfl rfl rfl (qe rfl) ?_
             intro a hA
             refine qa (v := .bool true) hA rfl rfl rfl (qg rfl rfl (fun w => by kernel_rfl)) ?_
             intro a hA
             refine qa (v := .bool true) hA rfl rfl rfl (qi rfl rfl rfl rfl) ?_
             intro a hA
             refine qa hA rfl rfl rfl (qe rfl) ?_
             intro a hA
             refine qa hA rfl rfl rfl (qe rfl) ?_
             intro a hA
             refine qa hA rfl rfl rfl (qe rfl) ?_
             intro a hA
             refine qa (v := .bool false) hA rfl rfl rfl (qz rfl zg) ?_
             intro a hA
             refine qa (v := .bool true) hA rfl rfl rfl (qg rfl rfl (fun w => by kernel_rfl)) ?_
             intro a hA
             refine qa (v := .bool true) hA rfl rfl rfl (qi rfl rfl rfl rfl) ?_
             intro a hA
             refine qa hA rfl rfl rfl (qb rfl) ?_
             intro a hA
             refine qf ?_
             refine hK103 _ _ ?_
             refine wp_ret ?_
             refine hret _ _ ?_
             refine ze (v := .bool true) hA rfl (.cons (ql rfl) .nil) rfl ?_
             exact ⟨rfl, hM.bel⟩
           · replace hA : Sl a 135 [(0, .slice sv l.length cv), (1, .agg (ta.d.cells ta.ts.length).toArray), (2, .agg (tb.d.cells tb.ts.length).toArray), (4, .pointer (some ⟨g2, 0, none⟩)), (5, .pointer (some ⟨g4, 0, none⟩)), (6, .bool false), (7, .bool true), (8, .int .i64 0), (9, .bool true), (10, .int .i64 0), (11, .pointer (some ⟨g27, 0, none⟩)), (12, .pointer (some ⟨g44, 0, none⟩)), (13, .pointer (some ⟨g61, 0, none⟩)), (14, .pointer (some ⟨gR, 0, none⟩)), (15, .bool true), (16, .int .i64 0), (17, .bool true), (18, .int .i64 0), (19, .bool false), (20, .int .i64 0), (21, .bool false), (22, .int .i64 0)] := hA.keep _ (by repeat' constructor)
             refine qa (v := .int .i64 0) hA rfl rfl rfl (qe rfl) ?_
             intro a hA
             refine qa (v := .bool true) hA rfl rfl rfl (qg rfl rfl (fun w => by kernel_rfl)) ?_
             intro a hA
             refine qa hA rfl rfl rfl (qe rfl) ?_
             intro a hA
             refine qa hA rfl rfl rfl (qe rfl) ?_
             intro a hA
             refine qa (v := .bool true) hA rfl rfl rfl (qg rfl rfl (fun w => by kernel_rfl)) ?_
             intro a hA
             refine qa (v := .bool true) hA rfl rfl rfl (qi rfl rfl rfl rfl) ?_
             intro a hA
             refine qa hA rfl rfl rfl (qe rfl) ?_
             intro a hA
             refine qa hA rfl rfl rfl (qe rfl) ?_
             intro a hA
             refine qa (v := .bool true) hA rfl rfl rfl (qg rfl rfl (fun w => by kernel_rfl)) ?_
             intro a hA
             refine qa (v := .bool true) hA rfl rfl rfl (qi rfl rfl rfl rfl) ?_
             intro a hA
             refine qa hA rfl rfl rfl (qe rfl) ?_
             intro a hA
             refine qa hA rfl rfl rfl (qe rfl) ?_
             intro a hA
             refine qa (v := .bool true) hA rfl rfl rfl (qg rfl rfl (fun w => by kernel_rfl)) ?_
             intro a hA
             refine qa (v := .bool true) hA rfl rfl rfl (qi rfl rfl rfl rfl) ?_
             intro a hA
             refine qa hA rfl rfl rfl (qe rfl) ?_
             intro a hA
             refine qa hA rfl rfl rfl (qe rfl) ?_
             intro a hA
             refine qa hA rfl rfl rfl (qe rfl) ?_
             intro a hA
             refine qa hA rfl rfl rfl (qe rfl) ?_
             intro a hA
             refine qa hA rfl rfl rfl (qe rfl) ?_
             intro a hA
             refine qa (v := .bool true) hA rfl rfl rfl (qi rfl rfl rfl rfl) ?_
             intro a hA
             refine qa (v := .bool true) hA rfl rfl rfl (qg rfl rfl (fun w => by kernel_rfl)) ?_
             intro a hA
             refine qa (v := .bool true) hA rfl rfl rfl (qi rfl rfl rfl rfl) ?_
             intro a hA
             refine qa hA rfl rfl rfl (qe rfl) ?_
             intro a hA
             refine qa hA rfl rfl rfl (qe rfl) ?_
             intro a hA
             refine qa hA rfl rfl rfl (qe rfl) ?_
             intro a hA
             refine qa hA rfl rfl rfl (qe rfl) ?_
             intro a hA
             refine qj hA rfl rfl rfl ?_
             intro a hA
             refine qa (v := .bool true) hA rfl rfl rfl (qi rfl rfl rfl rfl) ?_
             intro a hA
             refine qa (v := .bool true) hA rfl rfl rfl (qg rfl rfl (fun w => by kernel_rfl)) ?_
             intro a hA
             refine qa (v := .bool true) hA rfl rfl rfl (qi rfl rfl rfl rfl) ?_
             intro a hA
             refine qa hA rfl rfl rfl (qe rfl) ?_
             intro a hA
             refine qa hA rfl rfl rfl (qe rfl) ?_
             intro a hA
             refine qa hA rfl rfl rfl (qe rfl) ?_
             intro a hA
             refine qa (v := .bool true) hA rfl rfl rfl (qg rfl rfl (fun w => by kernel_rfl)) ?_
             intro a hA
             refine qa (v := .bool true) hA rfl rfl rfl (qi rfl rfl rfl rfl) ?_
             intro a hA
             refine qa hA rfl rfl rfl (qe rfl) ?_
             intro a hA
             refine qa hA rfl rfl rfl (qe rfl) ?_
             intro a hA
             refine qa hA rfl rfl rfl (qe rfl) ?_
             intro a hA
             refine qa (v := .bool false) hA rfl rfl rfl (qz rfl zg) ?_
             intro a hA
             refine qa (v := .bool true) hA rfl rfl rfl (qg rfl rfl (fun w => by kernel_rfl)) ?_
             intro a hA
             refine qa (v := .bool true) hA rfl rfl rfl (qi rfl rfl rfl rfl) ?_
             intro a hA
             refine qa hA rfl rfl rfl (qb rfl) ?_
             intro a hA
             refine qf ?_
             refine hK103 _ _ ?_
             refine wp_ret ?_
             refine hret _ _ ?_
             refine ze (v := .bool true) hA rfl (.cons (ql rfl) .nil) rfl ?_
             exact ⟨rfl, hM.bel⟩
       · refine qm hA rfl rfl rfl (qh rfl rfl (fun w => by kernel_rfl)) ((hb85 ▸ rsound_any (t := zr) (hLr.2 _ hM.bel (hM.ob (List.Subset.refl _))) (by omega))) ?_
         rintro _ w105 ⟨rfl, hb104⟩
         replace hM := hM.call hb104
         refine ⟨_, rfl, ?_⟩
         intro a hA
         refine qa (v := .bool true) hA rfl rfl rfl (qz rfl zg) ?_
         intro a hA
         refine qa (v := .bool true) hA rfl rfl rfl (qi rfl rfl rfl rfl) ?_
         intro a hA
         refine qf ?_
         refine hK71 _ _ ?_
         refine wp_cond_true (hA.ev rfl) ?_
         refine wp_seq_k (fun K106 hK106 => ?_)
         refine wp_region_lit ?_
         refine qm hA rfl rfl rfl (qh rfl rfl (fun w => by kernel_rfl)) (qai) ?_
         rintro _ w108 ⟨rfl, hb107⟩
         replace hM := hM.call hb107
         refine ⟨_, rfl, ?_⟩
         intro a hA
         refine qa hA rfl rfl rfl (qb rfl) ?_
         intro a hA
         refine qf ?_
         refine hK106 _ _ ?_
         refine wp_ret ?_
         refine hret _ _ ?_
         refine ze (v := .bool true) hA rfl (.cons (ql rfl) .nil) rfl ?_
         exact ⟨rfl, hM.bel⟩
 refine vd (S := fun w1 => Mg w w1 (L65)) (by kernel_rfl) ?_
 replace hM := hM.drew
 refine zf (v := .agg (ta.d.cells ta.ts.length).toArray) hA 0 rfl rfl rfl rfl hP (hM.sub (List.Sublist.refl _)) (fun w1 hM => vi hM hm10 JcK_isS_31 rfl rfl) ?_
 intro a hA
 refine zf (v := .agg (tb.d.cells tb.ts.length).toArray) hA 3 rfl rfl rfl rfl hP (hM.sub (List.Sublist.refl _)) (fun w1 hM => vi hM hm9 JcK_isS_31 rfl rfl) ?_
 intro a hA
 refine js (rs := [1, 4, 8]) (by kernel_rfl) (by simp) ⟨?_, ?_, ?_, trivial⟩
 · refine jk (e := 31) (sz := 11) (m := 1) (vs := cellsOf [ta]) hA hM 1 rfl rfl rfl rfl (qx rfl (by kernel_rfl)) rfl rfl (by decide) ?_
   intro g109 w110 hM _ _
   refine ⟨(hM.sub (cN (List.Sublist.refl _))), ?_⟩
   intro a hA
   refine js (rs := [2, 4, 8]) (by kernel_rfl) (by simp) ⟨?_, ?_, ?_, trivial⟩
   · refine zn hA 2 rfl rfl rfl rfl (qh rfl rfl (fun w => by kernel_rfl)) (zv (s := xq) (ts := [ta]) [] hM (qp qw) hnL (kp hLa) (Nat.le_of_ble_eq_true rfl) (Nat.le_of_ble_eq_true rfl)) ?_
     rintro _ w118 ⟨z111, L112, rfl, ⟨ht114, hL115, hs116, hnL2⟩, hM117⟩
     replace hnL := hnL2
     clear hnL2
     replace hLa := hLa.sub hs116.subset
     replace hLb := hLb.sub hs116.subset
     have hq := hs116
     replace hM : Mg w w118 (L112) := hM117
     refine ⟨_, rfl, (hM.sub hq), ?_⟩
     intro a hA
     refine js (rs := [4, 8]) (by kernel_rfl) (by simp) ⟨?_, ?_, trivial⟩
     · refine jk (e := 31) (sz := 11) (m := 1) (vs := cellsOf [tb]) hA hM 4 rfl rfl rfl rfl (qx rfl (by kernel_rfl)) rfl rfl (by decide) ?_
       intro g119 w120 hM _ _
       refine ⟨(hM.sub (.cons _ hq)), ?_⟩
       intro a hA
       refine js (rs := [5, 8]) (by kernel_rfl) (by simp) ⟨?_, ?_, trivial⟩
       · refine zn hA 5 rfl rfl rfl rfl (qh rfl rfl (fun w => by kernel_rfl)) (zv (s := xq) (ts := [tb]) [] hM (qp qw) hnL (kp hLb) (Nat.le_of_ble_eq_true rfl) (Nat.le_of_ble_eq_true rfl)) ?_
         rintro _ w128 ⟨z121, L122, rfl, ⟨ht124, hL125, hs126, hnL2⟩, hM127⟩
         replace hnL := hnL2
         clear hnL2
         replace hLa := hLa.sub hs126.subset
         replace hLb := hLb.sub hs126.subset
         replace hL115 := hL115.sub hs126.subset
         replace hq := hq.trans hs126
         replace hM : Mg w w128 (L122) := hM127
         refine ⟨_, rfl, (hM.sub hq), ?_⟩
         intro a hA
         refine js (rs := [6, 8]) (by kernel_rfl) (by simp) ⟨?_, ?_, trivial⟩
         · refine jk (e := 31) (sz := 11) (m := 2) (vs := cellsOf [z111, z121]) hA hM 6 rfl rfl rfl rfl (qx rfl (by kernel_rfl)) rfl rfl (by decide) ?_
           intro g129 w130 hM _ _
           refine ⟨(hM.sub (.cons _ hq)), ?_⟩
           intro a hA
           refine js (rs := [7, 8]) (by kernel_rfl) (by simp) ⟨?_, ?_, trivial⟩
           · refine zn hA 7 rfl rfl rfl rfl (qh rfl rfl (fun w => by kernel_rfl)) (zv (s := xy) (ts := [z111, z121]) [] hM (qp qw) hnL (yt hL115 hL125) (Nat.le_of_ble_eq_true rfl) (Nat.le_of_ble_eq_true rfl)) ?_
             rintro _ w138 ⟨z131, L132, rfl, ⟨ht134, hL135, hs136, hnL2⟩, hM137⟩
             replace hnL := hnL2
             clear hnL2
             replace hLa := hLa.sub hs136.subset
             replace hLb := hLb.sub hs136.subset
             replace hL115 := hL115.sub hs136.subset
             replace hL125 := hL125.sub hs136.subset
             replace hq := hq.trans hs136
             replace hM : Mg w w138 (L132) := hM137
             refine ⟨_, rfl, (hM.sub hq), ?_⟩
             intro a hA
             refine qy (by kernel_rfl) (kj (vs := [.int .i64 0, .int .i64 0, .bool false, .slice none 0 0, .slice none 0 0, .bool false, .slice none 0 0, .slice none 0 0, .string (⟨#[]⟩), .slice none 0 0, .slice none 0 0]) (t := 31) hA hM 8 rfl rfl rfl rfl (fun g => .pointer (some ⟨g, 0, none⟩)) (zd (z := .agg (qt.d.cells qt.ts.length).toArray) (by kernel_rfl) rfl) (by decide) ?_)
             intro g139 w140 hM
             refine ⟨(hM.sub (.cons _ hq)), ?_⟩
             intro a hA
             refine qy (by kernel_rfl) (jz (us := (z131.d.cells z131.ts.length)) (L' := (.obj g139 (.cells (z131.d.cells z131.ts.length).toArray 31) :: L132)) hA hM 9 rfl rfl rfl (zh rfl rfl rfl (by kernel_rfl) hM 0 rfl rfl rfl) 0 rfl rfl rfl ?_)
             intro w141 hM
             refine ⟨(hM.sub (.cons _ hq)), ?_⟩
             refine zw (by kernel_rfl) ?_
             exact hJ68 _ _ ⟨z131, g139, L132, hL135, (by rw [ht134, List.map_cons, List.map_cons, List.map_nil, ht114, ht124]; rfl), hnL, hq, hA.keep _ (by repeat' constructor), hM⟩
           · refine kj (vs := [.int .i64 0, .int .i64 0, .bool false, .slice none 0 0, .slice none 0 0, .bool false, .slice none 0 0, .slice none 0 0, .string (⟨#[]⟩), .slice none 0 0, .slice none 0 0]) (t := 31) hA hM 8 rfl rfl rfl rfl (fun g => .pointer (some ⟨g, 0, none⟩)) (zd (z := .agg (qt.d.cells qt.ts.length).toArray) (by kernel_rfl) rfl) (by decide) ?_
             intro g142 w143 hM
             refine ⟨(hM.sub (.cons _ (.cons _ hq))), ?_⟩
             intro a hA
             replace hM : Mg w w143 (.row 31 11 (.slice (some ⟨g129, 0, none⟩) 2 2) 2 (cellsOf [z111, z121]) :: .obj g142 (.cells (qt.d.cells qt.ts.length).toArray 31) :: L122) := hM.bringJ 1 rfl rfl
             refine qy (by kernel_rfl) (zn hA 7 rfl rfl rfl rfl (qh rfl rfl (fun w => by kernel_rfl)) (zv (s := xy) (ts := [z111, z121]) [.obj g142 (.cells (qt.d.cells qt.ts.length).toArray 31)] hM (qr (by simp) (qp qw)) hnL (yt hL115 hL125) (Nat.le_of_ble_eq_true rfl) (Nat.le_of_ble_eq_true rfl)) ?_)
             rintro _ w151 ⟨z144, L145, rfl, ⟨ht147, hL148, hs149, hnL2⟩, hM150⟩
             replace hnL := hnL2
             clear hnL2
             replace hLa := hLa.sub hs149.subset
             replace hLb := hLb.sub hs149.subset
             replace hL115 := hL115.sub hs149.subset
             replace hL125 := hL125.sub hs149.subset
             replace hq := hq.trans hs149
             replace hM : Mg w w151 (.obj g142 (.cells (qt.d.cells qt.ts.length).toArray 31) :: L145) := hM150
             refine ⟨_, rfl, (hM.sub (.cons _ hq)), ?_⟩
             intro a hA
             refine qy (by kernel_rfl) (jz (us := (z144.d.cells z144.ts.length)) (L' := (.obj g142 (.cells (z144.d.cells z144.ts.length).toArray 31) :: L145)) hA hM 9 rfl rfl rfl (zh rfl rfl rfl (by kernel_rfl) hM 0 rfl rfl rfl) 0 rfl rfl rfl ?_)
             intro w152 hM
             refine ⟨(hM.sub (.cons _ hq)), ?_⟩
             refine zw (by kernel_rfl) ?_
             exact hJ68 _ _ ⟨z144, g142, L145, hL148, (by rw [ht147, List.map_cons, List.map_cons, List.map_nil, ht114, ht124]; rfl), hnL, hq, hA.keep _ (by repeat' constructor), hM⟩
         · refine kj (vs := [.int .i64 0, .int .i64 0, .bool false, .slice none 0 0, .slice none 0 0, .bool false, .slice none 0 0, .slice none 0 0, .string (⟨#[]⟩), .slice none 0 0, .slice none 0 0]) (t := 31) hA hM 8 rfl rfl rfl rfl (fun g => .pointer (some ⟨g, 0, none⟩)) (zd (z := .agg (qt.d.cells qt.ts.length).toArray) (by kernel_rfl) rfl) (by decide) ?_
           intro g153 w154 hM
           refine ⟨(hM.sub (.cons _ hq)), ?_⟩
           intro a hA
           refine qy (by kernel_rfl) (jk (e := 31) (sz := 11) (m := 2) (vs := cellsOf [z111, z121]) hA hM 6 rfl rfl rfl rfl (qx rfl (by kernel_rfl)) rfl rfl (by decide) ?_)
           intro g155 w156 hM _ _
           refine ⟨(hM.sub (.cons _ (.cons _ hq))), ?_⟩
           intro a hA
           refine qy (by kernel_rfl) (zn hA 7 rfl rfl rfl rfl (qh rfl rfl (fun w => by kernel_rfl)) (zv (s := xy) (ts := [z111, z121]) [.obj g153 (.cells (qt.d.cells qt.ts.length).toArray 31)] hM (qr (by simp) (qp qw)) hnL (yt hL115 hL125) (Nat.le_of_ble_eq_true rfl) (Nat.le_of_ble_eq_true rfl)) ?_)
           rintro _ w164 ⟨z157, L158, rfl, ⟨ht160, hL161, hs162, hnL2⟩, hM163⟩
           replace hnL := hnL2
           clear hnL2
           replace hLa := hLa.sub hs162.subset
           replace hLb := hLb.sub hs162.subset
           replace hL115 := hL115.sub hs162.subset
           replace hL125 := hL125.sub hs162.subset
           replace hq := hq.trans hs162
           replace hM : Mg w w164 (.obj g153 (.cells (qt.d.cells qt.ts.length).toArray 31) :: L158) := hM163
           refine ⟨_, rfl, (hM.sub (.cons _ hq)), ?_⟩
           intro a hA
           refine qy (by kernel_rfl) (jz (us := (z157.d.cells z157.ts.length)) (L' := (.obj g153 (.cells (z157.d.cells z157.ts.length).toArray 31) :: L158)) hA hM 9 rfl rfl rfl (zh rfl rfl rfl (by kernel_rfl) hM 0 rfl rfl rfl) 0 rfl rfl rfl ?_)
           intro w165 hM
           refine ⟨(hM.sub (.cons _ hq)), ?_⟩
           refine zw (by kernel_rfl) ?_
           exact hJ68 _ _ ⟨z157, g153, L158, hL161, (by rw [ht160, List.map_cons, List.map_cons, List.map_nil, ht114, ht124]; rfl), hnL, hq, hA.keep _ (by repeat' constructor), hM⟩
       · refine kj (vs := [.int .i64 0, .int .i64 0, .bool false, .slice none 0 0, .slice none 0 0, .bool false, .slice none 0 0, .slice none 0 0, .string (⟨#[]⟩), .slice none 0 0, .slice none 0 0]) (t := 31) hA hM 8 rfl rfl rfl rfl (fun g => .pointer (some ⟨g, 0, none⟩)) (zd (z := .agg (qt.d.cells qt.ts.length).toArray) (by kernel_rfl) rfl) (by decide) ?_
         intro g166 w167 hM
         refine ⟨(hM.sub (.cons _ (.cons _ hq))), ?_⟩
         intro a hA
         replace hM : Mg w w167 (.row 31 11 (.slice (some ⟨g119, 0, none⟩) 1 1) 1 (cellsOf [tb]) :: .obj g166 (.cells (qt.d.cells qt.ts.length).toArray 31) :: L112) := hM.bringJ 1 rfl rfl
         refine qy (by kernel_rfl) (zn hA 5 rfl rfl rfl rfl (qh rfl rfl (fun w => by kernel_rfl)) (zv (s := xq) (ts := [tb]) [.obj g166 (.cells (qt.d.cells qt.ts.length).toArray 31)] hM (qr (by simp) (qp qw)) hnL (kp hLb) (Nat.le_of_ble_eq_true rfl) (Nat.le_of_ble_eq_true rfl)) ?_)
         rintro _ w175 ⟨z168, L169, rfl, ⟨ht171, hL172, hs173, hnL2⟩, hM174⟩
         replace hnL := hnL2
         clear hnL2
         replace hLa := hLa.sub hs173.subset
         replace hLb := hLb.sub hs173.subset
         replace hL115 := hL115.sub hs173.subset
         replace hq := hq.trans hs173
         replace hM : Mg w w175 (.obj g166 (.cells (qt.d.cells qt.ts.length).toArray 31) :: L169) := hM174
         refine ⟨_, rfl, (hM.sub (.cons _ hq)), ?_⟩
         intro a hA
         refine qy (by kernel_rfl) (jk (e := 31) (sz := 11) (m := 2) (vs := cellsOf [z111, z168]) hA hM 6 rfl rfl rfl rfl (qx rfl (by kernel_rfl)) rfl rfl (by decide) ?_)
         intro g176 w177 hM _ _
         refine ⟨(hM.sub (.cons _ (.cons _ hq))), ?_⟩
         intro a hA
         refine qy (by kernel_rfl) (zn hA 7 rfl rfl rfl rfl (qh rfl rfl (fun w => by kernel_rfl)) (zv (s := xy) (ts := [z111, z168]) [.obj g166 (.cells (qt.d.cells qt.ts.length).toArray 31)] hM (qr (by simp) (qp qw)) hnL (yt hL115 hL172) (Nat.le_of_ble_eq_true rfl) (Nat.le_of_ble_eq_true rfl)) ?_)
         rintro _ w185 ⟨z178, L179, rfl, ⟨ht181, hL182, hs183, hnL2⟩, hM184⟩
         replace hnL := hnL2
         clear hnL2
         replace hLa := hLa.sub hs183.subset
         replace hLb := hLb.sub hs183.subset
         replace hL115 := hL115.sub hs183.subset
         replace hL172 := hL172.sub hs183.subset
         replace hq := hq.trans hs183
         replace hM : Mg w w185 (.obj g166 (.cells (qt.d.cells qt.ts.length).toArray 31) :: L179) := hM184
         refine ⟨_, rfl, (hM.sub (.cons _ hq)), ?_⟩
         intro a hA
         refine qy (by kernel_rfl) (jz (us := (z178.d.cells z178.ts.length)) (L' := (.obj g166 (.cells (z178.d.cells z178.ts.length).toArray 31) :: L179)) hA hM 9 rfl rfl rfl (zh rfl rfl rfl (by kernel_rfl) hM 0 rfl rfl rfl) 0 rfl rfl rfl ?_)
         intro w186 hM
         refine ⟨(hM.sub (.cons _ hq)), ?_⟩
         refine zw (by kernel_rfl) ?_
         exact hJ68 _ _ ⟨z178, g166, L179, hL182, (by rw [ht181, List.map_cons, List.map_cons, List.map_nil, ht114, ht171]; rfl), hnL, hq, hA.keep _ (by repeat' constructor), hM⟩
     · refine kj (vs := [.int .i64 0, .int .i64 0, .bool false, .slice none 0 0, .slice none 0 0, .bool false, .slice none 0 0, .slice none 0 0, .string (⟨#[]⟩), .slice none 0 0, .slice none 0 0]) (t := 31) hA hM 8 rfl rfl rfl rfl (fun g => .pointer (some ⟨g, 0, none⟩)) (zd (z := .agg (qt.d.cells qt.ts.length).toArray) (by kernel_rfl) rfl) (by decide) ?_
       intro g187 w188 hM
       refine ⟨(hM.sub (.cons _ hq)), ?_⟩
       intro a hA
       refine qy (by kernel_rfl) (jk (e := 31) (sz := 11) (m := 1) (vs := cellsOf [tb]) hA hM 4 rfl rfl rfl rfl (qx rfl (by kernel_rfl)) rfl rfl (by decide) ?_)
       intro g189 w190 hM _ _
       refine ⟨(hM.sub (.cons _ (.cons _ hq))), ?_⟩
       intro a hA
       refine qy (by kernel_rfl) (zn hA 5 rfl rfl rfl rfl (qh rfl rfl (fun w => by kernel_rfl)) (zv (s := xq) (ts := [tb]) [.obj g187 (.cells (qt.d.cells qt.ts.length).toArray 31)] hM (qr (by simp) (qp qw)) hnL (kp hLb) (Nat.le_of_ble_eq_true rfl) (Nat.le_of_ble_eq_true rfl)) ?_)
       rintro _ w198 ⟨z191, L192, rfl, ⟨ht194, hL195, hs196, hnL2⟩, hM197⟩
       replace hnL := hnL2
       clear hnL2
       replace hLa := hLa.sub hs196.subset
       replace hLb := hLb.sub hs196.subset
       replace hL115 := hL115.sub hs196.subset
       replace hq := hq.trans hs196
       replace hM : Mg w w198 (.obj g187 (.cells (qt.d.cells qt.ts.length).toArray 31) :: L192) := hM197
       refine ⟨_, rfl, (hM.sub (.cons _ hq)), ?_⟩
       intro a hA
       refine qy (by kernel_rfl) (jk (e := 31) (sz := 11) (m := 2) (vs := cellsOf [z111, z191]) hA hM 6 rfl rfl rfl rfl (qx rfl (by kernel_rfl)) rfl rfl (by decide) ?_)
       intro g199 w200 hM _ _
       refine ⟨(hM.sub (.cons _ (.cons _ hq))), ?_⟩
       intro a hA
       refine qy (by kernel_rfl) (zn hA 7 rfl rfl rfl rfl (qh rfl rfl (fun w => by kernel_rfl)) (zv (s := xy) (ts := [z111, z191]) [.obj g187 (.cells (qt.d.cells qt.ts.length).toArray 31)] hM (qr (by simp) (qp qw)) hnL (yt hL115 hL195) (Nat.le_of_ble_eq_true rfl) (Nat.le_of_ble_eq_true rfl)) ?_)
       rintro _ w208 ⟨z201, L202, rfl, ⟨ht204, hL205, hs206, hnL2⟩, hM207⟩
       replace hnL := hnL2
       clear hnL2
       replace hLa := hLa.sub hs206.subset
       replace hLb := hLb.sub hs206.subset
       replace hL115 := hL115.sub hs206.subset
       replace hL195 := hL195.sub hs206.subset
       replace hq := hq.trans hs206
       replace hM : Mg w w208 (.obj g187 (.cells (qt.d.cells qt.ts.length).toArray 31) :: L202) := hM207
       refine ⟨_, rfl, (hM.sub (.cons _ hq)), ?_⟩
       intro a hA
       refine qy (by kernel_rfl) (jz (us := (z201.d.cells z201.ts.length)) (L' := (.obj g187 (.cells (z201.d.cells z201.ts.length).toArray 31) :: L202)) hA hM 9 rfl rfl rfl (zh rfl rfl rfl (by kernel_rfl) hM 0 rfl rfl rfl) 0 rfl rfl rfl ?_)
       intro w209 hM
       refine ⟨(hM.sub (.cons _ hq)), ?_⟩
       refine zw (by kernel_rfl) ?_
       exact hJ68 _ _ ⟨z201, g187, L202, hL205, (by rw [ht204, List.map_cons, List.map_cons, List.map_nil, ht114, ht194]; rfl), hnL, hq, hA.keep _ (by repeat' constructor), hM⟩
   · refine jk (e := 31) (sz := 11) (m := 1) (vs := cellsOf [tb]) hA hM 4 rfl rfl rfl rfl (qx rfl (by kernel_rfl)) rfl rfl (by decide) ?_
     intro g210 w211 hM _ _
     refine ⟨(hM.sub (cN (cN (List.Sublist.refl _)))), ?_⟩
     intro a hA
     refine js (rs := [2, 8]) (by kernel_rfl) (by simp) ⟨?_, ?_, trivial⟩
     · replace hM : Mg w w211 (.row 31 11 (.slice (some ⟨g109, 0, none⟩) 1 1) 1 (cellsOf [ta]) :: .row 31 11 (.slice (some ⟨g210, 0, none⟩) 1 1) 1 (cellsOf [tb]) :: L65) := hM.bringJ 1 rfl rfl
       refine zn hA 2 rfl rfl rfl rfl (qh rfl rfl (fun w => by kernel_rfl)) (zv (s := xq) (ts := [ta]) [.row 31 11 (.slice (some ⟨g210, 0, none⟩) 1 1) 1 (cellsOf [tb])] hM (qr (by simp) (qp qw)) hnL (kp hLa) (Nat.le_of_ble_eq_true rfl) (Nat.le_of_ble_eq_true rfl)) ?_
       rintro _ w219 ⟨z212, L213, rfl, ⟨ht215, hL216, hs217, hnL2⟩, hM218⟩
       replace hnL := hnL2
       clear hnL2
       replace hLa := hLa.sub hs217.subset
       replace hLb := hLb.sub hs217.subset
       have hq := hs217
       replace hM : Mg w w219 (.row 31 11 (.slice (some ⟨g210, 0, none⟩) 1 1) 1 (cellsOf [tb]) :: L213) := hM218
       refine ⟨_, rfl, (hM.sub (.cons _ hq)), ?_⟩
       intro a hA
       refine js (rs := [5, 8]) (by kernel_rfl) (by simp) ⟨?_, ?_, trivial⟩
       · refine zn hA 5 rfl rfl rfl rfl (qh rfl rfl (fun w => by kernel_rfl)) (zv (s := xq) (ts := [tb]) [] hM (qp qw) hnL (kp hLb) (Nat.le_of_ble_eq_true rfl) (Nat.le_of_ble_eq_true rfl)) ?_
         rintro _ w227 ⟨z220, L221, rfl, ⟨ht223, hL224, hs225, hnL2⟩, hM226⟩
         replace hnL := hnL2
         clear hnL2
         replace hLa := hLa.sub hs225.subset
         replace hLb := hLb.sub hs225.subset
         replace hL216 := hL216.sub hs225.subset
         replace hq := hq.trans hs225
         replace hM : Mg w w227 (L221) := hM226
         refine ⟨_, rfl, (hM.sub hq), ?_⟩
         intro a hA
         refine js (rs := [6, 8]) (by kernel_rfl) (by simp) ⟨?_, ?_, trivial⟩
         · refine jk (e := 31) (sz := 11) (m := 2) (vs := cellsOf [z212, z220]) hA hM 6 rfl rfl rfl rfl (qx rfl (by kernel_rfl)) rfl rfl (by decide) ?_
           intro g228 w229 hM _ _
           refine ⟨(hM.sub (.cons _ hq)), ?_⟩
           intro a hA
           refine js (rs := [7, 8]) (by kernel_rfl) (by simp) ⟨?_, ?_, trivial⟩
           · refine zn hA 7 rfl rfl rfl rfl (qh rfl rfl (fun w => by kernel_rfl)) (zv (s := xy) (ts := [z212, z220]) [] hM (qp qw) hnL (yt hL216 hL224) (Nat.le_of_ble_eq_true rfl) (Nat.le_of_ble_eq_true rfl)) ?_
             rintro _ w237 ⟨z230, L231, rfl, ⟨ht233, hL234, hs235, hnL2⟩, hM236⟩
             replace hnL := hnL2
             clear hnL2
             replace hLa := hLa.sub hs235.subset
             replace hLb := hLb.sub hs235.subset
             replace hL216 := hL216.sub hs235.subset
             replace hL224 := hL224.sub hs235.subset
             replace hq := hq.trans hs235
             replace hM : Mg w w237 (L231) := hM236
             refine ⟨_, rfl, (hM.sub hq), ?_⟩
             intro a hA
             refine qy (by kernel_rfl) (kj (vs := [.int .i64 0, .int .i64 0, .bool false, .slice none 0 0, .slice none 0 0, .bool false, .slice none 0 0, .slice none 0 0, .string (⟨#[]⟩), .slice none 0 0, .slice none 0 0]) (t := 31) hA hM 8 rfl rfl rfl rfl (fun g => .pointer (some ⟨g, 0, none⟩)) (zd (z := .agg (qt.d.cells qt.ts.length).toArray) (by kernel_rfl) rfl) (by decide) ?_)
             intro g238 w239 hM
             refine ⟨(hM.sub (.cons _ hq)), ?_⟩
             intro a hA
             refine qy (by kernel_rfl) (jz (us := (z230.d.cells z230.ts.length)) (L' := (.obj g238 (.cells (z230.d.cells z230.ts.length).toArray 31) :: L231)) hA hM 9 rfl rfl rfl (zh rfl rfl rfl (by kernel_rfl) hM 0 rfl rfl rfl) 0 rfl rfl rfl ?_)
             intro w240 hM
             refine ⟨(hM.sub (.cons _ hq)), ?_⟩
             refine zw (by kernel_rfl) ?_
             exact hJ68 _ _ ⟨z230, g238, L231, hL234, (by rw [ht233, List.map_cons, List.map_cons, List.map_nil, ht215, ht223]; rfl), hnL, hq, hA.keep _ (by repeat' constructor), hM⟩
           · refine kj (vs := [.int .i64 0, .int .i64 0, .bool false, .slice none 0 0, .slice none 0 0, .bool false, .slice none 0 0, .slice none 0 0, .string (⟨#[]⟩), .slice none 0 0, .slice none 0 0]) (t := 31) hA hM 8 rfl rfl rfl rfl (fun g => .pointer (some ⟨g, 0, none⟩)) (zd (z := .agg (qt.d.cells qt.ts.length).toArray) (by kernel_rfl) rfl) (by decide) ?_
             intro g241 w242 hM
             refine ⟨(hM.sub (.cons _ (.cons _ hq))), ?_⟩
             intro a hA
             replace hM : Mg w w242 (.row 31 11 (.slice (some ⟨g228, 0, none⟩) 2 2) 2 (cellsOf [z212, z220]) :: .obj g241 (.cells (qt.d.cells qt.ts.length).toArray 31) :: L221) := hM.bringJ 1 rfl rfl
             refine qy (by kernel_rfl) (zn hA 7 rfl rfl rfl rfl (qh rfl rfl (fun w => by kernel_rfl)) (zv (s := xy) (ts := [z212, z220]) [.obj g241 (.cells (qt.d.cells qt.ts.length).toArray 31)] hM (qr (by simp) (qp qw)) hnL (yt hL216 hL224) (Nat.le_of_ble_eq_true rfl) (Nat.le_of_ble_eq_true rfl)) ?_)
             rintro _ w250 ⟨z243, L244, rfl, ⟨ht246, hL247, hs248, hnL2⟩, hM249⟩
             replace hnL := hnL2
             clear hnL2
             replace hLa := hLa.sub hs248.subset
             replace hLb := hLb.sub hs248.subset
             replace hL216 := hL216.sub hs248.subset
             replace hL224 := hL224.sub hs248.subset
             replace hq := hq.trans hs248
             replace hM : Mg w w250 (.obj g241 (.cells (qt.d.cells qt.ts.length).toArray 31) :: L244) := hM249
             refine ⟨_, rfl, (hM.sub (.cons _ hq)), ?_⟩
             intro a hA
             refine qy (by kernel_rfl) (jz (us := (z243.d.cells z243.ts.length)) (L' := (.obj g241 (.cells (z243.d.cells z243.ts.length).toArray 31) :: L244)) hA hM 9 rfl rfl rfl (zh rfl rfl rfl (by kernel_rfl) hM 0 rfl rfl rfl) 0 rfl rfl rfl ?_)
             intro w251 hM
             refine ⟨(hM.sub (.cons _ hq)), ?_⟩
             refine zw (by kernel_rfl) ?_
             exact hJ68 _ _ ⟨z243, g241, L244, hL247, (by rw [ht246, List.map_cons, List.map_cons, List.map_nil, ht215, ht223]; rfl), hnL, hq, hA.keep _ (by repeat' constructor), hM⟩
         · refine kj (vs := [.int .i64 0, .int .i64 0, .bool false, .slice none 0 0, .slice none 0 0, .bool false, .slice none 0 0, .slice none 0 0, .string (⟨#[]⟩), .slice none 0 0, .slice none 0 0]) (t := 31) hA hM 8 rfl rfl rfl rfl (fun g => .pointer (some ⟨g, 0, none⟩)) (zd (z := .agg (qt.d.cells qt.ts.length).toArray) (by kernel_rfl) rfl) (by decide) ?_
           intro g252 w253 hM
           refine ⟨(hM.sub (.cons _ hq)), ?_⟩
           intro a hA
           refine qy (by kernel_rfl) (jk (e := 31) (sz := 11) (m := 2) (vs := cellsOf [z212, z220]) hA hM 6 rfl rfl rfl rfl (qx rfl (by kernel_rfl)) rfl rfl (by decide) ?_)
           intro g254 w255 hM _ _
           refine ⟨(hM.sub (.cons _ (.cons _ hq))), ?_⟩
           intro a hA
           refine qy (by kernel_rfl) (zn hA 7 rfl rfl rfl rfl (qh rfl rfl (fun w => by kernel_rfl)) (zv (s := xy) (ts := [z212, z220]) [.obj g252 (.cells (qt.d.cells qt.ts.length).toArray 31)] hM (qr (by simp) (qp qw)) hnL (yt hL216 hL224) (Nat.le_of_ble_eq_true rfl) (Nat.le_of_ble_eq_true rfl)) ?_)
           rintro _ w263 ⟨z256, L257, rfl, ⟨ht259, hL260, hs261, hnL2⟩, hM262⟩
           replace hnL := hnL2
           clear hnL2
           replace hLa := hLa.sub hs261.subset
           replace hLb := hLb.sub hs261.subset
           replace hL216 := hL216.sub hs261.subset
           replace hL224 := hL224.sub hs261.subset
           replace hq := hq.trans hs261
           replace hM : Mg w w263 (.obj g252 (.cells (qt.d.cells qt.ts.length).toArray 31) :: L257) := hM262
           refine ⟨_, rfl, (hM.sub (.cons _ hq)), ?_⟩
           intro a hA
           refine qy (by kernel_rfl) (jz (us := (z256.d.cells z256.ts.length)) (L' := (.obj g252 (.cells (z256.d.cells z256.ts.length).toArray 31) :: L257)) hA hM 9 rfl rfl rfl (zh rfl rfl rfl (by kernel_rfl) hM 0 rfl rfl rfl) 0 rfl rfl rfl ?_)
           intro w264 hM
           refine ⟨(hM.sub (.cons _ hq)), ?_⟩
           refine zw (by kernel_rfl) ?_
           exact hJ68 _ _ ⟨z256, g252, L257, hL260, (by rw [ht259, List.map_cons, List.map_cons, List.map_nil, ht215, ht223]; rfl), hnL, hq, hA.keep _ (by repeat' constructor), hM⟩
       · refine kj (vs := [.int .i64 0, .int .i64 0, .bool false, .slice none 0 0, .slice none 0 0, .bool false, .slice none 0 0, .slice none 0 0, .string (⟨#[]⟩), .slice none 0 0, .slice none 0 0]) (t := 31) hA hM 8 rfl rfl rfl rfl (fun g => .pointer (some ⟨g, 0, none⟩)) (zd (z := .agg (qt.d.cells qt.ts.length).toArray) (by kernel_rfl) rfl) (by decide) ?_
         intro g265 w266 hM
         refine ⟨(hM.sub (.cons _ (.cons _ hq))), ?_⟩
         intro a hA
         replace hM : Mg w w266 (.row 31 11 (.slice (some ⟨g210, 0, none⟩) 1 1) 1 (cellsOf [tb]) :: .obj g265 (.cells (qt.d.cells qt.ts.length).toArray 31) :: L213) := hM.bringJ 1 rfl rfl
         refine qy (by kernel_rfl) (zn hA 5 rfl rfl rfl rfl (qh rfl rfl (fun w => by kernel_rfl)) (zv (s := xq) (ts := [tb]) [.obj g265 (.cells (qt.d.cells qt.ts.length).toArray 31)] hM (qr (by simp) (qp qw)) hnL (kp hLb) (Nat.le_of_ble_eq_true rfl) (Nat.le_of_ble_eq_true rfl)) ?_)
         rintro _ w274 ⟨z267, L268, rfl, ⟨ht270, hL271, hs272, hnL2⟩, hM273⟩
         replace hnL := hnL2
         clear hnL2
         replace hLa := hLa.sub hs272.subset
         replace hLb := hLb.sub hs272.subset
         replace hL216 := hL216.sub hs272.subset
         replace hq := hq.trans hs272
         replace hM : Mg w w274 (.obj g265 (.cells (qt.d.cells qt.ts.length).toArray 31) :: L268) := hM273
         refine ⟨_, rfl, (hM.sub (.cons _ hq)), ?_⟩
         intro a hA
         refine qy (by kernel_rfl) (jk (e := 31) (sz := 11) (m := 2) (vs := cellsOf [z212, z267]) hA hM 6 rfl rfl rfl rfl (qx rfl (by kernel_rfl)) rfl rfl (by decide) ?_)
         intro g275 w276 hM _ _
         refine ⟨(hM.sub (.cons _ (.cons _ hq))), ?_⟩
         intro a hA
         refine qy (by kernel_rfl) (zn hA 7 rfl rfl rfl rfl (qh rfl rfl (fun w => by kernel_rfl)) (zv (s := xy) (ts := [z212, z267]) [.obj g265 (.cells (qt.d.cells qt.ts.length).toArray 31)] hM (qr (by simp) (qp qw)) hnL (yt hL216 hL271) (Nat.le_of_ble_eq_true rfl) (Nat.le_of_ble_eq_true rfl)) ?_)
         rintro _ w284 ⟨z277, L278, rfl, ⟨ht280, hL281, hs282, hnL2⟩, hM283⟩
         replace hnL := hnL2
         clear hnL2
         replace hLa := hLa.sub hs282.subset
         replace hLb := hLb.sub hs282.subset
         replace hL216 := hL216.sub hs282.subset
         replace hL271 := hL271.sub hs282.subset
         replace hq := hq.trans hs282
         replace hM : Mg w w284 (.obj g265 (.cells (qt.d.cells qt.ts.length).toArray 31) :: L278) := hM283
         refine ⟨_, rfl, (hM.sub (.cons _ hq)), ?_⟩
         intro a hA
         refine qy (by kernel_rfl) (jz (us := (z277.d.cells z277.ts.length)) (L' := (.obj g265 (.cells (z277.d.cells z277.ts.length).toArray 31) :: L278)) hA hM 9 rfl rfl rfl (zh rfl rfl rfl (by kernel_rfl) hM 0 rfl rfl rfl) 0 rfl rfl rfl ?_)
         intro w285 hM
         refine ⟨(hM.sub (.cons _ hq)), ?_⟩
         refine zw (by kernel_rfl) ?_
         exact hJ68 _ _ ⟨z277, g265, L278, hL281, (by rw [ht280, List.map_cons, List.map_cons, List.map_nil, ht215, ht270]; rfl), hnL, hq, hA.keep _ (by repeat' constructor), hM⟩
     · refine kj (vs := [.int .i64 0, .int .i64 0, .bool false, .slice none 0 0, .slice none 0 0, .bool false, .slice none 0 0, .slice none 0 0, .string (⟨#[]⟩), .slice none 0 0, .slice none 0 0]) (t := 31) hA hM 8 rfl rfl rfl rfl (fun g => .pointer (some ⟨g, 0, none⟩)) (zd (z := .agg (qt.d.cells qt.ts.length).toArray) (by kernel_rfl) rfl) (by decide) ?_
       intro g286 w287 hM
       refine ⟨(hM.sub (cN (cN (cN (List.Sublist.refl _))))), ?_⟩
       intro a hA
       replace hM : Mg w w287 (.row 31 11 (.slice (some ⟨g109, 0, none⟩) 1 1) 1 (cellsOf [ta]) :: .obj g286 (.cells (qt.d.cells qt.ts.length).toArray 31) :: .row 31 11 (.slice (some ⟨g210, 0, none⟩) 1 1) 1 (cellsOf [tb]) :: L65) := hM.bringJ 2 rfl rfl
       refine qy (by kernel_rfl) (zn hA 2 rfl rfl rfl rfl (qh rfl rfl (fun w => by kernel_rfl)) (zv (s := xq) (ts := [ta]) [.obj g286 (.cells (qt.d.cells qt.ts.length).toArray 31), .row 31 11 (.slice (some ⟨g210, 0, none⟩) 1 1) 1 (cellsOf [tb])] hM (qr (by simp) (qr (by simp) (qp qw))) hnL (kp hLa) (Nat.le_of_ble_eq_true rfl) (Nat.le_of_ble_eq_true rfl)) ?_)
       rintro _ w295 ⟨z288, L289, rfl, ⟨ht291, hL292, hs293, hnL2⟩, hM294⟩
       replace hnL := hnL2
       clear hnL2
       replace hLa := hLa.sub hs293.subset
       replace hLb := hLb.sub hs293.subset
       have hq := hs293
       replace hM : Mg w w295 (.obj g286 (.cells (qt.d.cells qt.ts.length).toArray 31) :: .row 31 11 (.slice (some ⟨g210, 0, none⟩) 1 1) 1 (cellsOf [tb]) :: L289) := hM294
       refine ⟨_, rfl, (hM.sub (.cons _ (.cons _ hq))), ?_⟩
       intro a hA
       replace hM : Mg w w295 (.row 31 11 (.slice (some ⟨g210, 0, none⟩) 1 1) 1 (cellsOf [tb]) :: .obj g286 (.cells (qt.d.cells qt.ts.length).toArray 31) :: L289) := hM.bringJ 1 rfl rfl
       refine qy (by kernel_rfl) (zn hA 5 rfl rfl rfl rfl (qh rfl rfl (fun w => by kernel_rfl)) (zv (s := xq) (ts := [tb]) [.obj g286 (.cells (qt.d.cells qt.ts.length).toArray 31)] hM (qr (by simp) (qp qw)) hnL (kp hLb) (Nat.le_of_ble_eq_true rfl) (Nat.le_of_ble_eq_true rfl)) ?_)
       rintro _ w303 ⟨z296, L297, rfl, ⟨ht299, hL300, hs301, hnL2⟩, hM302⟩
       replace hnL := hnL2
       clear hnL2
       replace hLa := hLa.sub hs301.subset
       replace hLb := hLb.sub hs301.subset
       replace hL292 := hL292.sub hs301.subset
       replace hq := hq.trans hs301
       replace hM : Mg w w303 (.obj g286 (.cells (qt.d.cells qt.ts.length).toArray 31) :: L297) := hM302
       refine ⟨_, rfl, (hM.sub (.cons _ hq)), ?_⟩
       intro a hA
       refine qy (by kernel_rfl) (jk (e := 31) (sz := 11) (m := 2) (vs := cellsOf [z288, z296]) hA hM 6 rfl rfl rfl rfl (qx rfl (by kernel_rfl)) rfl rfl (by decide) ?_)
       intro g304 w305 hM _ _
       refine ⟨(hM.sub (.cons _ (.cons _ hq))), ?_⟩
       intro a hA
       refine qy (by kernel_rfl) (zn hA 7 rfl rfl rfl rfl (qh rfl rfl (fun w => by kernel_rfl)) (zv (s := xy) (ts := [z288, z296]) [.obj g286 (.cells (qt.d.cells qt.ts.length).toArray 31)] hM (qr (by simp) (qp qw)) hnL (yt hL292 hL300) (Nat.le_of_ble_eq_true rfl) (Nat.le_of_ble_eq_true rfl)) ?_)
       rintro _ w313 ⟨z306, L307, rfl, ⟨ht309, hL310, hs311, hnL2⟩, hM312⟩
       replace hnL := hnL2
       clear hnL2
       replace hLa := hLa.sub hs311.subset
       replace hLb := hLb.sub hs311.subset
       replace hL292 := hL292.sub hs311.subset
       replace hL300 := hL300.sub hs311.subset
       replace hq := hq.trans hs311
       replace hM : Mg w w313 (.obj g286 (.cells (qt.d.cells qt.ts.length).toArray 31) :: L307) := hM312
       refine ⟨_, rfl, (hM.sub (.cons _ hq)), ?_⟩
       intro a hA
       refine qy (by kernel_rfl) (jz (us := (z306.d.cells z306.ts.length)) (L' := (.obj g286 (.cells (z306.d.cells z306.ts.length).toArray 31) :: L307)) hA hM 9 rfl rfl rfl (zh rfl rfl rfl (by kernel_rfl) hM 0 rfl rfl rfl) 0 rfl rfl rfl ?_)
       intro w314 hM
       refine ⟨(hM.sub (.cons _ hq)), ?_⟩
       refine zw (by kernel_rfl) ?_
       exact hJ68 _ _ ⟨z306, g286, L307, hL310, (by rw [ht309, List.map_cons, List.map_cons, List.map_nil, ht291, ht299]; rfl), hnL, hq, hA.keep _ (by repeat' constructor), hM⟩
   · refine kj (vs := [.int .i64 0, .int .i64 0, .bool false, .slice none 0 0, .slice none 0 0, .bool false, .slice none 0 0, .slice none 0 0, .string (⟨#[]⟩), .slice none 0 0, .slice none 0 0]) (t := 31) hA hM 8 rfl rfl rfl rfl (fun g => .pointer (some ⟨g, 0, none⟩)) (zd (z := .agg (qt.d.cells qt.ts.length).toArray) (by kernel_rfl) rfl) (by decide) ?_
     intro g315 w316 hM
     refine ⟨(hM.sub (cN (cN (List.Sublist.refl _)))), ?_⟩
     intro a hA
     refine js (rs := [2, 4]) (by kernel_rfl) (by simp) ⟨?_, ?_, trivial⟩
     · replace hM : Mg w w316 (.row 31 11 (.slice (some ⟨g109, 0, none⟩) 1 1) 1 (cellsOf [ta]) :: .obj g315 (.cells (qt.d.cells qt.ts.length).toArray 31) :: L65) := hM.bringJ 1 rfl rfl
       refine zn hA 2 rfl rfl rfl rfl (qh rfl rfl (fun w => by kernel_rfl)) (zv (s := xq) (ts := [ta]) [.obj g315 (.cells (qt.d.cells qt.ts.length).toArray 31)] hM (qr (by simp) (qp qw)) hnL (kp hLa) (Nat.le_of_ble_eq_true rfl) (Nat.le_of_ble_eq_true rfl)) ?_
       rintro _ w324 ⟨z317, L318, rfl, ⟨ht320, hL321, hs322, hnL2⟩, hM323⟩
       replace hnL := hnL2
       clear hnL2
       replace hLa := hLa.sub hs322.subset
       replace hLb := hLb.sub hs322.subset
       have hq := hs322
       replace hM : Mg w w324 (.obj g315 (.cells (qt.d.cells qt.ts.length).toArray 31) :: L318) := hM323
       refine ⟨_, rfl, (hM.sub (.cons _ hq)), ?_⟩
       intro a hA
       refine qy (by kernel_rfl) (jk (e := 31) (sz := 11) (m := 1) (vs := cellsOf [tb]) hA hM 4 rfl rfl rfl rfl (qx rfl (by kernel_rfl)) rfl rfl (by decide) ?_)
       intro g325 w326 hM _ _
       refine ⟨(hM.sub (.cons _ (.cons _ hq))), ?_⟩
       intro a hA
       refine qy (by kernel_rfl) (zn hA 5 rfl rfl rfl rfl (qh rfl rfl (fun w => by kernel_rfl)) (zv (s := xq) (ts := [tb]) [.obj g315 (.cells (qt.d.cells qt.ts.length).toArray 31)] hM (qr (by simp) (qp qw)) hnL (kp hLb) (Nat.le_of_ble_eq_true rfl) (Nat.le_of_ble_eq_true rfl)) ?_)
       rintro _ w334 ⟨z327, L328, rfl, ⟨ht330, hL331, hs332, hnL2⟩, hM333⟩
       replace hnL := hnL2
       clear hnL2
       replace hLa := hLa.sub hs332.subset
       replace hLb := hLb.sub hs332.subset
       replace hL321 := hL321.sub hs332.subset
       replace hq := hq.trans hs332
       replace hM : Mg w w334 (.obj g315 (.cells (qt.d.cells qt.ts.length).toArray 31) :: L328) := hM333
       refine ⟨_, rfl, (hM.sub (.cons _ hq)), ?_⟩
       intro a hA
       refine qy (by kernel_rfl) (jk (e := 31) (sz := 11) (m := 2) (vs := cellsOf [z317, z327]) hA hM 6 rfl rfl rfl rfl (qx rfl (by kernel_rfl)) rfl rfl (by decide) ?_)
       intro g335 w336 hM _ _
       refine ⟨(hM.sub (.cons _ (.cons _ hq))), ?_⟩
       intro a hA
       refine qy (by kernel_rfl) (zn hA 7 rfl rfl rfl rfl (qh rfl rfl (fun w => by kernel_rfl)) (zv (s := xy) (ts := [z317, z327]) [.obj g315 (.cells (qt.d.cells qt.ts.length).toArray 31)] hM (qr (by simp) (qp qw)) hnL (yt hL321 hL331) (Nat.le_of_ble_eq_true rfl) (Nat.le_of_ble_eq_true rfl)) ?_)
       rintro _ w344 ⟨z337, L338, rfl, ⟨ht340, hL341, hs342, hnL2⟩, hM343⟩
       replace hnL := hnL2
       clear hnL2
       replace hLa := hLa.sub hs342.subset
       replace hLb := hLb.sub hs342.subset
       replace hL321 := hL321.sub hs342.subset
       replace hL331 := hL331.sub hs342.subset
       replace hq := hq.trans hs342
       replace hM : Mg w w344 (.obj g315 (.cells (qt.d.cells qt.ts.length).toArray 31) :: L338) := hM343
       refine ⟨_, rfl, (hM.sub (.cons _ hq)), ?_⟩
       intro a hA
       refine qy (by kernel_rfl) (jz (us := (z337.d.cells z337.ts.length)) (L' := (.obj g315 (.cells (z337.d.cells z337.ts.length).toArray 31) :: L338)) hA hM 9 rfl rfl rfl (zh rfl rfl rfl (by kernel_rfl) hM 0 rfl rfl rfl) 0 rfl rfl rfl ?_)
       intro w345 hM
       refine ⟨(hM.sub (.cons _ hq)), ?_⟩
       refine zw (by kernel_rfl) ?_
       exact hJ68 _ _ ⟨z337, g315, L338, hL341, (by rw [ht340, List.map_cons, List.map_cons, List.map_nil, ht320, ht330]; rfl), hnL, hq, hA.keep _ (by repeat' constructor), hM⟩
     · refine jk (e := 31) (sz := 11) (m := 1) (vs := cellsOf [tb]) hA hM 4 rfl rfl rfl rfl (qx rfl (by kernel_rfl)) rfl rfl (by decide) ?_
       intro g346 w347 hM _ _
       refine ⟨(hM.sub (cN (cN (cN (List.Sublist.refl _))))), ?_⟩
       intro a hA
       replace hM : Mg w w347 (.row 31 11 (.slice (some ⟨g109, 0, none⟩) 1 1) 1 (cellsOf [ta]) :: .row 31 11 (.slice (some ⟨g346, 0, none⟩) 1 1) 1 (cellsOf [tb]) :: .obj g315 (.cells (qt.d.cells qt.ts.length).toArray 31) :: L65) := hM.bringJ 2 rfl rfl
       refine qy (by kernel_rfl) (zn hA 2 rfl rfl rfl rfl (qh rfl rfl (fun w => by kernel_rfl)) (zv (s := xq) (ts := [ta]) [.row 31 11 (.slice (some ⟨g346, 0, none⟩) 1 1) 1 (cellsOf [tb]), .obj g315 (.cells (qt.d.cells qt.ts.length).toArray 31)] hM (qr (by simp) (qr (by simp) (qp qw))) hnL (kp hLa) (Nat.le_of_ble_eq_true rfl) (Nat.le_of_ble_eq_true rfl)) ?_)
       rintro _ w355 ⟨z348, L349, rfl, ⟨ht351, hL352, hs353, hnL2⟩, hM354⟩
       replace hnL := hnL2
       clear hnL2
       replace hLa := hLa.sub hs353.subset
       replace hLb := hLb.sub hs353.subset
       have hq := hs353
       replace hM : Mg w w355 (.row 31 11 (.slice (some ⟨g346, 0, none⟩) 1 1) 1 (cellsOf [tb]) :: .obj g315 (.cells (qt.d.cells qt.ts.length).toArray 31) :: L349) := hM354
       refine ⟨_, rfl, (hM.sub (.cons _ (.cons _ hq))), ?_⟩
       intro a hA
       refine qy (by kernel_rfl) (zn hA 5 rfl rfl rfl rfl (qh rfl rfl (fun w => by kernel_rfl)) (zv (s := xq) (ts := [tb]) [.obj g315 (.cells (qt.d.cells qt.ts.length).toArray 31)] hM (qr (by simp) (qp qw)) hnL (kp hLb) (Nat.le_of_ble_eq_true rfl) (Nat.le_of_ble_eq_true rfl)) ?_)
       rintro _ w363 ⟨z356, L357, rfl, ⟨ht359, hL360, hs361, hnL2⟩, hM362⟩
       replace hnL := hnL2
       clear hnL2
       replace hLa := hLa.sub hs361.subset
       replace hLb := hLb.sub hs361.subset
       replace hL352 := hL352.sub hs361.subset
       replace hq := hq.trans hs361
       replace hM : Mg w w363 (.obj g315 (.cells (qt.d.cells qt.ts.length).toArray 31) :: L357) := hM362
       refine ⟨_, rfl, (hM.sub (.cons _ hq)), ?_⟩
       intro a hA
       refine qy (by kernel_rfl) (jk (e := 31) (sz := 11) (m := 2) (vs := cellsOf [z348, z356]) hA hM 6 rfl rfl rfl rfl (qx rfl (by kernel_rfl)) rfl rfl (by decide) ?_)
       intro g364 w365 hM _ _
       refine ⟨(hM.sub (.cons _ (.cons _ hq))), ?_⟩
       intro a hA
       refine qy (by kernel_rfl) (zn hA 7 rfl rfl rfl rfl (qh rfl rfl (fun w => by kernel_rfl)) (zv (s := xy) (ts := [z348, z356]) [.obj g315 (.cells (qt.d.cells qt.ts.length).toArray 31)] hM (qr (by simp) (qp qw)) hnL (yt hL352 hL360) (Nat.le_of_ble_eq_true rfl) (Nat.le_of_ble_eq_true rfl)) ?_)
       rintro _ w373 ⟨z366, L367, rfl, ⟨ht369, hL370, hs371, hnL2⟩, hM372⟩
       replace hnL := hnL2
       clear hnL2
       replace hLa := hLa.sub hs371.subset
       replace hLb := hLb.sub hs371.subset
       replace hL352 := hL352.sub hs371.subset
       replace hL360 := hL360.sub hs371.subset
       replace hq := hq.trans hs371
       replace hM : Mg w w373 (.obj g315 (.cells (qt.d.cells qt.ts.length).toArray 31) :: L367) := hM372
       refine ⟨_, rfl, (hM.sub (.cons _ hq)), ?_⟩
       intro a hA
       refine qy (by kernel_rfl) (jz (us := (z366.d.cells z366.ts.length)) (L' := (.obj g315 (.cells (z366.d.cells z366.ts.length).toArray 31) :: L367)) hA hM 9 rfl rfl rfl (zh rfl rfl rfl (by kernel_rfl) hM 0 rfl rfl rfl) 0 rfl rfl rfl ?_)
       intro w374 hM
       refine ⟨(hM.sub (.cons _ hq)), ?_⟩
       refine zw (by kernel_rfl) ?_
       exact hJ68 _ _ ⟨z366, g315, L367, hL370, (by rw [ht369, List.map_cons, List.map_cons, List.map_nil, ht351, ht359]; rfl), hnL, hq, hA.keep _ (by repeat' constructor), hM⟩
 · refine jk (e := 31) (sz := 11) (m := 1) (vs := cellsOf [tb]) hA hM 4 rfl rfl rfl rfl (qx rfl (by kernel_rfl)) rfl rfl (by decide) ?_
   intro g375 w376 hM _ _
   refine ⟨(hM.sub (cN (List.Sublist.refl _))), ?_⟩
   intro a hA
   refine js (rs := [1, 8]) (by kernel_rfl) (by simp) ⟨?_, ?_, trivial⟩
   · refine jk (e := 31) (sz := 11) (m := 1) (vs := cellsOf [ta]) hA hM 1 rfl rfl rfl rfl (qx rfl (by kernel_rfl)) rfl rfl (by decide) ?_
     intro g377 w378 hM _ _
     refine ⟨(hM.sub (cN (cN (List.Sublist.refl _)))), ?_⟩
     intro a hA
     refine js (rs := [2, 8]) (by kernel_rfl) (by simp) ⟨?_, ?_, trivial⟩
     · refine zn hA 2 rfl rfl rfl rfl (qh rfl rfl (fun w => by kernel_rfl)) (zv (s := xq) (ts := [ta]) [.row 31 11 (.slice (some ⟨g375, 0, none⟩) 1 1) 1 (cellsOf [tb])] hM (qr (by simp) (qp qw)) hnL (kp hLa) (Nat.le_of_ble_eq_true rfl) (Nat.le_of_ble_eq_true rfl)) ?_
       rintro _ w386 ⟨z379, L380, rfl, ⟨ht382, hL383, hs384, hnL2⟩, hM385⟩
       replace hnL := hnL2
       clear hnL2
       replace hLa := hLa.sub hs384.subset
       replace hLb := hLb.sub hs384.subset
       have hq := hs384
       replace hM : Mg w w386 (.row 31 11 (.slice (some ⟨g375, 0, none⟩) 1 1) 1 (cellsOf [tb]) :: L380) := hM385
       refine ⟨_, rfl, (hM.sub (.cons _ hq)), ?_⟩
       intro a hA
       refine js (rs := [5, 8]) (by kernel_rfl) (by simp) ⟨?_, ?_, trivial⟩
       · refine zn hA 5 rfl rfl rfl rfl (qh rfl rfl (fun w => by kernel_rfl)) (zv (s := xq) (ts := [tb]) [] hM (qp qw) hnL (kp hLb) (Nat.le_of_ble_eq_true rfl) (Nat.le_of_ble_eq_true rfl)) ?_
         rintro _ w394 ⟨z387, L388, rfl, ⟨ht390, hL391, hs392, hnL2⟩, hM393⟩
         replace hnL := hnL2
         clear hnL2
         replace hLa := hLa.sub hs392.subset
         replace hLb := hLb.sub hs392.subset
         replace hL383 := hL383.sub hs392.subset
         replace hq := hq.trans hs392
         replace hM : Mg w w394 (L388) := hM393
         refine ⟨_, rfl, (hM.sub hq), ?_⟩
         intro a hA
         refine js (rs := [6, 8]) (by kernel_rfl) (by simp) ⟨?_, ?_, trivial⟩
         · refine jk (e := 31) (sz := 11) (m := 2) (vs := cellsOf [z379, z387]) hA hM 6 rfl rfl rfl rfl (qx rfl (by kernel_rfl)) rfl rfl (by decide) ?_
           intro g395 w396 hM _ _
           refine ⟨(hM.sub (.cons _ hq)), ?_⟩
           intro a hA
           refine js (rs := [7, 8]) (by kernel_rfl) (by simp) ⟨?_, ?_, trivial⟩
           · refine zn hA 7 rfl rfl rfl rfl (qh rfl rfl (fun w => by kernel_rfl)) (zv (s := xy) (ts := [z379, z387]) [] hM (qp qw) hnL (yt hL383 hL391) (Nat.le_of_ble_eq_true rfl) (Nat.le_of_ble_eq_true rfl)) ?_
             rintro _ w404 ⟨z397, L398, rfl, ⟨ht400, hL401, hs402, hnL2⟩, hM403⟩
             replace hnL := hnL2
             clear hnL2
             replace hLa := hLa.sub hs402.subset
             replace hLb := hLb.sub hs402.subset
             replace hL383 := hL383.sub hs402.subset
             replace hL391 := hL391.sub hs402.subset
             replace hq := hq.trans hs402
             replace hM : Mg w w404 (L398) := hM403
             refine ⟨_, rfl, (hM.sub hq), ?_⟩
             intro a hA
             refine qy (by kernel_rfl) (kj (vs := [.int .i64 0, .int .i64 0, .bool false, .slice none 0 0, .slice none 0 0, .bool false, .slice none 0 0, .slice none 0 0, .string (⟨#[]⟩), .slice none 0 0, .slice none 0 0]) (t := 31) hA hM 8 rfl rfl rfl rfl (fun g => .pointer (some ⟨g, 0, none⟩)) (zd (z := .agg (qt.d.cells qt.ts.length).toArray) (by kernel_rfl) rfl) (by decide) ?_)
             intro g405 w406 hM
             refine ⟨(hM.sub (.cons _ hq)), ?_⟩
             intro a hA
             refine qy (by kernel_rfl) (jz (us := (z397.d.cells z397.ts.length)) (L' := (.obj g405 (.cells (z397.d.cells z397.ts.length).toArray 31) :: L398)) hA hM 9 rfl rfl rfl (zh rfl rfl rfl (by kernel_rfl) hM 0 rfl rfl rfl) 0 rfl rfl rfl ?_)
             intro w407 hM
             refine ⟨(hM.sub (.cons _ hq)), ?_⟩
             refine zw (by kernel_rfl) ?_
             exact hJ68 _ _ ⟨z397, g405, L398, hL401, (by rw [ht400, List.map_cons, List.map_cons, List.map_nil, ht382, ht390]; rfl), hnL, hq, hA.keep _ (by repeat' constructor), hM⟩
           · refine kj (vs := [.int .i64 0, .int .i64 0, .bool false, .slice none 0 0, .slice none 0 0, .bool false, .slice none 0 0, .slice none 0 0, .string (⟨#[]⟩), .slice none 0 0, .slice none 0 0]) (t := 31) hA hM 8 rfl rfl rfl rfl (fun g => .pointer (some ⟨g, 0, none⟩)) (zd (z := .agg (qt.d.cells qt.ts.length).toArray) (by kernel_rfl) rfl) (by decide) ?_
             intro g408 w409 hM
             refine ⟨(hM.sub (.cons _ (.cons _ hq))), ?_⟩
             intro a hA
             replace hM : Mg w w409 (.row 31 11 (.slice (some ⟨g395, 0, none⟩) 2 2) 2 (cellsOf [z379, z387]) :: .obj g408 (.cells (qt.d.cells qt.ts.length).toArray 31) :: L388) := hM.bringJ 1 rfl rfl
             refine qy (by kernel_rfl) (zn hA 7 rfl rfl rfl rfl (qh rfl rfl (fun w => by kernel_rfl)) (zv (s := xy) (ts := [z379, z387]) [.obj g408 (.cells (qt.d.cells qt.ts.length).toArray 31)] hM (qr (by simp) (qp qw)) hnL (yt hL383 hL391) (Nat.le_of_ble_eq_true rfl) (Nat.le_of_ble_eq_true rfl)) ?_)
             rintro _ w417 ⟨z410, L411, rfl, ⟨ht413, hL414, hs415, hnL2⟩, hM416⟩
             replace hnL := hnL2
             clear hnL2
             replace hLa := hLa.sub hs415.subset
             replace hLb := hLb.sub hs415.subset
             replace hL383 := hL383.sub hs415.subset
             replace hL391 := hL391.sub hs415.subset
             replace hq := hq.trans hs415
             replace hM : Mg w w417 (.obj g408 (.cells (qt.d.cells qt.ts.length).toArray 31) :: L411) := hM416
             refine ⟨_, rfl, (hM.sub (.cons _ hq)), ?_⟩
             intro a hA
             refine qy (by kernel_rfl) (jz (us := (z410.d.cells z410.ts.length)) (L' := (.obj g408 (.cells (z410.d.cells z410.ts.length).toArray 31) :: L411)) hA hM 9 rfl rfl rfl (zh rfl rfl rfl (by kernel_rfl) hM 0 rfl rfl rfl) 0 rfl rfl rfl ?_)
             intro w418 hM
             refine ⟨(hM.sub (.cons _ hq)), ?_⟩
             refine zw (by kernel_rfl) ?_
             exact hJ68 _ _ ⟨z410, g408, L411, hL414, (by rw [ht413, List.map_cons, List.map_cons, List.map_nil, ht382, ht390]; rfl), hnL, hq, hA.keep _ (by repeat' constructor), hM⟩
         · refine kj (vs := [.int .i64 0, .int .i64 0, .bool false, .slice none 0 0, .slice none 0 0, .bool false, .slice none 0 0, .slice none 0 0, .string (⟨#[]⟩), .slice none 0 0, .slice none 0 0]) (t := 31) hA hM 8 rfl rfl rfl rfl (fun g => .pointer (some ⟨g, 0, none⟩)) (zd (z := .agg (qt.d.cells qt.ts.length).toArray) (by kernel_rfl) rfl) (by decide) ?_
           intro g419 w420 hM
           refine ⟨(hM.sub (.cons _ hq)), ?_⟩
           intro a hA
           refine qy (by kernel_rfl) (jk (e := 31) (sz := 11) (m := 2) (vs := cellsOf [z379, z387]) hA hM 6 rfl rfl rfl rfl (qx rfl (by kernel_rfl)) rfl rfl (by decide) ?_)
           intro g421 w422 hM _ _
           refine ⟨(hM.sub (.cons _ (.cons _ hq))), ?_⟩
           intro a hA
           refine qy (by kernel_rfl) (zn hA 7 rfl rfl rfl rfl (qh rfl rfl (fun w => by kernel_rfl)) (zv (s := xy) (ts := [z379, z387]) [.obj g419 (.cells (qt.d.cells qt.ts.length).toArray 31)] hM (qr (by simp) (qp qw)) hnL (yt hL383 hL391) (Nat.le_of_ble_eq_true rfl) (Nat.le_of_ble_eq_true rfl)) ?_)
           rintro _ w430 ⟨z423, L424, rfl, ⟨ht426, hL427, hs428, hnL2⟩, hM429⟩
           replace hnL := hnL2
           clear hnL2
           replace hLa := hLa.sub hs428.subset
           replace hLb := hLb.sub hs428.subset
           replace hL383 := hL383.sub hs428.subset
           replace hL391 := hL391.sub hs428.subset
           replace hq := hq.trans hs428
           replace hM : Mg w w430 (.obj g419 (.cells (qt.d.cells qt.ts.length).toArray 31) :: L424) := hM429
           refine ⟨_, rfl, (hM.sub (.cons _ hq)), ?_⟩
           intro a hA
           refine qy (by kernel_rfl) (jz (us := (z423.d.cells z423.ts.length)) (L' := (.obj g419 (.cells (z423.d.cells z423.ts.length).toArray 31) :: L424)) hA hM 9 rfl rfl rfl (zh rfl rfl rfl (by kernel_rfl) hM 0 rfl rfl rfl) 0 rfl rfl rfl ?_)
           intro w431 hM
           refine ⟨(hM.sub (.cons _ hq)), ?_⟩
           refine zw (by kernel_rfl) ?_
           exact hJ68 _ _ ⟨z423, g419, L424, hL427, (by rw [ht426, List.map_cons, List.map_cons, List.map_nil, ht382, ht390]; rfl), hnL, hq, hA.keep _ (by repeat' constructor), hM⟩
       · refine kj (vs := [.int .i64 0, .int .i64 0, .bool false, .slice none 0 0, .slice none 0 0, .bool false, .slice none 0 0, .slice none 0 0, .string (⟨#[]⟩), .slice none 0 0, .slice none 0 0]) (t := 31) hA hM 8 rfl rfl rfl rfl (fun g => .pointer (some ⟨g, 0, none⟩)) (zd (z := .agg (qt.d.cells qt.ts.length).toArray) (by kernel_rfl) rfl) (by decide) ?_
         intro g432 w433 hM
         refine ⟨(hM.sub (.cons _ (.cons _ hq))), ?_⟩
         intro a hA
         replace hM : Mg w w433 (.row 31 11 (.slice (some ⟨g375, 0, none⟩) 1 1) 1 (cellsOf [tb]) :: .obj g432 (.cells (qt.d.cells qt.ts.length).toArray 31) :: L380) := hM.bringJ 1 rfl rfl
         refine qy (by kernel_rfl) (zn hA 5 rfl rfl rfl rfl (qh rfl rfl (fun w => by kernel_rfl)) (zv (s := xq) (ts := [tb]) [.obj g432 (.cells (qt.d.cells qt.ts.length).toArray 31)] hM (qr (by simp) (qp qw)) hnL (kp hLb) (Nat.le_of_ble_eq_true rfl) (Nat.le_of_ble_eq_true rfl)) ?_)
         rintro _ w441 ⟨z434, L435, rfl, ⟨ht437, hL438, hs439, hnL2⟩, hM440⟩
         replace hnL := hnL2
         clear hnL2
         replace hLa := hLa.sub hs439.subset
         replace hLb := hLb.sub hs439.subset
         replace hL383 := hL383.sub hs439.subset
         replace hq := hq.trans hs439
         replace hM : Mg w w441 (.obj g432 (.cells (qt.d.cells qt.ts.length).toArray 31) :: L435) := hM440
         refine ⟨_, rfl, (hM.sub (.cons _ hq)), ?_⟩
         intro a hA
         refine qy (by kernel_rfl) (jk (e := 31) (sz := 11) (m := 2) (vs := cellsOf [z379, z434]) hA hM 6 rfl rfl rfl rfl (qx rfl (by kernel_rfl)) rfl rfl (by decide) ?_)
         intro g442 w443 hM _ _
         refine ⟨(hM.sub (.cons _ (.cons _ hq))), ?_⟩
         intro a hA
         refine qy (by kernel_rfl) (zn hA 7 rfl rfl rfl rfl (qh rfl rfl (fun w => by kernel_rfl)) (zv (s := xy) (ts := [z379, z434]) [.obj g432 (.cells (qt.d.cells qt.ts.length).toArray 31)] hM (qr (by simp) (qp qw)) hnL (yt hL383 hL438) (Nat.le_of_ble_eq_true rfl) (Nat.le_of_ble_eq_true rfl)) ?_)
         rintro _ w451 ⟨z444, L445, rfl, ⟨ht447, hL448, hs449, hnL2⟩, hM450⟩
         replace hnL := hnL2
         clear hnL2
         replace hLa := hLa.sub hs449.subset
         replace hLb := hLb.sub hs449.subset
         replace hL383 := hL383.sub hs449.subset
         replace hL438 := hL438.sub hs449.subset
         replace hq := hq.trans hs449
         replace hM : Mg w w451 (.obj g432 (.cells (qt.d.cells qt.ts.length).toArray 31) :: L445) := hM450
         refine ⟨_, rfl, (hM.sub (.cons _ hq)), ?_⟩
         intro a hA
         refine qy (by kernel_rfl) (jz (us := (z444.d.cells z444.ts.length)) (L' := (.obj g432 (.cells (z444.d.cells z444.ts.length).toArray 31) :: L445)) hA hM 9 rfl rfl rfl (zh rfl rfl rfl (by kernel_rfl) hM 0 rfl rfl rfl) 0 rfl rfl rfl ?_)
         intro w452 hM
         refine ⟨(hM.sub (.cons _ hq)), ?_⟩
         refine zw (by kernel_rfl) ?_
         exact hJ68 _ _ ⟨z444, g432, L445, hL448, (by rw [ht447, List.map_cons, List.map_cons, List.map_nil, ht382, ht437]; rfl), hnL, hq, hA.keep _ (by repeat' constructor), hM⟩
     · refine kj (vs := [.int .i64 0, .int .i64 0, .bool false, .slice none 0 0, .slice none 0 0, .bool false, .slice none 0 0, .slice none 0 0, .string (⟨#[]⟩), .slice none 0 0, .slice none 0 0]) (t := 31) hA hM 8 rfl rfl rfl rfl (fun g => .pointer (some ⟨g, 0, none⟩)) (zd (z := .agg (qt.d.cells qt.ts.length).toArray) (by kernel_rfl) rfl) (by decide) ?_
       intro g453 w454 hM
       refine ⟨(hM.sub (cN (cN (cN (List.Sublist.refl _))))), ?_⟩
       intro a hA
       replace hM : Mg w w454 (.row 31 11 (.slice (some ⟨g377, 0, none⟩) 1 1) 1 (cellsOf [ta]) :: .obj g453 (.cells (qt.d.cells qt.ts.length).toArray 31) :: .row 31 11 (.slice (some ⟨g375, 0, none⟩) 1 1) 1 (cellsOf [tb]) :: L65) := hM.bringJ 1 rfl rfl
       refine qy (by kernel_rfl) (zn hA 2 rfl rfl rfl rfl (qh rfl rfl (fun w => by kernel_rfl)) (zv (s := xq) (ts := [ta]) [.obj g453 (.cells (qt.d.cells qt.ts.length).toArray 31), .row 31 11 (.slice (some ⟨g375, 0, none⟩) 1 1) 1 (cellsOf [tb])] hM (qr (by simp) (qr (by simp) (qp qw))) hnL (kp hLa) (Nat.le_of_ble_eq_true rfl) (Nat.le_of_ble_eq_true rfl)) ?_)
       rintro _ w462 ⟨z455, L456, rfl, ⟨ht458, hL459, hs460, hnL2⟩, hM461⟩
       replace hnL := hnL2
       clear hnL2
       replace hLa := hLa.sub hs460.subset
       replace hLb := hLb.sub hs460.subset
       have hq := hs460
       replace hM : Mg w w462 (.obj g453 (.cells (qt.d.cells qt.ts.length).toArray 31) :: .row 31 11 (.slice (some ⟨g375, 0, none⟩) 1 1) 1 (cellsOf [tb]) :: L456) := hM461
       refine ⟨_, rfl, (hM.sub (.cons _ (.cons _ hq))), ?_⟩
       intro a hA
       replace hM : Mg w w462 (.row 31 11 (.slice (some ⟨g375, 0, none⟩) 1 1) 1 (cellsOf [tb]) :: .obj g453 (.cells (qt.d.cells qt.ts.length).toArray 31) :: L456) := hM.bringJ 1 rfl rfl
       refine qy (by kernel_rfl) (zn hA 5 rfl rfl rfl rfl (qh rfl rfl (fun w => by kernel_rfl)) (zv (s := xq) (ts := [tb]) [.obj g453 (.cells (qt.d.cells qt.ts.length).toArray 31)] hM (qr (by simp) (qp qw)) hnL (kp hLb) (Nat.le_of_ble_eq_true rfl) (Nat.le_of_ble_eq_true rfl)) ?_)
       rintro _ w470 ⟨z463, L464, rfl, ⟨ht466, hL467, hs468, hnL2⟩, hM469⟩
       replace hnL := hnL2
       clear hnL2
       replace hLa := hLa.sub hs468.subset
       replace hLb := hLb.sub hs468.subset
       replace hL459 := hL459.sub hs468.subset
       replace hq := hq.trans hs468
       replace hM : Mg w w470 (.obj g453 (.cells (qt.d.cells qt.ts.length).toArray 31) :: L464) := hM469
       refine ⟨_, rfl, (hM.sub (.cons _ hq)), ?_⟩
       intro a hA
       refine qy (by kernel_rfl) (jk (e := 31) (sz := 11) (m := 2) (vs := cellsOf [z455, z463]) hA hM 6 rfl rfl rfl rfl (qx rfl (by kernel_rfl)) rfl rfl (by decide) ?_)
       intro g471 w472 hM _ _
       refine ⟨(hM.sub (.cons _ (.cons _ hq))), ?_⟩
       intro a hA
       refine qy (by kernel_rfl) (zn hA 7 rfl rfl rfl rfl (qh rfl rfl (fun w => by kernel_rfl)) (zv (s := xy) (ts := [z455, z463]) [.obj g453 (.cells (qt.d.cells qt.ts.length).toArray 31)] hM (qr (by simp) (qp qw)) hnL (yt hL459 hL467) (Nat.le_of_ble_eq_true rfl) (Nat.le_of_ble_eq_true rfl)) ?_)
       rintro _ w480 ⟨z473, L474, rfl, ⟨ht476, hL477, hs478, hnL2⟩, hM479⟩
       replace hnL := hnL2
       clear hnL2
       replace hLa := hLa.sub hs478.subset
       replace hLb := hLb.sub hs478.subset
       replace hL459 := hL459.sub hs478.subset
       replace hL467 := hL467.sub hs478.subset
       replace hq := hq.trans hs478
       replace hM : Mg w w480 (.obj g453 (.cells (qt.d.cells qt.ts.length).toArray 31) :: L474) := hM479
       refine ⟨_, rfl, (hM.sub (.cons _ hq)), ?_⟩
       intro a hA
       refine qy (by kernel_rfl) (jz (us := (z473.d.cells z473.ts.length)) (L' := (.obj g453 (.cells (z473.d.cells z473.ts.length).toArray 31) :: L474)) hA hM 9 rfl rfl rfl (zh rfl rfl rfl (by kernel_rfl) hM 0 rfl rfl rfl) 0 rfl rfl rfl ?_)
       intro w481 hM
       refine ⟨(hM.sub (.cons _ hq)), ?_⟩
       refine zw (by kernel_rfl) ?_
       exact hJ68 _ _ ⟨z473, g453, L474, hL477, (by rw [ht476, List.map_cons, List.map_cons, List.map_nil, ht458, ht466]; rfl), hnL, hq, hA.keep _ (by repeat' constructor), hM⟩
   · refine kj (vs := [.int .i64 0, .int .i64 0, .bool false, .slice none 0 0, .slice none 0 0, .bool false, .slice none 0 0, .slice none 0 0, .string (⟨#[]⟩), .slice none 0 0, .slice none 0 0]) (t := 31) hA hM 8 rfl rfl rfl rfl (fun g => .pointer (some ⟨g, 0, none⟩)) (zd (z := .agg (qt.d.cells qt.ts.length).toArray) (by kernel_rfl) rfl) (by decide) ?_
     intro g482 w483 hM
     refine ⟨(hM.sub (cN (cN (List.Sublist.refl _)))), ?_⟩
     intro a hA
     refine qy (by kernel_rfl) (jk (e := 31) (sz := 11) (m := 1) (vs := cellsOf [ta]) hA hM 1 rfl rfl rfl rfl (qx rfl (by kernel_rfl)) rfl rfl (by decide) ?_)
     intro g484 w485 hM _ _
     refine ⟨(hM.sub (cN (cN (cN (List.Sublist.refl _))))), ?_⟩
     intro a hA
     refine qy (by kernel_rfl) (zn hA 2 rfl rfl rfl rfl (qh rfl rfl (fun w => by kernel_rfl)) (zv (s := xq) (ts := [ta]) [.obj g482 (.cells (qt.d.cells qt.ts.length).toArray 31), .row 31 11 (.slice (some ⟨g375, 0, none⟩) 1 1) 1 (cellsOf [tb])] hM (qr (by simp) (qr (by simp) (qp qw))) hnL (kp hLa) (Nat.le_of_ble_eq_true rfl) (Nat.le_of_ble_eq_true rfl)) ?_)
     rintro _ w493 ⟨z486, L487, rfl, ⟨ht489, hL490, hs491, hnL2⟩, hM492⟩
     replace hnL := hnL2
     clear hnL2
     replace hLa := hLa.sub hs491.subset
     replace hLb := hLb.sub hs491.subset
     have hq := hs491
     replace hM : Mg w w493 (.obj g482 (.cells (qt.d.cells qt.ts.length).toArray 31) :: .row 31 11 (.slice (some ⟨g375, 0, none⟩) 1 1) 1 (cellsOf [tb]) :: L487) := hM492
     refine ⟨_, rfl, (hM.sub (.cons _ (.cons _ hq))), ?_⟩
     intro a hA
     replace hM : Mg w w493 (.row 31 11 (.slice (some ⟨g375, 0, none⟩) 1 1) 1 (cellsOf [tb]) :: .obj g482 (.cells (qt.d.cells qt.ts.length).toArray 31) :: L487) := hM.bringJ 1 rfl rfl
     refine qy (by kernel_rfl) (zn hA 5 rfl rfl rfl rfl (qh rfl rfl (fun w => by kernel_rfl)) (zv (s := xq) (ts := [tb]) [.obj g482 (.cells (qt.d.cells qt.ts.length).toArray 31)] hM (qr (by simp) (qp qw)) hnL (kp hLb) (Nat.le_of_ble_eq_true rfl) (Nat.le_of_ble_eq_true rfl)) ?_)
     rintro _ w501 ⟨z494, L495, rfl, ⟨ht497, hL498, hs499, hnL2⟩, hM500⟩
     replace hnL := hnL2
     clear hnL2
     replace hLa := hLa.sub hs499.subset
     replace hLb := hLb.sub hs499.subset
     replace hL490 := hL490.sub hs499.subset
     replace hq := hq.trans hs499
     replace hM : Mg w w501 (.obj g482 (.cells (qt.d.cells qt.ts.length).toArray 31) :: L495) := hM500
     refine ⟨_, rfl, (hM.sub (.cons _ hq)), ?_⟩
     intro a hA
     refine qy (by kernel_rfl) (jk (e := 31) (sz := 11) (m := 2) (vs := cellsOf [z486, z494]) hA hM 6 rfl rfl rfl rfl (qx rfl (by kernel_rfl)) rfl rfl (by decide) ?_)
     intro g502 w503 hM _ _
     refine ⟨(hM.sub (.cons _ (.cons _ hq))), ?_⟩
     intro a hA
     refine qy (by kernel_rfl) (zn hA 7 rfl rfl rfl rfl (qh rfl rfl (fun w => by kernel_rfl)) (zv (s := xy) (ts := [z486, z494]) [.obj g482 (.cells (qt.d.cells qt.ts.length).toArray 31)] hM (qr (by simp) (qp qw)) hnL (yt hL490 hL498) (Nat.le_of_ble_eq_true rfl) (Nat.le_of_ble_eq_true rfl)) ?_)
     rintro _ w511 ⟨z504, L505, rfl, ⟨ht507, hL508, hs509, hnL2⟩, hM510⟩
     replace hnL := hnL2
     clear hnL2
     replace hLa := hLa.sub hs509.subset
     replace hLb := hLb.sub hs509.subset
     replace hL490 := hL490.sub hs509.subset
     replace hL498 := hL498.sub hs509.subset
     replace hq := hq.trans hs509
     replace hM : Mg w w511 (.obj g482 (.cells (qt.d.cells qt.ts.length).toArray 31) :: L505) := hM510
     refine ⟨_, rfl, (hM.sub (.cons _ hq)), ?_⟩
     intro a hA
     refine qy (by kernel_rfl) (jz (us := (z504.d.cells z504.ts.length)) (L' := (.obj g482 (.cells (z504.d.cells z504.ts.length).toArray 31) :: L505)) hA hM 9 rfl rfl rfl (zh rfl rfl rfl (by kernel_rfl) hM 0 rfl rfl rfl) 0 rfl rfl rfl ?_)
     intro w512 hM
     refine ⟨(hM.sub (.cons _ hq)), ?_⟩
     refine zw (by kernel_rfl) ?_
     exact hJ68 _ _ ⟨z504, g482, L505, hL508, (by rw [ht507, List.map_cons, List.map_cons, List.map_nil, ht489, ht497]; rfl), hnL, hq, hA.keep _ (by repeat' constructor), hM⟩
 · refine kj (vs := [.int .i64 0, .int .i64 0, .bool false, .slice none 0 0, .slice none 0 0, .bool false, .slice none 0 0, .slice none 0 0, .string (⟨#[]⟩), .slice none 0 0, .slice none 0 0]) (t := 31) hA hM 8 rfl rfl rfl rfl (fun g => .pointer (some ⟨g, 0, none⟩)) (zd (z := .agg (qt.d.cells qt.ts.length).toArray) (by kernel_rfl) rfl) (by decide) ?_
   intro g513 w514 hM
   refine ⟨(hM.sub (cN (List.Sublist.refl _))), ?_⟩
   intro a hA
   refine js (rs := [1, 4]) (by kernel_rfl) (by simp) ⟨?_, ?_, trivial⟩
   · refine jk (e := 31) (sz := 11) (m := 1) (vs := cellsOf [ta]) hA hM 1 rfl rfl rfl rfl (qx rfl (by kernel_rfl)) rfl rfl (by decide) ?_
     intro g515 w516 hM _ _
     refine ⟨(hM.sub (cN (cN (List.Sublist.refl _)))), ?_⟩
     intro a hA
     refine js (rs := [2, 4]) (by kernel_rfl) (by simp) ⟨?_, ?_, trivial⟩
     · refine zn hA 2 rfl rfl rfl rfl (qh rfl rfl (fun w => by kernel_rfl)) (zv (s := xq) (ts := [ta]) [.obj g513 (.cells (qt.d.cells qt.ts.length).toArray 31)] hM (qr (by simp) (qp qw)) hnL (kp hLa) (Nat.le_of_ble_eq_true rfl) (Nat.le_of_ble_eq_true rfl)) ?_
       rintro _ w524 ⟨z517, L518, rfl, ⟨ht520, hL521, hs522, hnL2⟩, hM523⟩
       replace hnL := hnL2
       clear hnL2
       replace hLa := hLa.sub hs522.subset
       replace hLb := hLb.sub hs522.subset
       have hq := hs522
       replace hM : Mg w w524 (.obj g513 (.cells (qt.d.cells qt.ts.length).toArray 31) :: L518) := hM523
       refine ⟨_, rfl, (hM.sub (.cons _ hq)), ?_⟩
       intro a hA
       refine qy (by kernel_rfl) (jk (e := 31) (sz := 11) (m := 1) (vs := cellsOf [tb]) hA hM 4 rfl rfl rfl rfl (qx rfl (by kernel_rfl)) rfl rfl (by decide) ?_)
       intro g525 w526 hM _ _
       refine ⟨(hM.sub (.cons _ (.cons _ hq))), ?_⟩
       intro a hA
       refine qy (by kernel_rfl) (zn hA 5 rfl rfl rfl rfl (qh rfl rfl (fun w => by kernel_rfl)) (zv (s := xq) (ts := [tb]) [.obj g513 (.cells (qt.d.cells qt.ts.length).toArray 31)] hM (qr (by simp) (qp qw)) hnL (kp hLb) (Nat.le_of_ble_eq_true rfl) (Nat.le_of_ble_eq_true rfl)) ?_)
       rintro _ w534 ⟨z527, L528, rfl, ⟨ht530, hL531, hs532, hnL2⟩, hM533⟩
       replace hnL := hnL2
       clear hnL2
       replace hLa := hLa.sub hs532.subset
       replace hLb := hLb.sub hs532.subset
       replace hL521 := hL521.sub hs532.subset
       replace hq := hq.trans hs532
       replace hM : Mg w w534 (.obj g513 (.cells (qt.d.cells qt.ts.length).toArray 31) :: L528) := hM533
       refine ⟨_, rfl, (hM.sub (.cons _ hq)), ?_⟩
       intro a hA
       refine qy (by kernel_rfl) (jk (e := 31) (sz := 11) (m := 2) (vs := cellsOf [z517, z527]) hA hM 6 rfl rfl rfl rfl (qx rfl (by kernel_rfl)) rfl rfl (by decide) ?_)
       intro g535 w536 hM _ _
       refine ⟨(hM.sub (.cons _ (.cons _ hq))), ?_⟩
       intro a hA
       refine qy (by kernel_rfl) (zn hA 7 rfl rfl rfl rfl (qh rfl rfl (fun w => by kernel_rfl)) (zv (s := xy) (ts := [z517, z527]) [.obj g513 (.cells (qt.d.cells qt.ts.length).toArray 31)] hM (qr (by simp) (qp qw)) hnL (yt hL521 hL531) (Nat.le_of_ble_eq_true rfl) (Nat.le_of_ble_eq_true rfl)) ?_)
       rintro _ w544 ⟨z537, L538, rfl, ⟨ht540, hL541, hs542, hnL2⟩, hM543⟩
       replace hnL := hnL2
       clear hnL2
       replace hLa := hLa.sub hs542.subset
       replace hLb := hLb.sub hs542.subset
       replace hL521 := hL521.sub hs542.subset
       replace hL531 := hL531.sub hs542.subset
       replace hq := hq.trans hs542
       replace hM : Mg w w544 (.obj g513 (.cells (qt.d.cells qt.ts.length).toArray 31) :: L538) := hM543
       refine ⟨_, rfl, (hM.sub (.cons _ hq)), ?_⟩
       intro a hA
       refine qy (by kernel_rfl) (jz (us := (z537.d.cells z537.ts.length)) (L' := (.obj g513 (.cells (z537.d.cells z537.ts.length).toArray 31) :: L538)) hA hM 9 rfl rfl rfl (zh rfl rfl rfl (by kernel_rfl) hM 0 rfl rfl rfl) 0 rfl rfl rfl ?_)
       intro w545 hM
       refine ⟨(hM.sub (.cons _ hq)), ?_⟩
       refine zw (by kernel_rfl) ?_
       exact hJ68 _ _ ⟨z537, g513, L538, hL541, (by rw [ht540, List.map_cons, List.map_cons, List.map_nil, ht520, ht530]; rfl), hnL, hq, hA.keep _ (by repeat' constructor), hM⟩
     · refine jk (e := 31) (sz := 11) (m := 1) (vs := cellsOf [tb]) hA hM 4 rfl rfl rfl rfl (qx rfl (by kernel_rfl)) rfl rfl (by decide) ?_
       intro g546 w547 hM _ _
       refine ⟨(hM.sub (cN (cN (cN (List.Sublist.refl _))))), ?_⟩
       intro a hA
       replace hM : Mg w w547 (.row 31 11 (.slice (some ⟨g515, 0, none⟩) 1 1) 1 (cellsOf [ta]) :: .row 31 11 (.slice (some ⟨g546, 0, none⟩) 1 1) 1 (cellsOf [tb]) :: .obj g513 (.cells (qt.d.cells qt.ts.length).toArray 31) :: L65) := hM.bringJ 1 rfl rfl
       refine qy (by kernel_rfl) (zn hA 2 rfl rfl rfl rfl (qh rfl rfl (fun w => by kernel_rfl)) (zv (s := xq) (ts := [ta]) [.row 31 11 (.slice (some ⟨g546, 0, none⟩) 1 1) 1 (cellsOf [tb]), .obj g513 (.cells (qt.d.cells qt.ts.length).toArray 31)] hM (qr (by simp) (qr (by simp) (qp qw))) hnL (kp hLa) (Nat.le_of_ble_eq_true rfl) (Nat.le_of_ble_eq_true rfl)) ?_)
       rintro _ w555 ⟨z548, L549, rfl, ⟨ht551, hL552, hs553, hnL2⟩, hM554⟩
       replace hnL := hnL2
       clear hnL2
       replace hLa := hLa.sub hs553.subset
       replace hLb := hLb.sub hs553.subset
       have hq := hs553
       replace hM : Mg w w555 (.row 31 11 (.slice (some ⟨g546, 0, none⟩) 1 1) 1 (cellsOf [tb]) :: .obj g513 (.cells (qt.d.cells qt.ts.length).toArray 31) :: L549) := hM554
       refine ⟨_, rfl, (hM.sub (.cons _ (.cons _ hq))), ?_⟩
       intro a hA
       refine qy (by kernel_rfl) (zn hA 5 rfl rfl rfl rfl (qh rfl rfl (fun w => by kernel_rfl)) (zv (s := xq) (ts := [tb]) [.obj g513 (.cells (qt.d.cells qt.ts.length).toArray 31)] hM (qr (by simp) (qp qw)) hnL (kp hLb) (Nat.le_of_ble_eq_true rfl) (Nat.le_of_ble_eq_true rfl)) ?_)
       rintro _ w563 ⟨z556, L557, rfl, ⟨ht559, hL560, hs561, hnL2⟩, hM562⟩
       replace hnL := hnL2
       clear hnL2
       replace hLa := hLa.sub hs561.subset
       replace hLb := hLb.sub hs561.subset
       replace hL552 := hL552.sub hs561.subset
       replace hq := hq.trans hs561
       replace hM : Mg w w563 (.obj g513 (.cells (qt.d.cells qt.ts.length).toArray 31) :: L557) := hM562
       refine ⟨_, rfl, (hM.sub (.cons _ hq)), ?_⟩
       intro a hA
       refine qy (by kernel_rfl) (jk (e := 31) (sz := 11) (m := 2) (vs := cellsOf [z548, z556]) hA hM 6 rfl rfl rfl rfl (qx rfl (by kernel_rfl)) rfl rfl (by decide) ?_)
       intro g564 w565 hM _ _
       refine ⟨(hM.sub (.cons _ (.cons _ hq))), ?_⟩
       intro a hA
       refine qy (by kernel_rfl) (zn hA 7 rfl rfl rfl rfl (qh rfl rfl (fun w => by kernel_rfl)) (zv (s := xy) (ts := [z548, z556]) [.obj g513 (.cells (qt.d.cells qt.ts.length).toArray 31)] hM (qr (by simp) (qp qw)) hnL (yt hL552 hL560) (Nat.le_of_ble_eq_true rfl) (Nat.le_of_ble_eq_true rfl)) ?_)
       rintro _ w573 ⟨z566, L567, rfl, ⟨ht569, hL570, hs571, hnL2⟩, hM572⟩
       replace hnL := hnL2
       clear hnL2
       replace hLa := hLa.sub hs571.subset
       replace hLb := hLb.sub hs571.subset
       replace hL552 := hL552.sub hs571.subset
       replace hL560 := hL560.sub hs571.subset
       replace hq := hq.trans hs571
       replace hM : Mg w w573 (.obj g513 (.cells (qt.d.cells qt.ts.length).toArray 31) :: L567) := hM572
       refine ⟨_, rfl, (hM.sub (.cons _ hq)), ?_⟩
       intro a hA
       refine qy (by kernel_rfl) (jz (us := (z566.d.cells z566.ts.length)) (L' := (.obj g513 (.cells (z566.d.cells z566.ts.length).toArray 31) :: L567)) hA hM 9 rfl rfl rfl (zh rfl rfl rfl (by kernel_rfl) hM 0 rfl rfl rfl) 0 rfl rfl rfl ?_)
       intro w574 hM
       refine ⟨(hM.sub (.cons _ hq)), ?_⟩
       refine zw (by kernel_rfl) ?_
       exact hJ68 _ _ ⟨z566, g513, L567, hL570, (by rw [ht569, List.map_cons, List.map_cons, List.map_nil, ht551, ht559]; rfl), hnL, hq, hA.keep _ (by repeat' constructor), hM⟩
   · refine jk (e := 31) (sz := 11) (m := 1) (vs := cellsOf [tb]) hA hM 4 rfl rfl rfl rfl (qx rfl (by kernel_rfl)) rfl rfl (by decide) ?_
     intro g575 w576 hM _ _
     refine ⟨(hM.sub (cN (cN (List.Sublist.refl _)))), ?_⟩
     intro a hA
     refine qy (by kernel_rfl) (jk (e := 31) (sz := 11) (m := 1) (vs := cellsOf [ta]) hA hM 1 rfl rfl rfl rfl (qx rfl (by kernel_rfl)) rfl rfl (by decide) ?_)
     intro g577 w578 hM _ _
     refine ⟨(hM.sub (cN (cN (cN (List.Sublist.refl _))))), ?_⟩
     intro a hA
     refine qy (by kernel_rfl) (zn hA 2 rfl rfl rfl rfl (qh rfl rfl (fun w => by kernel_rfl)) (zv (s := xq) (ts := [ta]) [.row 31 11 (.slice (some ⟨g575, 0, none⟩) 1 1) 1 (cellsOf [tb]), .obj g513 (.cells (qt.d.cells qt.ts.length).toArray 31)] hM (qr (by simp) (qr (by simp) (qp qw))) hnL (kp hLa) (Nat.le_of_ble_eq_true rfl) (Nat.le_of_ble_eq_true rfl)) ?_)
     rintro _ w586 ⟨z579, L580, rfl, ⟨ht582, hL583, hs584, hnL2⟩, hM585⟩
     replace hnL := hnL2
     clear hnL2
     replace hLa := hLa.sub hs584.subset
     replace hLb := hLb.sub hs584.subset
     have hq := hs584
     replace hM : Mg w w586 (.row 31 11 (.slice (some ⟨g575, 0, none⟩) 1 1) 1 (cellsOf [tb]) :: .obj g513 (.cells (qt.d.cells qt.ts.length).toArray 31) :: L580) := hM585
     refine ⟨_, rfl, (hM.sub (.cons _ (.cons _ hq))), ?_⟩
     intro a hA
     refine qy (by kernel_rfl) (zn hA 5 rfl rfl rfl rfl (qh rfl rfl (fun w => by kernel_rfl)) (zv (s := xq) (ts := [tb]) [.obj g513 (.cells (qt.d.cells qt.ts.length).toArray 31)] hM (qr (by simp) (qp qw)) hnL (kp hLb) (Nat.le_of_ble_eq_true rfl) (Nat.le_of_ble_eq_true rfl)) ?_)
     rintro _ w594 ⟨z587, L588, rfl, ⟨ht590, hL591, hs592, hnL2⟩, hM593⟩
     replace hnL := hnL2
     clear hnL2
     replace hLa := hLa.sub hs592.subset
     replace hLb := hLb.sub hs592.subset
     replace hL583 := hL583.sub hs592.subset
     replace hq := hq.trans hs592
     replace hM : Mg w w594 (.obj g513 (.cells (qt.d.cells qt.ts.length).toArray 31) :: L588) := hM593
     refine ⟨_, rfl, (hM.sub (.cons _ hq)), ?_⟩
     intro a hA
     refine qy (by kernel_rfl) (jk (e := 31) (sz := 11) (m := 2) (vs := cellsOf [z579, z587]) hA hM 6 rfl rfl rfl rfl (qx rfl (by kernel_rfl)) rfl rfl (by decide) ?_)
     intro g595 w596 hM _ _
     refine ⟨(hM.sub (.cons _ (.cons _ hq))), ?_⟩
     intro a hA
     refine qy (by kernel_rfl) (zn hA 7 rfl rfl rfl rfl (qh rfl rfl (fun w => by kernel_rfl)) (zv (s := xy) (ts := [z579, z587]) [.obj g513 (.cells (qt.d.cells qt.ts.length).toArray 31)] hM (qr (by simp) (qp qw)) hnL (yt hL583 hL591) (Nat.le_of_ble_eq_true rfl) (Nat.le_of_ble_eq_true rfl)) ?_)
     rintro _ w604 ⟨z597, L598, rfl, ⟨ht600, hL601, hs602, hnL2⟩, hM603⟩
     replace hnL := hnL2
     clear hnL2
     replace hLa := hLa.sub hs602.subset
     replace hLb := hLb.sub hs602.subset
     replace hL583 := hL583.sub hs602.subset
     replace hL591 := hL591.sub hs602.subset
     replace hq := hq.trans hs602
     replace hM : Mg w w604 (.obj g513 (.cells (qt.d.cells qt.ts.length).toArray 31) :: L598) := hM603
     refine ⟨_, rfl, (hM.sub (.cons _ hq)), ?_⟩
     intro a hA
     refine qy (by kernel_rfl) (jz (us := (z597.d.cells z597.ts.length)) (L' := (.obj g513 (.cells (z597.d.cells z597.ts.length).toArray 31) :: L598)) hA hM 9 rfl rfl rfl (zh rfl rfl rfl (by kernel_rfl) hM 0 rfl rfl rfl) 0 rfl rfl rfl ?_)
     intro w605 hM
     refine ⟨(hM.sub (.cons _ hq)), ?_⟩
     refine zw (by kernel_rfl) ?_
     exact hJ68 _ _ ⟨z597, g513, L598, hL601, (by rw [ht600, List.map_cons, List.map_cons, List.map_nil, ht582, ht590]; rfl), hnL, hq, hA.keep _ (by repeat' constructor), hM⟩
end Go.Proofs.YtoopkbedjbnhhabGreatDoor.G
namespace Go.Proofs.YtoopkbedjbnhhabGreatDoor

section
variable {H : Type}
theorem bulk_pos (d : DataW H) : 0 < Rows.uptoBulk d := by
  unfold Rows.uptoBulk
  split <;> omega
theorem bulk_len : ∀ l : List (DataW H), l.length ≤ Rows.uptoBulkAll l
  | [] => by simp
  | d :: l => by
    have h1 := bulk_pos d
    have h2 := bulk_len l
    simp only [Rows.uptoBulkAll, List.length_cons]
    omega
theorem qkd (xs ys : List (DataW H)) : xs.length ≤ Rows.uptoBulk (.slice xs ys) := by
  have := bulk_len xs
  simp only [Rows.uptoBulk]
  omega
theorem bulk_in {d : DataW H} : ∀ {l : List (DataW H)}, d ∈ l → Rows.uptoBulk d ≤ Rows.uptoBulkAll l
  | c :: l, h => by
    simp only [Rows.uptoBulkAll]
    rcases List.mem_cons.1 h with rfl | h
    · omega
    · have := bulk_in h
      omega
theorem bulk_at {l : List (DataW H)} (hk : Rows.uptoSmall H l = true) {j : Nat} {d : DataW H} (hd : l[j]? = some d) : Rows.uptoBulk d ≤ 1048576 :=
  Nat.le_trans (bulk_in (List.mem_of_getElem? hd)) (of_decide_eq_true hk)
end
end Go.Proofs.YtoopkbedjbnhhabGreatDoor
namespace Go.Proofs.YtoopkbedjbnhhabGreatDoor.G
open Go.ChangeShapes Go.WideShapes Go.ChangeAt Go.RowKit Go.Joins Go.Deep
set_option maxRecDepth 100000

section
variable {H : Type} {enc : TypeId × Value → H} {W : World}
end
end Go.Proofs.YtoopkbedjbnhhabGreatDoor.G
namespace Go.Proofs.YtoopkbedjbnhhabGreatDoor.G
open Go.ChangeShapes Go.WideShapes Go.ChangeAt Go.RowKit Go.Joins Go.Deep
set_option maxRecDepth 100000

theorem bytes_row {w : World} {x : Addr} {len cap : Nat} {zs : List Int} (hl : len ≤ cap) (hz : zs.length = cap)
    (hc : ∀ i, i < zs.length → w.cell? (x.add i) = some (.int .u8 (zs.getD i 0))) (hw : ∀ n ∈ zs, (Lit.int .u8 n).wf = true) :
    ∃ l : List UInt8, l.length = len ∧ Rb w (some x) l := by
  have hbd : ∀ n ∈ zs, 0 ≤ n ∧ n < 256 := by
    intro n hn
    have := bounds_u8 (hw n hn)
    omega
  refine ⟨(zs.take len).map b8, by rw [List.length_map, List.length_take]; omega, ⟨fun hne => ?_⟩⟩
  have hlen : ((zs.take len).map b8).length = len := by rw [List.length_map, List.length_take]; omega
  have h0 : 0 < len := by
    apply Classical.byContradiction
    intro h
    have : len = 0 := by omega
    subst this
    simp at hne
  obtain ⟨b, off, spot⟩ := x
  have hspot : spot = none := by
    have := hc 0 (by omega)
    simp only [World.cell?, Addr.add] at this
    split at this
    · cases spot with
      | none => rfl
      | some s => simp at this
    · cases this
  subst hspot
  have hcj : ∀ j, j < len → w.cell? ⟨b, off + j, none⟩ = some (.int .u8 (((((zs.take len).map b8).getD j 0).toNat : Nat) : Int)) := by
    intro j hj
    have h1 := hc j (by omega)
    rw [Addr.add_lit] at h1
    rw [h1]
    have hjz : j < zs.length := by omega
    have h2 := hbd zs[j] (List.getElem_mem hjz)
    have e1 : zs.getD j 0 = zs[j] := by simp [hjz]
    have e2 : ((zs.take len).map b8).getD j 0 = b8 zs[j] := by simp [List.getD_eq_getElem?_getD, hj, hjz]
    rw [e1, e2, b8_val h2.1 h2.2]
  refine ⟨b, off, rfl, ?_, fun j hj => hcj j (by omega)⟩
  have := hcj 0 h0
  apply Classical.byContradiction
  intro h
  simp [World.cell?, Array.getElem?_eq_none (Nat.le_of_not_lt h)] at this
section
variable {H : Type} {enc : TypeId × Value → H} {W : World}
end
theorem Rb.take {w : World} {so : Option Addr} {l : List UInt8} (h : Rb w so l) (n : Nat) : Rb w so (l.take n) := by
  refine ⟨fun hne => ?_⟩
  obtain ⟨b, off, h1, h2, h3⟩ := h.pos (fun k => hne (by rw [k]; simp))
  refine ⟨b, off, h1, h2, fun j hj => ?_⟩
  rw [List.length_take] at hj
  rw [h3 j (by omega), List.getD_eq_getElem?_getD, List.getD_eq_getElem?_getD, List.getElem?_take_of_lt (by omega)]
section
variable {P : Program} {w : World} {l : List (Nat × Value)} {dst : Option Tmp} {ty : TypeId} {pos : String} {after : Array Edge} {guard : Option (Nat × Bool)}
end
end Go.Proofs.YtoopkbedjbnhhabGreatDoor.G
