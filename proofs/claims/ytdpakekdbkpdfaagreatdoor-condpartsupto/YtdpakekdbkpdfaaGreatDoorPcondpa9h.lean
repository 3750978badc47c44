/- The walk of the document's utf8. Units of a text as rows; when a text has no bad byte. Walks of the document's Sound. The walk of the document's Sound. The walk of the document's sameness of data. Walks of conditions that are joined and looked through. Walks of the document on conditions. The walk of the law of parts. What a bound on the bulk of what is read gives. Transcoders that come in as arguments. Rows of bytes that come in as arguments; the first part of a row, and of a text. Data that come in as arguments. Record types, and scripts over a store, that come in as arguments. Conditions that come in as arguments. -/
import Derived.Test.YtdpakekdbkpdfaaGreatDoorPcondpa9d
import Derived.Test.YtdpakekdbkpdfaaGreatDoorProg
import Derived.Test.YtdpakekdbkpdfaaGreatDoorPcondpa9f
import Derived.Lib.ConvBytes
import Derived.Test.YtdpakekdbkpdfaaGreatDoorPcondpa9c
import Derived.Test.YtdpakekdbkpdfaaGreatDoorPcondpa9g
import Derived.Test.YtdpakekdbkpdfaaGreatDoorRows
import Derived.WalkKit
import Derived.ProofKit
import Derived.OpenShut
import Derived.ChangeOld
import Derived.Lib.SmallJoins
import Derived.Deep.Strs
import Derived.Deep.Slices
import Derived.Deep.SlicePairs
import Derived.DataElems
namespace Go.Proofs.YtdpakekdbkpdfaaGreatDoor.G
open Go.RowKit
set_option linter.unusedVariables false
set_option linter.unusedSimpArgs false
set_option maxRecDepth 100000
theorem TrU_is1_21 : Is1 Tryz.prog 21 := ⟨⟨_, Tryz.underlying21, rfl⟩, by kernel_rfl⟩
theorem TrU_is1_5 : Is1 Tryz.prog 5 := ⟨⟨_, Tryz.underlying5, rfl⟩, by kernel_rfl⟩
open Go.Lib
theorem qhc {f p : Nat} {l : List UInt8} (hl : l ≠ []) : vd (f + 1) p l = ((p : Int), uR (decodeL l).1 (decodeL l).2) :: vd f (p + (decodeL l).2) (l.drop (decodeL l).2) := by
 conv => lhs; unfold vd
 rw [if_neg hl]
theorem qie {w : World} {so : Option Addr} {l : List UInt8} {i : Nat} (h : Rb w so l) (hi : i < l.length) : ∃ b off, so = some ⟨b, off, none⟩ ∧ b < w.heap.size ∧ ∀ j, j < l.length → w.cell? ⟨b, off + j, none⟩ = some (.int .u8 (((l.getD j 0).toNat : Nat) : Int)) :=
 h.pos (fun k => by rw [k] at hi; exact absurd hi (Nat.not_lt_zero _))
/-- Units as the document keeps them: a character, whether there is none, its place. -/
def jw (us : List (Int × Int)) : List Value := us.flatMap fun u => if u.2 = -1 then [.int .i32 0, .bool true, .int .i64 u.1] else [.int .i32 u.2, .bool false, .int .i64 u.1]
theorem and_u8 {x : Int} (i : Nat) (m : Int) (hm : m = ((2 ^ i - 1 : Nat) : Int)) (hs : m ≤ 255) (h0 : 0 ≤ x) (h1 : x ≤ 255) : bits .and .u8 x m = x % ((2 ^ i : Nat) : Int) := by
 obtain ⟨n, rfl⟩ : ∃ n : Nat, x = (n : Int) := ⟨x.toNat, by omega⟩
 subst hm
 have h2 : n &&& (2 ^ i - 1) = n % 2 ^ i := Nat.and_two_pow_sub_one_eq_mod n i
 have e : (BitVec.ofInt IntKind.u8.bits (n : Int) &&& BitVec.ofInt IntKind.u8.bits (((2 ^ i - 1 : Nat)) : Int)).toNat = n % 2 ^ i := by
  rw [← h2, BitVec.ofInt_natCast, BitVec.ofInt_natCast, BitVec.toNat_and, BitVec.toNat_ofNat, BitVec.toNat_ofNat]
  show n % 256 &&& (2 ^ i - 1) % 256 = _
  rw [Nat.mod_eq_of_lt (by omega), Nat.mod_eq_of_lt (by omega)]
 show IntKind.u8.wrap ((BitVec.ofInt IntKind.u8.bits (n : Int) &&& BitVec.ofInt IntKind.u8.bits (((2 ^ i - 1 : Nat)) : Int)).toNat : Int) = _
 rw [e]
 have := Nat.mod_le n (2 ^ i)
 exact (in_u8 (by omega) (by omega)).trans (Int.natCast_emod n (2 ^ i))
theorem or_six {c x : Int} (h0 : 0 ≤ c) (h1 : c ≤ 33554431) (h2 : 0 ≤ x) (h3 : x ≤ 63) : bits .or .i32 (c * 64) x = c * 64 + x := by
 obtain ⟨a, rfl⟩ : ∃ a : Nat, c = (a : Int) := ⟨c.toNat, by omega⟩
 obtain ⟨n, rfl⟩ : ∃ n : Nat, x = (n : Int) := ⟨x.toNat, by omega⟩
 have := Nat.two_pow_add_eq_or_of_lt (i := 6) (b := n) (by omega) a
 rw [show (2 : Nat) ^ 6 = 64 from rfl] at this
 have e := or_i32 (64 * a) n (by omega) (by omega)
 rw [show (((64 * a : Nat)) : Int) = (a : Int) * 64 from by omega] at e
 rw [e, ← this]
 omega
/-- The units from a place on. -/
def qhd (l : List UInt8) (i : Nat) : List (Int × Int) := vd (l.length - i) i (l.drop i)
theorem restU_zero (l : List UInt8) : qhd l 0 = jo l := by unfold qhd jo; rw [List.drop_zero, Nat.sub_zero]
theorem restU_over {l : List UInt8} {i : Nat} (h : ¬ i < l.length) : qhd l i = [] := by unfold qhd; rw [show l.length - i = 0 from by omega]; rfl
theorem qlf {l : List UInt8} {i r q : Nat} (h : i < l.length) (e : decodeN (l.length - i) (l.getD i 0).toNat (l.getD (i + 1) 0).toNat (l.getD (i + 2) 0).toNat (l.getD (i + 3) 0).toNat = (r, q)) : qhd l i = ((i : Int), uR r q) :: qhd l (i + q) := by
 have hne : l.drop i ≠ [] := fun k => by
  have := congrArg List.length k
  rw [List.length_drop, List.length_nil] at this
  omega
 have hd : decodeL (l.drop i) = (r, q) := by
  rw [decodeL_N, yw, yw, yw, yw, List.length_drop]
  exact e
 have hw := yd _ hne
 rw [hd, List.length_drop] at hw
 simp only at hw
 unfold qhd
 obtain ⟨m, hm⟩ : ∃ m, l.length - i = m + 1 := ⟨l.length - i - 1, by omega⟩
 rw [hm, qhc hne, hd, List.drop_drop]
 simp only
 rw [qfj m (l.length - (i + q)) _ _ (by rw [List.length_drop]; omega) (by rw [List.length_drop]; omega)]
/-- What the first byte of a character says. -/
def LeadU (x n : Nat) (r : Int) : Prop := (x < 128 ∧ n = 1 ∧ r = x) ∨ (192 ≤ x ∧ x < 224 ∧ n = 2 ∧ r = x % 32) ∨ (224 ≤ x ∧ x < 240 ∧ n = 3 ∧ r = x % 16) ∨ (240 ≤ x ∧ x < 248 ∧ n = 4 ∧ r = x % 8) ∨ ((128 ≤ x ∧ x < 192 ∨ 248 ≤ x) ∧ n = 0 ∧ r = 0)
/-- The bytes behind it, so far. -/
def ContU (len i n : Nat) (b1 b2 b3 : Nat) (r : Int) (k : Nat) (rk : Int) (ok : Bool) : Prop := (ok = true ∧ 0 < n ∧ i + n ≤ len ∧ k ≤ n ∧ ((k = 1 ∧ rk = r) ∨ (k = 2 ∧ b1 / 64 = 2 ∧ rk = r * 64 + ((b1 % 64 : Nat) : Int)) ∨ (k = 3 ∧ b1 / 64 = 2 ∧ b2 / 64 = 2 ∧ rk = (r * 64 + ((b1 % 64 : Nat) : Int)) * 64 + ((b2 % 64 : Nat) : Int)) ∨ (k = 4 ∧ b1 / 64 = 2 ∧ b2 / 64 = 2 ∧ b3 / 64 = 2 ∧ rk = ((r * 64 + ((b1 % 64 : Nat) : Int)) * 64 + ((b2 % 64 : Nat) : Int)) * 64 + ((b3 % 64 : Nat) : Int)))) ∨
 (ok = false ∧ (¬ (0 < n ∧ i + n ≤ len) ∨ (1 < n ∧ b1 / 64 ≠ 2) ∨ (2 < n ∧ b2 / 64 ≠ 2) ∨ (3 < n ∧ b3 / 64 ≠ 2)))
def qca (n : Nat) : Int := if n = 2 then 128 else if n = 3 then 2048 else 65536
theorem least_at {n : Nat} (h0 : 2 ≤ n) (h1 : n ≤ 4) : ([.int .i32 0, .int .i32 0, .int .i32 128, .int .i32 2048, .int .i32 65536] : List Value)[n * 1]? = some (.int .i32 (qca n)) := by
 have h : n = 2 ∨ n = 3 ∨ n = 4 := by omega
 rcases h with rfl | rfl | rfl <;> rfl
theorem lead_4 {x n : Nat} {r : Int} (h : LeadU x n r) : n ≤ 4 ∧ 0 ≤ r ∧ r ≤ 127 ∧ (1 < n → r ≤ 31) := by unfold LeadU at h; omega
theorem cont_start {len i n b1 b2 b3 : Nat} {r : Int} {ok : Bool} (h : ok = decide (0 < n ∧ i + n ≤ len)) : ContU len i n b1 b2 b3 r 1 r ok := by
 unfold ContU
 by_cases k : 0 < n ∧ i + n ≤ len
 ·
  exact .inl ⟨by rw [h, decide_eq_true k], k.1, k.2, by omega, .inl ⟨rfl, rfl⟩⟩
 ·
  exact .inr ⟨by rw [h, decide_eq_false k], .inl k⟩
theorem cont_step {l : List UInt8} {i n k : Nat} {r rk : Int} (hn : n ≤ 4) (h : ContU l.length i n (l.getD (i + 1) 0).toNat (l.getD (i + 2) 0).toNat (l.getD (i + 3) 0).toNat r k rk true) (hk : k < n) : ContU l.length i n (l.getD (i + 1) 0).toNat (l.getD (i + 2) 0).toNat (l.getD (i + 3) 0).toNat r (k + 1) (rk * 64 + (((l.getD (i + k) 0).toNat : Nat) : Int) % 64) ((((l.getD (i + k) 0).toNat : Nat) : Int) / 64 == 2) := by
 rcases h with ⟨_, h1, h2, h3, h4⟩ | ⟨h, _⟩
 ·
  unfold ContU
  have e : k = 1 ∨ k = 2 ∨ k = 3 := by omega
  rcases e with rfl | rfl | rfl
  ·
   by_cases hb : (((l.getD (i + 1) 0).toNat : Nat) : Int) / 64 = 2
   ·
    exact .inl ⟨beq_iff_eq.2 hb, h1, h2, by omega, by omega⟩
   ·
    exact .inr ⟨beq_eq_false_iff_ne.2 hb, by omega⟩
  ·
   by_cases hb : (((l.getD (i + 2) 0).toNat : Nat) : Int) / 64 = 2
   ·
    exact .inl ⟨beq_iff_eq.2 hb, h1, h2, by omega, by omega⟩
   ·
    exact .inr ⟨beq_eq_false_iff_ne.2 hb, by omega⟩
  ·
   by_cases hb : (((l.getD (i + 3) 0).toNat : Nat) : Int) / 64 = 2
   ·
    exact .inl ⟨beq_iff_eq.2 hb, h1, h2, by omega, by omega⟩
   ·
    exact .inr ⟨beq_eq_false_iff_ne.2 hb, by omega⟩
 ·
  cases h
theorem kp {len i n b1 b2 b3 k : Nat} {r rk : Int} (h : ContU len i n b1 b2 b3 r k rk true) : 0 < n ∧ i + n ≤ len ∧ k ≤ n ∧ 1 ≤ k ∧ (0 ≤ r → r ≤ 31 → k ≤ 3 → 0 ≤ rk ∧ rk ≤ 200000) ∧ (0 ≤ r → r ≤ 31 → 0 ≤ rk ∧ rk ≤ 40000000) ∧ (k = 1 → rk = r) := by
 rcases h with ⟨_, h1, h2, h3, h4⟩ | ⟨h, _⟩
 ·
  omega
 ·
  cases h
def EndU (len i n : Nat) (b0 b1 b2 b3 : Nat) (rk : Int) (ok : Bool) : Prop := (ok = true ∧ decodeN (len - i) b0 b1 b2 b3 = (rk.toNat, n) ∧ uR rk.toNat n = rk ∧ 0 ≤ rk ∧ 1 ≤ n ∧ i + n ≤ len) ∨ (ok = false ∧ decodeN (len - i) b0 b1 b2 b3 = (65533, 1))
set_option maxHeartbeats 1000000 in
theorem end_ok {len i n b0 b1 b2 b3 : Nat} {r rk : Int} (hi : i < len) (h0 : b0 < 256) (hL : LeadU b0 n r) (hC : ContU len i n b1 b2 b3 r n rk true) (h : n = 1 ∨ (qca n ≤ rk ∧ rk ≤ 1114111 ∧ (rk < 55296 ∨ 57343 < rk))) : EndU len i n b0 b1 b2 b3 rk true := by
 rcases hC with ⟨_, h1, h2, h3, h4⟩ | ⟨h, _⟩
 ·
  unfold LeadU at hL
  unfold qca at h
  have hn : n = 1 ∨ n = 2 ∨ n = 3 ∨ n = 4 := by omega
  refine .inl ⟨rfl, ?_, ?_, by rcases hn with rfl | rfl | rfl | rfl <;> omega, h1, h2⟩
  ·
   unfold decodeN
   rcases hn with rfl | rfl | rfl | rfl
   ·
    rw [if_pos (by omega)]
    exact Prod.ext (by show b0 = rk.toNat; omega) rfl
   ·
    simp only [if_true] at h
    rw [if_neg (by omega), if_pos (by omega), if_pos (by omega)]
    exact Prod.ext (by show (_ : Nat) = rk.toNat; omega) rfl
   ·
    rw [if_neg (show ¬ 3 = 2 by decide), if_pos rfl] at h
    rw [if_neg (by omega), if_neg (by omega), if_pos (by omega), if_pos (by omega)]
    exact Prod.ext (by show (_ : Nat) = rk.toNat; omega) rfl
   ·
    rw [if_neg (show ¬ 4 = 2 by decide), if_neg (show ¬ 4 = 3 by decide)] at h
    rw [if_neg (by omega), if_neg (by omega), if_neg (by omega), if_pos (by omega), if_pos (by omega)]
    exact Prod.ext (by show (_ : Nat) = rk.toNat; omega) rfl
  ·
   unfold uR
   rw [if_neg (by rcases hn with rfl | rfl | rfl | rfl <;> omega)]
   rcases hn with rfl | rfl | rfl | rfl <;> omega
 ·
  cases h
set_option maxHeartbeats 1000000 in
theorem end_no {len i n b0 b1 b2 b3 k : Nat} {r rk : Int} {ok : Bool} (hi : i < len) (h0 : b0 < 256) (hL : LeadU b0 n r) (hC : ContU len i n b1 b2 b3 r k rk ok) (hk : ok = true → k = n) (h : ok = false ∨ (n ≠ 1 ∧ ¬ (qca n ≤ rk ∧ rk ≤ 1114111 ∧ (rk < 55296 ∨ 57343 < rk)))) : EndU len i n b0 b1 b2 b3 rk false := by
 refine .inr ⟨rfl, ?_⟩
 unfold LeadU at hL
 unfold decodeN
 rcases hC with ⟨hb, h1, h2, h3, h4⟩ | ⟨hb, h4⟩
 ·
  have hkn := hk hb
  subst hkn
  rcases h with h | ⟨h5, h6⟩
  ·
   rw [hb] at h; cases h
  ·
   have hn : k = 2 ∨ k = 3 ∨ k = 4 := by omega
   unfold qca at h6
   rcases hn with rfl | rfl | rfl
   ·
    simp only [if_true] at h6
    rw [if_neg (by omega), if_pos (by omega), if_neg (by omega)]
   ·
    rw [if_neg (show ¬ 3 = 2 by decide), if_pos rfl] at h6
    rw [if_neg (by omega), if_neg (by omega), if_pos (by omega), if_neg (by omega)]
   ·
    rw [if_neg (show ¬ 4 = 2 by decide), if_neg (show ¬ 4 = 3 by decide)] at h6
    rw [if_neg (by omega), if_neg (by omega), if_neg (by omega), if_pos (by omega), if_neg (by omega)]
 ·
  rw [if_neg (by omega), if_neg (by omega), if_neg (by omega), if_neg (by omega)]
set_option maxHeartbeats 4000000 in
theorem rutf8_any {w : World} {so : Option Addr} {cap : Nat} {l : List UInt8} (hb : Rb w so l) (hlen : l.length ≤ 4000000) : Calls Tryz.prog 137 #[.slice so l.length cap] w fun e w' => ∃ v, e = .returned v ∧ Mg w w' [.row 146 3 v (jo l).length (jw (jo l))] := by
 have M : Mg w w ([]) := Mg.start w
 refine qm (l := [(0, .slice so l.length cap)]) Tryz.func137 rfl Tryz.ntmps137 rfl rfl ?_
 intro Q hret hnorm hP a A
 refine wsk fun K1 hK1 => wrl (sda A λa A↦?_)
 refine qa (hK1 _ _ (wsk fun K2 hK2 => wrl (ki (e := 146) (sz := 3) (m := 0) (vs := []) A M rfl rfl rfl (zg rfl (by kernel_rfl)) rfl rfl (.inl (by decide)) ?_)))
 intro g3 w4 M a A
 refine sda A λa A↦?_
 refine qa (hK2 _ _ (wsk fun K5 hK5 => wsk fun K6 hK6 => wrl (sda A λa A↦?_)))
 refine qa (hK6 _ _ (wp_block (zq (fun m_ a w1 => ∃ (i : Nat) (acc : List (Int × Int)) (vo : Value), m_ = l.length - i ∧ (acc ++ qhd l i = jo l ∧ i ≤ l.length ∧ acc.length ≤ i) ∧ Sl a 122 [(0, .slice so l.length cap), (2, .slice none 0 0), (3, vo), (4, .int .i64 (((i : Nat) : Int))), (12, .slice (some ⟨g3, 0, none⟩) 0 0)] ∧ Mg w w1 (.row 146 3 (vo) acc.length ((jw acc)) :: [])) _ ⟨0, [], .slice (some ⟨g3, 0, none⟩) 0 0, rfl, ⟨by rw [restU_zero]; rfl, Nat.zero_le _, Nat.le_refl _⟩, A.keep _ ⟨rfl, rfl, rfl, rfl, rfl, trivial⟩, M⟩ ?_)))
 clear M A
 rintro m_ a w7 ⟨i, acc, vo, rfl, hinv9, A, M⟩ K8 hK8
 obtain ⟨hrun, hi9, hacc⟩ := hinv9
 refine wsk fun K10 hK10 => wsk fun K11 hK11 => wrl ?_
 iterate 2 refine sdm A λa A↦?_
 refine sdo A (qw Tryz.underlying51 rfl) λa A↦?_
 rcases tf (decide (((i : Nat) : Int) < ((l.length : Nat) : Int))) with hb12 | hb12
 ·
  have hb12' := of_decide_eq_true hb12
  refine sdc A qx hb12 λa A↦?_
  refine qa (hK11 _ _ (wp_cond_true (A.ev rfl) ?_))
  refine wp_skip (hK10 _ _ (wp_block (wsk fun K13 hK13 => wrl ?_)))
  iterate 2 refine sda A λa A↦?_
  refine qa (hK13 _ _ (wsk fun K14 hK14 => ?_))
  have hi8 : i < l.length := by omega
  refine wrl ?_
  iterate 2 refine sdm A λa A↦?_
  obtain ⟨bx, ox, hx1, hx2, hx3⟩ := qie (i := i) hb (by omega)
  have hu9 := (l.getD (i) 0).toNat_lt
  refine sdo (v := .pointer (some ⟨bx, ox + (i), none⟩)) A (jj (k := i) Tryz.underlying51 (by kernel_rfl) rfl rfl rfl hx1 (by omega)) λa A↦?_
  refine sdo (v := .int .u8 ((((l.getD i 0).toNat : Nat) : Int))) A (qhh M hx2 (hx3 (i) (by omega)) TrU_is1_5 rfl) λa A↦?_
  refine sda A λa A↦?_
  refine qa (hK14 _ _ (wsk fun K15 hK15 => ?_))
  have hJ16 : ∀ a w1, (∃ (n : Nat) (r : Int), (LeadU (l.getD i 0).toNat n r) ∧ Sl a 122 [(0, .slice so l.length cap), (2, .slice none 0 0), (3, vo), (4, .int .i64 (((i : Nat) : Int))), (5, .int .i64 (((n : Nat) : Int))), (6, .int .i32 r), (12, .slice (some ⟨g3, 0, none⟩) 0 0), (13, .int .i64 (((i : Nat) : Int))), (14, .slice so l.length cap), (15, .int .i64 (((l.length : Nat) : Int))), (16, .bool true), (17, .slice so l.length cap), (18, .int .i64 (((i : Nat) : Int))), (19, .pointer (some ⟨bx, ox + (i), none⟩)), (20, .int .u8 ((((l.getD i 0).toNat : Nat) : Int)))] ∧ Mg w w1 (.row 146 3 (vo) acc.length ((jw acc)) :: [])) → K15 a w1 := by
   clear A M
   rintro a w17 ⟨n, r, hf18, A, M⟩
   have hL := hf18
   have hn4 := lead_4 hL
   refine hK15 _ _ (wsk fun K19 hK19 => ?_)
   have hJ20 : ∀ a w1, (∃ (ok : Bool), (ok = decide (0 < n ∧ i + n ≤ l.length)) ∧ Sl a 122 [(0, .slice so l.length cap), (2, .slice none 0 0), (3, vo), (4, .int .i64 (((i : Nat) : Int))), (5, .int .i64 (((n : Nat) : Int))), (6, .int .i32 r), (8, .bool ok), (12, .slice (some ⟨g3, 0, none⟩) 0 0), (13, .int .i64 (((i : Nat) : Int))), (14, .slice so l.length cap), (15, .int .i64 (((l.length : Nat) : Int))), (16, .bool true), (17, .slice so l.length cap), (18, .int .i64 (((i : Nat) : Int))), (19, .pointer (some ⟨bx, ox + (i), none⟩)), (20, .int .u8 ((((l.getD i 0).toNat : Nat) : Int)))] ∧ Mg w w1 (.row 146 3 (vo) acc.length ((jw acc)) :: [])) → K19 a w1 := by
    clear A M
    rintro a w21 ⟨ok, hf22, A, M⟩
    have hok := hf22
    refine hK19 _ _ (wsk fun K23 hK23 => ?_)
    have hJ24 : ∀ a w1, (∃ (k : Nat) (rk : Int) (ok3 : Bool), (ContU l.length i n (l.getD (i + 1) 0).toNat (l.getD (i + 2) 0).toNat (l.getD (i + 3) 0).toNat r k rk ok3 ∧ (ok3 = true → k = n)) ∧ Sl a 122 [(0, .slice so l.length cap), (2, .slice none 0 0), (3, vo), (4, .int .i64 (((i : Nat) : Int))), (5, .int .i64 (((n : Nat) : Int))), (6, .int .i32 rk), (8, .bool ok3), (12, .slice (some ⟨g3, 0, none⟩) 0 0), (13, .int .i64 (((i : Nat) : Int))), (14, .slice so l.length cap), (15, .int .i64 (((l.length : Nat) : Int))), (16, .bool true), (17, .slice so l.length cap), (18, .int .i64 (((i : Nat) : Int))), (19, .pointer (some ⟨bx, ox + (i), none⟩)), (20, .int .u8 ((((l.getD i 0).toNat : Nat) : Int)))] ∧ Mg w w1 (.row 146 3 (vo) acc.length ((jw acc)) :: [])) → K23 a w1 := by
     clear A M
     rintro a w25 ⟨k, rk, ok3, hf26, A, M⟩
     obtain ⟨hC, hkn⟩ := hf26
     refine hK23 _ _ (wsk fun K27 hK27 => ?_)
     have hJ28 : ∀ a w1, (∃ (ok4 : Bool), (EndU l.length i n (l.getD i 0).toNat (l.getD (i + 1) 0).toNat (l.getD (i + 2) 0).toNat (l.getD (i + 3) 0).toNat rk ok4) ∧ Sl a 122 [(0, .slice so l.length cap), (2, .slice none 0 0), (3, vo), (4, .int .i64 (((i : Nat) : Int))), (5, .int .i64 (((n : Nat) : Int))), (6, .int .i32 rk), (8, .bool ok4), (12, .slice (some ⟨g3, 0, none⟩) 0 0), (13, .int .i64 (((i : Nat) : Int))), (14, .slice so l.length cap), (15, .int .i64 (((l.length : Nat) : Int))), (16, .bool true), (17, .slice so l.length cap), (18, .int .i64 (((i : Nat) : Int))), (19, .pointer (some ⟨bx, ox + (i), none⟩)), (20, .int .u8 ((((l.getD i 0).toNat : Nat) : Int)))] ∧ Mg w w1 (.row 146 3 (vo) acc.length ((jw acc)) :: [])) → K27 a w1 := by
      clear A M
      rintro a w29 ⟨ok4, hf30, A, M⟩
      have hE := hf30
      refine hK27 _ _ (wsk fun K31 hK31 => wrl (sdm A λa A↦?_))
      refine qa (hK31 _ _ ?_)
      refine wp_cond_split (t := ok4) (A.ev rfl) (fun hc32 => ?_) (fun hc32 => ?_)
      ·
       refine wsk fun K33 hK33 => wrl ?_
       iterate 3 refine sdm A λa A↦?_
       refine sdo (v := .agg #[.int .i32 rk, .bool false, .int .i64 (((i : Nat) : Int))]) A (qp rfl (fun w => by kernel_rfl)) λa A↦?_
       refine ki (e := 146) (sz := 3) (m := 1) (vs := [.int .i32 rk, .bool false, .int .i64 (((i : Nat) : Int))]) A M rfl rfl rfl (zg rfl (by kernel_rfl)) rfl rfl (.inl (by decide)) ?_
       intro g34 w35 M a A
       refine xi (e := 146) (sz := 3) (k := 1) (q := acc.length) (m := 1) (xs := (jw acc)) (news := [.int .i32 rk, .bool false, .int .i64 (((i : Nat) : Int))]) (L' := fun v36 => (.row 146 3 (.slice (some ⟨g34, 0, none⟩) 1 1) 1 ([.int .i32 rk, .bool false, .int .i64 (((i : Nat) : Int))]) :: .row 146 3 (v36) (acc.length + 1) ((jw acc) ++ [.int .i32 rk, .bool false, .int .i64 (((i : Nat) : Int))]) :: [])) A rfl rfl rfl (m_appendE (z := .agg #[.int .i32 0, .bool false, .int .i64 0]) (sz := 3) (by_ := 16) Tryz.underlying143 (by kernel_rfl) rfl rfl rfl M 1 rfl rfl 0 rfl rfl rfl rfl (by omega)) (fun _ => rfl) ?_
       intro v36 w37 M a A
       refine sda A λa A↦?_
       refine qa (hK33 _ _ (wrl ?_))
       iterate 2 refine sdm A λa A↦?_
       refine sdo (v := .int .i64 (((i + n : Nat) : Int))) A (qf rfl rfl (ar_add ((in_i64 (by omega) (by omega)).trans (by omega)))) λa A↦?_
       refine sda A λa A↦?_
       refine qa ?_
       obtain ⟨hd, hr9, hrk, hn1, hn2⟩ : decodeN (l.length - i) (l.getD i 0).toNat (l.getD (i + 1) 0).toNat (l.getD (i + 2) 0).toNat (l.getD (i + 3) 0).toNat = (rk.toNat, n) ∧ uR rk.toNat n = rk ∧ 0 ≤ rk ∧ 1 ≤ n ∧ i + n ≤ l.length := by
        rcases hE with ⟨_, h⟩ | ⟨h, _⟩
        ·
         exact h
        ·
         rw [hc32] at h; cases h
       have hs9 := qlf hi8 hd
       rw [hr9] at hs9
       replace M : Mg w w37 [.row 146 3 v36 (acc ++ [((i : Int), rk)]).length (jw (acc ++ [((i : Int), rk)]))] := by
        have h9 := M.sub (cn (cc (.refl _)))
        have e9 : jw (acc ++ [((i : Int), rk)]) = jw acc ++ [.int .i32 rk, .bool false, .int .i64 (((i : Nat) : Int))] := by
         unfold jw
         rw [List.flatMap_append, List.flatMap_singleton]
         rw [if_neg (show ¬ _ = (-1 : Int) by simp only; omega)]
        rw [e9, List.length_append]
        exact h9
       refine hK8 _ _ _ (by omega) ⟨i + n, acc ++ [((i : Int), rk)], v36, rfl, ⟨by rw [← hrun, hs9, List.append_assoc]; rfl, by omega, by rw [List.length_append]; simp only [List.length_cons, List.length_nil]; omega⟩, A.keep _ ⟨rfl, rfl, rfl, rfl, rfl, trivial⟩, M⟩
      ·
       refine wsk fun K38 hK38 => wrl ?_
       iterate 2 refine sdm A λa A↦?_
       refine sdo (v := .agg #[.int .i32 0, .bool true, .int .i64 (((i : Nat) : Int))]) A (qp rfl (fun w => by kernel_rfl)) λa A↦?_
       refine ki (e := 146) (sz := 3) (m := 1) (vs := [.int .i32 0, .bool true, .int .i64 (((i : Nat) : Int))]) A M rfl rfl rfl (zg rfl (by kernel_rfl)) rfl rfl (.inl (by decide)) ?_
       intro g39 w40 M a A
       refine xi (e := 146) (sz := 3) (k := 1) (q := acc.length) (m := 1) (xs := (jw acc)) (news := [.int .i32 0, .bool true, .int .i64 (((i : Nat) : Int))]) (L' := fun v41 => (.row 146 3 (.slice (some ⟨g39, 0, none⟩) 1 1) 1 ([.int .i32 0, .bool true, .int .i64 (((i : Nat) : Int))]) :: .row 146 3 (v41) (acc.length + 1) ((jw acc) ++ [.int .i32 0, .bool true, .int .i64 (((i : Nat) : Int))]) :: [])) A rfl rfl rfl (m_appendE (z := .agg #[.int .i32 0, .bool false, .int .i64 0]) (sz := 3) (by_ := 16) Tryz.underlying143 (by kernel_rfl) rfl rfl rfl M 1 rfl rfl 0 rfl rfl rfl rfl (by omega)) (fun _ => rfl) ?_
       intro v41 w42 M a A
       refine sda A λa A↦?_
       refine qa (hK38 _ _ (wrl (sdm A λa A↦?_)))
       refine sdo (v := .int .i64 (((i + 1 : Nat) : Int))) A (qf rfl rfl (ar_add ((in_i64 (by omega) (by omega)).trans (by omega)))) λa A↦?_
       refine sda A λa A↦?_
       refine qa ?_
       have hd : decodeN (l.length - i) (l.getD i 0).toNat (l.getD (i + 1) 0).toNat (l.getD (i + 2) 0).toNat (l.getD (i + 3) 0).toNat = (65533, 1) := by
        rcases hE with ⟨h, _⟩ | ⟨_, h⟩
        ·
         rw [hc32] at h; cases h
        ·
         exact h
       have hr9 : uR 65533 1 = -1 := by unfold uR; rw [if_pos ⟨rfl, by decide⟩]
       have hs9 := qlf hi8 hd
       rw [hr9] at hs9
       replace M : Mg w w42 [.row 146 3 v41 (acc ++ [((i : Int), (-1))]).length (jw (acc ++ [((i : Int), (-1))]))] := by
        have h9 := M.sub (cn (cc (.refl _)))
        have e9 : jw (acc ++ [((i : Int), (-1))]) = jw acc ++ [.int .i32 0, .bool true, .int .i64 (((i : Nat) : Int))] := by
         unfold jw
         rw [List.flatMap_append, List.flatMap_singleton]
         rw [if_pos rfl]
        rw [e9, List.length_append]
        exact h9
       refine hK8 _ _ _ (by omega) ⟨i + 1, acc ++ [((i : Int), (-1))], v41, rfl, ⟨by rw [← hrun, hs9, List.append_assoc]; rfl, by omega, by rw [List.length_append]; simp only [List.length_cons, List.length_nil]; omega⟩, A.keep _ ⟨rfl, rfl, rfl, rfl, rfl, trivial⟩, M⟩
     refine wsk fun K43 hK43 => wrl ?_
     iterate 2 refine sdm A λa A↦?_
     rcases ok3 with _ | _
     ·
      iterate 2 refine qh A rfl rfl rfl λa A↦?_
      refine sdk (v := .bool false) A λa A↦?_
      refine qa (hK43 _ _ (wp_cond_false (A.ev rfl) ?_))
      refine wp_skip ?_
      replace M : Mg w w25 (.row 146 3 (vo) acc.length ((jw acc)) :: []) := by
       have h9 := M.sub (cc (.refl _))
       exact h9
      exact hJ28 _ _ ⟨false, end_no hi8 ((l.getD i 0).toNat_lt) hL hC hkn (.inl rfl), A.keep _ (by repeat' constructor), M⟩
     ·
      refine sdm A λa A↦?_
      rcases tf (decide (1 < ((n : Nat) : Int))) with hb44 | hb44
      ·
       have hb44' := of_decide_eq_true hb44
       refine sdc A jd hb44 λa A↦?_
       refine sdk (v := .bool true) A λa A↦?_
       refine qa (hK43 _ _ (wp_cond_true (A.ev rfl) ?_))
       refine wsk fun K45 hK45 => wrl (ki (e := 21) (sz := 1) (m := 5) (vs := [.int .i32 0, .int .i32 0, .int .i32 128, .int .i32 2048, .int .i32 65536]) A M rfl rfl rfl (zg rfl (by kernel_rfl)) rfl rfl (.inl (by decide)) ?_)
       intro g46 w47 M a A
       refine sda A λa A↦?_
       refine qa (hK45 _ _ ?_)
       have hc9 := kp hC
       refine wrl ?_
       iterate 3 refine sdm A λa A↦?_
       refine sdo (v := .pointer (some ⟨g46, n * 1, none⟩)) A (vg (k := n) Tryz.underlying141 (by kernel_rfl) rfl rfl rfl (by omega)) λa A↦?_
       refine sdo (v := .int .i32 (qca n)) A (m_loadE M 0 rfl (least_at (by omega) (by omega)) TrU_is1_21 rfl) λa A↦?_
       rcases tf (decide (qca n ≤ rk)) with hb48 | hb48
       ·
        have hb48' := of_decide_eq_true hb48
        refine sdc A jl hb48 λa A↦?_
        iterate 2 refine sdm A λa A↦?_
        rcases tf (decide (rk ≤ 1114111)) with hb49 | hb49
        ·
         have hb49' := of_decide_eq_true hb49
         refine sdc A jx hb49 λa A↦?_
         refine sdk (v := .bool true) A λa A↦?_
         iterate 2 refine sdm A λa A↦?_
         rcases tf (decide (rk < 55296)) with hb50 | hb50
         ·
          have hb50' := of_decide_eq_true hb50
          refine sdc A qx hb50 λa A↦?_
          refine sdm A λa A↦?_
          iterate 2 refine qh A rfl rfl rfl λa A↦?_
          iterate 2 refine sdk (v := .bool true) A λa A↦?_
          refine sda A λa A↦?_
          refine qa ?_
          replace M : Mg w w47 (.row 146 3 (vo) acc.length ((jw acc)) :: []) := by
           have h9 := M.sub (cn (cc (.refl _)))
           exact h9
          have hc8 := kp hC
          exact hJ28 _ _ ⟨true, end_ok hi8 ((l.getD i 0).toNat_lt) hL (hkn rfl ▸ hC) (by omega), A.keep _ (by repeat' constructor), M⟩
         ·
          have hb50' := of_decide_eq_false hb50
          refine sdc A qx hb50 λa A↦?_
          iterate 2 refine sdm A λa A↦?_
          rcases tf (decide (57343 < rk)) with hb51 | hb51
          ·
           have hb51' := of_decide_eq_true hb51
           refine sdc A jd hb51 λa A↦?_
           iterate 2 refine sdk (v := .bool true) A λa A↦?_
           refine sda A λa A↦?_
           refine qa ?_
           replace M : Mg w w47 (.row 146 3 (vo) acc.length ((jw acc)) :: []) := by
            have h9 := M.sub (cn (cc (.refl _)))
            exact h9
           have hc8 := kp hC
           exact hJ28 _ _ ⟨true, end_ok hi8 ((l.getD i 0).toNat_lt) hL (hkn rfl ▸ hC) (by omega), A.keep _ (by repeat' constructor), M⟩
          ·
           have hb51' := of_decide_eq_false hb51
           refine sdc A jd hb51 λa A↦?_
           iterate 2 refine sdk (v := .bool false) A λa A↦?_
           refine sda A λa A↦?_
           refine qa ?_
           replace M : Mg w w47 (.row 146 3 (vo) acc.length ((jw acc)) :: []) := by
            have h9 := M.sub (cn (cc (.refl _)))
            exact h9
           have hc8 := kp hC
           exact hJ28 _ _ ⟨false, end_no hi8 ((l.getD i 0).toNat_lt) hL hC hkn (.inr ⟨by omega, by omega⟩), A.keep _ (by repeat' constructor), M⟩
        ·
         have hb49' := of_decide_eq_false hb49
         refine sdc A jx hb49 λa A↦?_
         refine sdk (v := .bool false) A λa A↦?_
         refine sdm A λa A↦?_
         iterate 3 refine qh A rfl rfl rfl λa A↦?_
         iterate 2 refine qaa A rfl rfl rfl λa A↦?_
         refine qh A rfl rfl rfl λa A↦?_
         refine sdk (v := .bool false) A λa A↦?_
         refine sda A λa A↦?_
         refine qa ?_
         replace M : Mg w w47 (.row 146 3 (vo) acc.length ((jw acc)) :: []) := by
          have h9 := M.sub (cn (cc (.refl _)))
          exact h9
         have hc8 := kp hC
         exact hJ28 _ _ ⟨false, end_no hi8 ((l.getD i 0).toNat_lt) hL hC hkn (.inr ⟨by omega, by omega⟩), A.keep _ (by repeat' constructor), M⟩
       ·
        have hb48' := of_decide_eq_false hb48
        refine sdc A jl hb48 λa A↦?_
        refine sdm A λa A↦?_
        iterate 2 refine qh A rfl rfl rfl λa A↦?_
        refine sdk (v := .bool false) A λa A↦?_
        refine sdm A λa A↦?_
        iterate 3 refine qh A rfl rfl rfl λa A↦?_
        iterate 2 refine qaa A rfl rfl rfl λa A↦?_
        refine qh A rfl rfl rfl λa A↦?_
        refine sdk (v := .bool false) A λa A↦?_
        refine sda A λa A↦?_
        refine qa ?_
        replace M : Mg w w47 (.row 146 3 (vo) acc.length ((jw acc)) :: []) := by
         have h9 := M.sub (cn (cc (.refl _)))
         exact h9
        have hc8 := kp hC
        exact hJ28 _ _ ⟨false, end_no hi8 ((l.getD i 0).toNat_lt) hL hC hkn (.inr ⟨by omega, by omega⟩), A.keep _ (by repeat' constructor), M⟩
      ·
       have hb44' := of_decide_eq_false hb44
       refine sdc A jd hb44 λa A↦?_
       refine sdk (v := .bool false) A λa A↦?_
       refine qa (hK43 _ _ (wp_cond_false (A.ev rfl) ?_))
       refine wp_skip ?_
       replace M : Mg w w25 (.row 146 3 (vo) acc.length ((jw acc)) :: []) := by
        have h9 := M.sub (cc (.refl _))
        exact h9
       have hc8 := kp hC
       exact hJ28 _ _ ⟨true, end_ok hi8 ((l.getD i 0).toNat_lt) hL (hkn rfl ▸ hC) (by omega), A.keep _ (by repeat' constructor), M⟩
    refine wsk fun K52 hK52 => wrl (sda A λa A↦?_)
    refine qa (hK52 _ _ (wp_block (zq (fun m_ a w1 => ∃ (k : Nat) (rk : Int) (ok2 : Bool), m_ = 5 - k ∧ (ContU l.length i n (l.getD (i + 1) 0).toNat (l.getD (i + 2) 0).toNat (l.getD (i + 3) 0).toNat r k rk ok2) ∧ Sl a 122 [(0, .slice so l.length cap), (2, .slice none 0 0), (3, vo), (4, .int .i64 (((i : Nat) : Int))), (5, .int .i64 (((n : Nat) : Int))), (6, .int .i32 rk), (8, .bool ok2), (9, .int .i64 (((k : Nat) : Int))), (12, .slice (some ⟨g3, 0, none⟩) 0 0), (13, .int .i64 (((i : Nat) : Int))), (14, .slice so l.length cap), (15, .int .i64 (((l.length : Nat) : Int))), (16, .bool true), (17, .slice so l.length cap), (18, .int .i64 (((i : Nat) : Int))), (19, .pointer (some ⟨bx, ox + (i), none⟩)), (20, .int .u8 ((((l.getD i 0).toNat : Nat) : Int)))] ∧ Mg w w1 (.row 146 3 (vo) acc.length ((jw acc)) :: [])) _ ⟨1, r, ok, rfl, cont_start hok, A.keep _ (by repeat' constructor), M⟩ ?_)))
    clear M A
    rintro m_ a w53 ⟨k, rk, ok2, rfl, hinv55, A, M⟩ K54 hK54
    have hC := hinv55
    refine wsk fun K56 hK56 => wsk fun K57 hK57 => wrl ?_
    iterate 2 refine sdm A λa A↦?_
    rcases ok2 with _ | _
    ·
     iterate 3 refine qh A rfl rfl rfl λa A↦?_
     refine sdk (v := .bool false) A λa A↦?_
     refine qa (hK57 _ _ (wp_cond_false (A.ev rfl) ?_))
     refine wp_exit ?_
     exact hJ24 _ _ ⟨k, rk, false, ⟨hC, fun h => by cases h⟩, A.keep _ (by repeat' constructor), M⟩
    ·
     iterate 2 refine sdm A λa A↦?_
     rcases tf (decide (((k : Nat) : Int) < ((n : Nat) : Int))) with hb58 | hb58
     ·
      have hb58' := of_decide_eq_true hb58
      refine sdc A qx hb58 λa A↦?_
      refine sdk (v := .bool true) A λa A↦?_
      refine qa (hK57 _ _ (wp_cond_true (A.ev rfl) ?_))
      refine wp_skip (hK56 _ _ (wsk fun K59 hK59 => wp_block (wsk fun K60 hK60 => ?_)))
      have hc9 := kp hC
      refine wrl ?_
      iterate 3 refine sdm A λa A↦?_
      refine sdo (v := .int .i64 (((i + k : Nat) : Int))) A (qf rfl rfl (ar_add ((in_i64 (by omega) (by omega)).trans (by omega)))) λa A↦?_
      obtain ⟨bx, ox, hx1, hx2, hx3⟩ := qie (i := i + k) hb (by omega)
      have hu9 := (l.getD (i + k) 0).toNat_lt
      refine sdo (v := .pointer (some ⟨bx, ox + (i + k), none⟩)) A (jj (k := i + k) Tryz.underlying51 (by kernel_rfl) rfl rfl rfl hx1 (by omega)) λa A↦?_
      refine sdo (v := .int .u8 ((((l.getD (i + k) 0).toNat : Nat) : Int))) A (qhh M hx2 (hx3 (i + k) (by omega)) TrU_is1_5 rfl) λa A↦?_
      refine sda A λa A↦?_
      refine qa (hK60 _ _ (wsk fun K61 hK61 => wrl (sdm A λa A↦?_)))
      refine sdo (v := .int .u8 (((((l.getD (i + k) 0).toNat : Nat) : Int)) / 64)) A (qf rfl rfl (ar_shr (n := 6) rfl rfl rfl)) λa A↦?_
      refine sdo (v := .bool ((((((l.getD (i + k) 0).toNat : Nat) : Int)) / 64 == 2))) A (qf rfl rfl qi) λa A↦?_
      refine sda A λa A↦?_
      refine qa (hK61 _ _ (wrl (sdm A λa A↦?_)))
      refine sdo (v := .int .i32 (rk * 64)) A (qf rfl rfl (ar_shl (n := 6) rfl rfl (in_i32 (by omega) (by omega)))) λa A↦?_
      refine sdm A λa A↦?_
      refine sdo (v := .int .u8 (((((l.getD (i + k) 0).toNat : Nat) : Int)) % 64)) A (qf rfl rfl (ar_and (and_u8 6 63 rfl (by decide) (by omega) (by omega)))) λa A↦?_
      refine sdo (v := .int .i32 (((((l.getD (i + k) 0).toNat : Nat) : Int)) % 64)) A (xe rfl (ar_conv Tryz.underlying5 Tryz.underlying21 (in_i32 (by omega) (by omega)))) λa A↦?_
      refine sdo (v := .int .i32 (rk * 64 + (((((l.getD (i + k) 0).toNat : Nat) : Int)) % 64))) A (qf rfl rfl (ar_or (or_six (by omega) (by omega) (by omega) (by omega)))) λa A↦?_
      refine sda A λa A↦?_
      refine qa (hK59 _ _ (wrl (sdm A λa A↦?_)))
      refine sdo (v := .int .i64 (((k + 1 : Nat) : Int))) A (qf rfl rfl (ar_add ((in_i64 (by omega) (by omega)).trans (by omega)))) λa A↦?_
      refine sda A λa A↦?_
      refine qa ?_
      refine hK54 _ _ _ (by omega) ⟨k + 1, rk * 64 + (((((l.getD (i + k) 0).toNat : Nat) : Int)) % 64), (((((l.getD (i + k) 0).toNat : Nat) : Int)) / 64 == 2), rfl, cont_step (by omega) hC (by omega), A.keep _ (by repeat' constructor), M⟩
     ·
      have hb58' := of_decide_eq_false hb58
      refine sdc A qx hb58 λa A↦?_
      refine sdk (v := .bool false) A λa A↦?_
      refine qa (hK57 _ _ (wp_cond_false (A.ev rfl) ?_))
      refine wp_exit ?_
      exact hJ24 _ _ ⟨k, rk, true, ⟨hC, fun _ => by have := kp hC; omega⟩, A.keep _ (by repeat' constructor), M⟩
   refine wrl (sdm A λa A↦?_)
   rcases tf (decide (0 < ((n : Nat) : Int))) with hb62 | hb62
   ·
    have hb62' := of_decide_eq_true hb62
    refine sdc A jd hb62 λa A↦?_
    iterate 3 refine sdm A λa A↦?_
    refine sdo (v := .int .i64 (((i + n : Nat) : Int))) A (qf rfl rfl (ar_add ((in_i64 (by omega) (by omega)).trans (by omega)))) λa A↦?_
    refine sdm A λa A↦?_
    refine sdo A (qw Tryz.underlying51 rfl) λa A↦?_
    rcases tf (decide (((i + n : Nat) : Int) ≤ ((l.length : Nat) : Int))) with hb63 | hb63
    ·
     have hb63' := of_decide_eq_true hb63
     refine sdc A jx hb63 λa A↦?_
     refine sdk (v := .bool true) A λa A↦?_
     refine sda A λa A↦?_
     refine qa ?_
     exact hJ20 _ _ ⟨true, (decide_eq_true (by omega)).symm, A.keep _ (by repeat' constructor), M⟩
    ·
     have hb63' := of_decide_eq_false hb63
     refine sdc A jx hb63 λa A↦?_
     refine sdk (v := .bool false) A λa A↦?_
     refine sda A λa A↦?_
     refine qa ?_
     exact hJ20 _ _ ⟨false, (decide_eq_false (by omega)).symm, A.keep _ (by repeat' constructor), M⟩
   ·
    have hb62' := of_decide_eq_false hb62
    refine sdc A jd hb62 λa A↦?_
    refine sdm A λa A↦?_
    iterate 6 refine qh A rfl rfl rfl λa A↦?_
    refine sdk (v := .bool false) A λa A↦?_
    refine sda A λa A↦?_
    refine qa ?_
    exact hJ20 _ _ ⟨false, (decide_eq_false (by omega)).symm, A.keep _ (by repeat' constructor), M⟩
  refine wp_block (wsk fun K64 hK64 => wrl (sdm A λa A↦?_))
  rcases tf (decide ((((l.getD i 0).toNat : Nat) : Int) < 128)) with hb65 | hb65
  ·
   have hb65' := of_decide_eq_true hb65
   refine sdc A qx hb65 λa A↦?_
   refine sda A λa A↦?_
   refine qa (hK64 _ _ (wp_cond_true (A.ev rfl) ?_))
   refine wrl (sdm A λa A↦?_)
   refine sdo (v := .int .i32 ((((l.getD i 0).toNat : Nat) : Int))) A (xe rfl (ar_conv Tryz.underlying5 Tryz.underlying21 (in_i32 (by omega) (by omega)))) λa A↦?_
   iterate 2 refine sda A λa A↦?_
   refine qa ?_
   exact hJ16 _ _ ⟨1, (((l.getD i 0).toNat : Nat) : Int), (by unfold LeadU; omega), A.keep _ (by repeat' constructor), M⟩
  ·
   have hb65' := of_decide_eq_false hb65
   refine sdc A qx hb65 λa A↦?_
   refine sda A λa A↦?_
   refine qa (hK64 _ _ (wp_cond_false (A.ev rfl) ?_))
   refine wsk fun K66 hK66 => wrl (sdm A λa A↦?_)
   refine sdo (v := .int .u8 (((((l.getD i 0).toNat : Nat) : Int)) / 32)) A (qf rfl rfl (ar_shr (n := 5) rfl rfl rfl)) λa A↦?_
   rcases tf ((((((l.getD i 0).toNat : Nat) : Int)) / 32 == 6)) with hb67 | hb67
   ·
    have hb67' := eq_of_beq hb67
    refine sdc A qi hb67 λa A↦?_
    refine sda A λa A↦?_
    refine qa (hK66 _ _ (wp_cond_true (A.ev rfl) ?_))
    refine wrl (sdm A λa A↦?_)
    refine sdo (v := .int .u8 (((((l.getD i 0).toNat : Nat) : Int)) % 32)) A (qf rfl rfl (ar_and (and_u8 5 31 rfl (by decide) (by omega) (by omega)))) λa A↦?_
    refine sdo (v := .int .i32 (((((l.getD i 0).toNat : Nat) : Int)) % 32)) A (xe rfl (ar_conv Tryz.underlying5 Tryz.underlying21 (in_i32 (by omega) (by omega)))) λa A↦?_
    iterate 2 refine sda A λa A↦?_
    refine qa ?_
    exact hJ16 _ _ ⟨2, ((((l.getD i 0).toNat : Nat) : Int)) % 32, (by unfold LeadU; omega), A.keep _ (by repeat' constructor), M⟩
   ·
    have hb67' := ne_of_beq_false hb67
    refine sdc A qi hb67 λa A↦?_
    refine sda A λa A↦?_
    refine qa (hK66 _ _ (wp_cond_false (A.ev rfl) ?_))
    refine wsk fun K68 hK68 => wrl (sdm A λa A↦?_)
    refine sdo (v := .int .u8 (((((l.getD i 0).toNat : Nat) : Int)) / 16)) A (qf rfl rfl (ar_shr (n := 4) rfl rfl rfl)) λa A↦?_
    rcases tf ((((((l.getD i 0).toNat : Nat) : Int)) / 16 == 14)) with hb69 | hb69
    ·
     have hb69' := eq_of_beq hb69
     refine sdc A qi hb69 λa A↦?_
     refine sda A λa A↦?_
     refine qa (hK68 _ _ (wp_cond_true (A.ev rfl) ?_))
     refine wrl (sdm A λa A↦?_)
     refine sdo (v := .int .u8 (((((l.getD i 0).toNat : Nat) : Int)) % 16)) A (qf rfl rfl (ar_and (and_u8 4 15 rfl (by decide) (by omega) (by omega)))) λa A↦?_
     refine sdo (v := .int .i32 (((((l.getD i 0).toNat : Nat) : Int)) % 16)) A (xe rfl (ar_conv Tryz.underlying5 Tryz.underlying21 (in_i32 (by omega) (by omega)))) λa A↦?_
     iterate 2 refine sda A λa A↦?_
     refine qa ?_
     exact hJ16 _ _ ⟨3, ((((l.getD i 0).toNat : Nat) : Int)) % 16, (by unfold LeadU; omega), A.keep _ (by repeat' constructor), M⟩
    ·
     have hb69' := ne_of_beq_false hb69
     refine sdc A qi hb69 λa A↦?_
     refine sda A λa A↦?_
     refine qa (hK68 _ _ (wp_cond_false (A.ev rfl) ?_))
     refine wsk fun K70 hK70 => wrl (sdm A λa A↦?_)
     refine sdo (v := .int .u8 (((((l.getD i 0).toNat : Nat) : Int)) / 8)) A (qf rfl rfl (ar_shr (n := 3) rfl rfl rfl)) λa A↦?_
     rcases tf ((((((l.getD i 0).toNat : Nat) : Int)) / 8 == 30)) with hb71 | hb71
     ·
      have hb71' := eq_of_beq hb71
      refine sdc A qi hb71 λa A↦?_
      refine sda A λa A↦?_
      refine qa (hK70 _ _ (wp_cond_true (A.ev rfl) ?_))
      refine wrl (sdm A λa A↦?_)
      refine sdo (v := .int .u8 (((((l.getD i 0).toNat : Nat) : Int)) % 8)) A (qf rfl rfl (ar_and (and_u8 3 7 rfl (by decide) (by omega) (by omega)))) λa A↦?_
      refine sdo (v := .int .i32 (((((l.getD i 0).toNat : Nat) : Int)) % 8)) A (xe rfl (ar_conv Tryz.underlying5 Tryz.underlying21 (in_i32 (by omega) (by omega)))) λa A↦?_
      iterate 2 refine sda A λa A↦?_
      refine qa ?_
      exact hJ16 _ _ ⟨4, ((((l.getD i 0).toNat : Nat) : Int)) % 8, (by unfold LeadU; omega), A.keep _ (by repeat' constructor), M⟩
     ·
      have hb71' := ne_of_beq_false hb71
      refine sdc A qi hb71 λa A↦?_
      refine sda A λa A↦?_
      refine qa (hK70 _ _ (wp_cond_false (A.ev rfl) ?_))
      refine wp_skip ?_
      exact hJ16 _ _ ⟨0, 0, (by unfold LeadU; omega), A.keep _ (by repeat' constructor), M⟩
 ·
  have hb12' := of_decide_eq_false hb12
  refine sdc A qx hb12 λa A↦?_
  refine qa (hK11 _ _ (wp_cond_false (A.ev rfl) ?_))
  refine wp_exit (hK5 _ _ (wsk fun K72 hK72 => wrl (sdm A λa A↦?_)))
  refine sda A λa A↦?_
  refine qa (hK72 _ _ (wp_ret (hret _ _ (en1 A rfl (qe rfl) ?_))))
  rw [restU_over (by omega), List.append_nil] at hrun
  subst hrun
  exact ⟨_, rfl, M⟩
open Go.RowKit Go.Lib
theorem owns_sliceE {w : World} {B : Nat} {e : TypeId} {sz : Nat} {v : Value} {n : Nat} {xs : List Value} (h : w.ownsRow B e sz v n xs) : ∃ so cap, v = .slice so n cap := by
  rcases h.2 with ⟨rfl, rfl⟩ | ⟨g, cap, cur, rfl, _⟩
  · exact ⟨none, 0, rfl⟩
  · exact ⟨_, cap, rfl⟩
section
variable {P : Program} {w0 w : World} {L : List Ck} {l : List (Nat × Value)} {dst : Option Tmp} {ty : TypeId} {pos : String} {after : Array Edge} {guard : Option (Nat × Bool)} {v : Value}
theorem does_convC {w' : World} {s d : TypeId} {x : Operand} {u : Value} (hx : ev l x = some u) (hr : (convert s d u).run P w = .ok v w') : Does P l ⟨dst, .convert s d x, ty, pos, after, guard⟩ w v w' := fun ρ h => by
  simp only [execOp, h x _ hx, Sem.run_bind, hr, Result.andThen_ok, Sem.run_pure]
theorem row_addr (hM : Mg w0 w L) (k : Nat) {e : TypeId} {sz n cap : Nat} {so : Option Addr} {xs : List Value} (hk : L[k]? = some (.row e sz (.slice so n cap) n xs)) (hn : 0 < n) : ∃ g, so = some ⟨g, 0, none⟩ := by
  rcases (hM.has k hk).2 with ⟨_, h0⟩ | ⟨g, cap', cur, he, _⟩
  · omega
  · cases he; exact ⟨g, rfl⟩
theorem does_indexX {t e : TypeId} {sz : Nat} (hu : P.underlying t = some (.slice e)) (he : (P.info? e).map (·.size) = some sz) {x i : Operand} {so : Option Addr} {g n c k : Nat} {z : Int} (hx : ev l x = some (.slice so n c)) (hi : ev l i = some (.int .i64 z)) (hz : z = (k : Nat)) (hso : so = some ⟨g, 0, none⟩) (hk : k < n) :
    Does P l ⟨dst, .indexAddr t x i, ty, pos, after, guard⟩ w (.pointer (some ⟨g, k * sz, none⟩)) w := by
  subst hso
  exact vg hu he hx hi hz hk
theorem m_loadX (hM : Mg w0 w L) (k : Nat) {e : TypeId} {sz g n c j : Nat} {so : Option Addr} {xs : List Value} (hk : L[k]? = some (.row e sz (.slice so n c) n xs)) (hso : so = some ⟨g, 0, none⟩) (hj : xs[j]? = some v) {t : TypeId} (ht : Is1 P t) {x : Operand} (hx : ev l x = some (.pointer (some ⟨g, j, none⟩))) : Does P l ⟨dst, .load t x, ty, pos, after, guard⟩ w v w := by
  subst hso
  exact m_loadE hM k hk hj ht hx
end
section
variable {P : Program} {w0 w : World} {L : List Ck} {l : List (Nat × Value)} {ops : List Oper} {Q : Exit → Act → World → Prop} {a : Act} {n : Nat} {rest : List Oper} {d : Nat} {dst : Option Tmp} {ty : TypeId} {pos : String} {after : Array Edge} {guard : Option (Nat × Bool)}
/-- A text as bytes. -/
theorem s_bytes (hA : Sl a n l) (hM : Mg w0 w L) {t t' : TypeId} {x : Operand} {s : ByteArray} {o : Oper} (ho : o = ⟨dst, .convert t t' x, ty, pos, after, guard⟩) (ht : P.underlying t = some .string) (hd : P.underlying t' = some (.slice BY)) (he : P.underlying BY = some (.int .u8)) (hx : ev l x = some (.string s)) (hg : zr l ops o = true) (hdst : o.dst = some d) (hdn : Nat.blt d n = true)
    (hk : ∀ so cap w', Rb w' so s.data.toList → Mg w0 w' L → ∀ a', Sl a' n ((d, .slice so s.data.toList.length cap) :: l) → wpList P ops.toArray Q rest a' w') : wpList P ops.toArray Q (o :: rest) a w := by
  subst ho
  have hr := Go.Lib.run_convert_string_bytes (P := P) w t t' BY s ht hd he
  have hb : Below w.heap.size w (bytesWorld w BY s) := ⟨rfl, rfl, rfl, by rw [bytesWorld_size]; omega, fun j hj => bytesWorld_at_old w BY s j hj⟩
  refine jh hA hg hdst hdn (v := .slice (some ⟨w.heap.size, 0, none⟩) s.data.toList.length (grownCap w s.size 0 BY)) (w' := bytesWorld w BY s) (does_convC hx (by rw [jq]; exact hr)) (hk _ _ _ ⟨fun _ => ⟨w.heap.size, 0, rfl, by rw [bytesWorld_size]; omega, fun j hj => ?_⟩⟩ (hM.call hb))
  rw [jq] at hj
  rw [Nat.zero_add]
  exact bytesWorld_cell w BY s j hj
end
theorem qlg (u : Int × Int) (us : List (Int × Int)) : jw (u :: us) = (if u.2 = -1 then [.int .i32 0, .bool true, .int .i64 u.1] else [.int .i32 u.2, .bool false, .int .i64 u.1]) ++ jw us := rfl
theorem qlh : ∀ (us : List (Int × Int)) (i f : Nat) (u : Int × Int), us[i]? = some u → f < 3 → (jw us)[i * 3 + f]? = (if u.2 = -1 then [Value.int .i32 0, .bool true, .int .i64 u.1] else [.int .i32 u.2, .bool false, .int .i64 u.1])[f]?
  | [], i, f, u, h, hf => by simp at h
  | v :: us, 0, f, u, h, hf => by
    simp only [List.getElem?_cons_zero, Option.some.injEq] at h
    subst h
    rw [qlg, Nat.zero_mul, Nat.zero_add, List.getElem?_append_left]
    split <;> exact hf
  | v :: us, i + 1, f, u, h, hf => by
    rw [List.getElem?_cons_succ] at h
    rw [qlg, List.getElem?_append_right (by split <;> (simp only [List.length_cons, List.length_nil]; omega))]
    have e : (i + 1) * 3 + f - (if v.2 = -1 then [Value.int .i32 0, .bool true, .int .i64 v.1] else [.int .i32 v.2, .bool false, .int .i64 v.1]).length = i * 3 + f := by
      split <;> (simp only [List.length_cons, List.length_nil]; omega)
    rw [e]
    exact qlh us i f u h hf
theorem unit_get {us : List (Int × Int)} {i : Nat} (h : i < us.length) : ∃ ua ur, us[i]? = some (ua, ur) := ⟨_, _, List.getElem?_eq_getElem h⟩
/-! ### Encode -/
theorem qli : ∀ (f p : Nat) (l : List UInt8), (vd f p l).length ≤ l.length
  | 0, _, _ => Nat.zero_le _
  | f + 1, p, l => by
    by_cases hl : l = []
    · subst hl; simp [vd]
    · rw [qhc hl, List.length_cons]
      have h1 := qli f (p + (decodeL l).2) (l.drop (decodeL l).2)
      have h2 := yd l hl
      rw [List.length_drop] at h1
      omega
theorem dec_fffd (l : List UInt8) (h : (decodeL l).1 = 65533) : (decodeL l).2 = 1 ∨ (decodeL l).2 = 3 ∨ (decodeL l).2 = 0 := by
  rw [decodeL_N] at h ⊢
  generalize (l.getD 0 0).toNat = b0 at h ⊢
  generalize (l.getD 1 0).toNat = b1 at h ⊢
  generalize (l.getD 2 0).toNat = b2 at h ⊢
  generalize (l.getD 3 0).toNat = b3 at h ⊢
  unfold decodeN at h ⊢
  repeat' split
  all_goals (simp_all)
  all_goals omega
theorem qbb : ∀ (f p : Nat) (l : List UInt8), validGoD f l = (vd f p l).all (fun u => !decide (u.2 = -1))
  | 0, p, l => rfl
  | f + 1, p, l => by
    unfold validGoD vd
    by_cases hl : l = []
    · rw [if_pos hl, if_pos hl]; rfl
    · rw [if_neg hl, if_neg hl, List.all_cons]
      have hw := yd l hl
      have h3 := dec_fffd l
      by_cases hb : (decodeL l).1 = 65533 ∧ (decodeL l).2 = 1
      · rw [if_pos hb]
        have : uR (decodeL l).1 (decodeL l).2 = -1 := by unfold uR; rw [if_pos ⟨hb.1, by omega⟩]
        rw [this]; rfl
      · rw [if_neg hb]
        have : ¬ uR (decodeL l).1 (decodeL l).2 = -1 := by
          unfold uR
          by_cases h9 : (decodeL l).1 = 65533
          · rw [if_neg (by have := h3 h9; omega)]; omega
          · rw [if_neg (fun e => h9 e.1)]; omega
        rw [decide_eq_false this, qbb f (p + (decodeL l).2)]
        simp
theorem okS_units (s : ByteArray) : okS s = (jo s.data.toList).all (fun u => !decide (u.2 = -1)) := qbb _ 0 _
theorem okS_bad {s : ByteArray} {i : Nat} {ua ur : Int} (h : (jo s.data.toList)[i]? = some (ua, ur)) (hr : ur = -1) : okS s = false := by
  rw [okS_units]
  apply Bool.eq_false_iff.2
  intro k
  have := List.all_eq_true.1 k _ (List.mem_of_getElem? h)
  simp [hr] at this
theorem okS_good {s : ByteArray} (h : ∀ (i : Nat) (ua ur : Int), (jo s.data.toList)[i]? = some (ua, ur) → ur ≠ -1) : okS s = true := by
  rw [okS_units, List.all_eq_true]
  intro u hu
  obtain ⟨i, hi⟩ := List.mem_iff_getElem?.1 hu
  simp [h i u.1 u.2 hi]
theorem TrV_is1_3 : Is1 Tryz.prog 3 := ⟨⟨_, Tryz.underlying3, rfl⟩, by kernel_rfl⟩
theorem TrV_is1_39 : Is1 Tryz.prog 39 := ⟨⟨_, Tryz.underlying39, rfl⟩, by kernel_rfl⟩
theorem TrV_is1_4 : Is1 Tryz.prog 4 := ⟨⟨_, Tryz.underlying4, rfl⟩, by kernel_rfl⟩
theorem TrV_is1_51 : Is1 Tryz.prog 51 := ⟨⟨_, Tryz.underlying51, rfl⟩, by kernel_rfl⟩
theorem TrV_is1_9 : Is1 Tryz.prog 9 := ⟨⟨_, Tryz.underlying9, rfl⟩, by kernel_rfl⟩
theorem TrV_fld_146_1 : FieldAt Tryz.prog 146 1 1 := ⟨_, _, Tryz.underlying146, rfl, rfl, by kernel_rfl⟩
theorem TrV_fld_50_0 : FieldAt Tryz.prog 50 0 0 := ⟨_, _, Tryz.underlying50, rfl, rfl, by kernel_rfl⟩
theorem TrV_fld_50_1 : FieldAt Tryz.prog 50 1 3 := ⟨_, _, Tryz.underlying50, rfl, rfl, by kernel_rfl⟩
theorem TrV_fld_53_0 : FieldAt Tryz.prog 53 0 0 := ⟨_, _, Tryz.underlying53, rfl, rfl, by kernel_rfl⟩
theorem TrV_fld_53_1 : FieldAt Tryz.prog 53 1 1 := ⟨_, _, Tryz.underlying53, rfl, rfl, by kernel_rfl⟩
theorem TrV_fld_53_2 : FieldAt Tryz.prog 53 2 2 := ⟨_, _, Tryz.underlying53, rfl, rfl, by kernel_rfl⟩
theorem TrV_fld_53_3 : FieldAt Tryz.prog 53 3 8 := ⟨_, _, Tryz.underlying53, rfl, rfl, by kernel_rfl⟩
theorem TrV_fld_53_4 : FieldAt Tryz.prog 53 4 9 := ⟨_, _, Tryz.underlying53, rfl, rfl, by kernel_rfl⟩
theorem TrV_fld_53_5 : FieldAt Tryz.prog 53 5 10 := ⟨_, _, Tryz.underlying53, rfl, rfl, by kernel_rfl⟩
theorem TrV_isS_48 : IsS Tryz.prog 48 3 := ⟨⟨_, Tryz.underlying48⟩, by kernel_rfl⟩
theorem TrV_isS_50 : IsS Tryz.prog 50 6 := ⟨⟨_, Tryz.underlying50⟩, by kernel_rfl⟩
theorem runits1_any {w : World} {so : Option Addr} {cap : Nat} {l : List UInt8} (hb : Rb w so l) (hlen : l.length ≤ 4000000) : Calls Tryz.prog 116 #[.int .i64 1, .slice so l.length cap] w fun e w' => ∃ v, e = .returned v ∧ Mg w w' [.row 146 3 v (jo l).length (jw (jo l))] := by
 have M : Mg w w ([]) := Mg.start w
 refine qm (l := [(0, .int .i64 1), (1, .slice so l.length cap)]) Tryz.func116 rfl Tryz.ntmps116 rfl rfl ?_
 intro Q hret hnorm hP a A
 refine wsk fun K1 hK1 => wrl (sda A λa A↦?_)
 refine qa (hK1 _ _ (wsk fun K2 hK2 => wsk fun K3 hK3 => wrl (sdm A λa A↦?_)))
 refine sdo (v := .bool true) A (qf rfl rfl (fun w => by kernel_rfl)) λa A↦?_
 refine qa (hK3 _ _ (wp_cond_true (A.ev rfl) ?_))
 refine wsk fun K4 hK4 => wrl (sdm A λa A↦?_)
 refine sct A (ef rfl rfl) (rutf8_any (hb.below M.bel) hlen) ?_
 rintro _ w5 ⟨v9, rfl, hM9⟩
 replace M : Mg w w5 (.row 146 3 (v9) ((jo l).length) ((jw (jo l))) :: []) := (M.both hM9 (qs zd) (qj (by simp) (qs zd)))
 refine ⟨_, rfl, ?_⟩
 intro a A
 refine sda A λa A↦?_
 refine qa (hK4 _ _ (wp_ret (hret _ _ (en1 A rfl (qe rfl) ?_))))
 exact ⟨_, rfl, M⟩
theorem qlj {w : World} {s : ByteArray} (hs : s.size ≤ 4000000) {r : Bool} (hr : okS s = r) : Calls Tryz.prog 94 #[.string s] w fun e w' => e = .returned (.bool r) ∧ Below w.heap.size w w' := by
 have hul : (jo s.data.toList).length ≤ s.data.toList.length := qli _ _ _
 have hsl : s.data.toList.length ≤ 4000000 := by rw [jq]; exact hs
 have M : Mg w w ([]) := Mg.start w
 refine qm (l := [(0, .string s)]) Tryz.func94 rfl Tryz.ntmps94 rfl rfl ?_
 intro Q hret hnorm hP a A
 refine wsk fun K1 hK1 => wrl (sda A λa A↦?_)
 refine qa (hK1 _ _ (wsk fun K2 hK2 => wrl (sdm A λa A↦?_)))
 refine s_bytes A M rfl Tryz.underlying9 Tryz.underlying51 Tryz.underlying5 rfl rfl rfl rfl ?_
 intro so3 ca4 w5 hrb6 M a A
 refine sct A (ef rfl rfl) (runits1_any hrb6 (by rw [jq]; exact hs)) ?_
 rintro _ w10 ⟨v9, rfl, hM7⟩
 obtain ⟨so8, ca9, rfl⟩ := owns_sliceE (hM7.has 0 rfl)
 replace M : Mg w w10 (.row 146 3 (.slice so8 ((jo s.data.toList).length) ca9) ((jo s.data.toList).length) ((jw (jo s.data.toList))) :: []) := (M.both hM7 (qs zd) (qj (by simp) (qs zd)))
 refine ⟨_, rfl, ?_⟩
 intro a A
 refine sda A λa A↦?_
 refine qa (hK2 _ _ (wsk fun K11 hK11 => wsk fun K12 hK12 => wrl (sda A λa A↦?_)))
 refine qa (hK12 _ _ (wp_block (zq (fun m_ a w1 => ∃ (i : Nat), m_ = 1 + ((jo s.data.toList).length - i) ∧ (i ≤ (jo s.data.toList).length ∧ ∀ j ua ur, j < i → (jo s.data.toList)[j]? = some (ua, ur) → ur ≠ -1) ∧ Sl a 19 [(0, .string s), (3, .slice so8 ((jo s.data.toList).length) ca9), (4, .int .i64 (((i : Nat) : Int))), (5, .string s), (6, .slice so3 s.data.toList.length ca4), (7, .slice so8 ((jo s.data.toList).length) ca9)] ∧ Mg w w1 (.row 146 3 (.slice so8 ((jo s.data.toList).length) ca9) ((jo s.data.toList).length) ((jw (jo s.data.toList))) :: [])) _ ⟨0, rfl, ⟨Nat.zero_le _, fun j ua ur hj => absurd hj (Nat.not_lt_zero _)⟩, A.keep _ (by repeat' constructor), M⟩ ?_)))
 clear M A
 rintro m_ a w13 ⟨i, rfl, hinv15, A, M⟩ K14 hK14
 obtain ⟨hi0, hin9⟩ := hinv15
 refine wsk fun K16 hK16 => wsk fun K17 hK17 => wrl ?_
 iterate 2 refine sdm A λa A↦?_
 refine sdo A (qw Tryz.underlying143 rfl) λa A↦?_
 rcases tf (decide (((i : Nat) : Int) < (((jo s.data.toList).length : Nat) : Int))) with hb18 | hb18
 ·
  have hb18' := of_decide_eq_true hb18
  refine sdc A qx hb18 λa A↦?_
  refine qa (hK17 _ _ (wp_cond_true (A.ev rfl) ?_))
  refine wp_skip (hK16 _ _ (wsk fun K19 hK19 => wp_block (wsk fun K20 hK20 => wrl ?_)))
  iterate 2 refine sdm A λa A↦?_
  obtain ⟨gu, hgu⟩ := row_addr M 0 rfl (by omega)
  obtain ⟨ua, ur, hu⟩ := unit_get (us := jo s.data.toList) (i := i) (by omega)
  refine sdo (v := .pointer (some ⟨gu, i * 3, none⟩)) A (does_indexX Tryz.underlying143 (by kernel_rfl) rfl rfl rfl hgu (show i < (jo s.data.toList).length by omega)) λa A↦?_
  refine sdo (v := .pointer (some ⟨gu, i * 3 + 1, none⟩)) A (qb TrV_fld_146_1 rfl rfl) λa A↦?_
  by_cases hf : ur = -1
  ·
   refine sdo (v := .bool true) A (m_loadX M 0 rfl hgu ((qlh _ i 1 _ hu (by decide)).trans (by rw [if_pos hf]; rfl)) TrV_is1_4 rfl) λa A↦?_
   refine qa (hK20 _ _ (wp_cond_true (A.ev rfl) ?_))
   refine wsk fun K21 hK21 => wrl (sda A λa A↦?_)
   refine qa (hK21 _ _ (wp_ret (hret _ _ (en1 A rfl (qe rfl) ?_))))
   subst hr
   exact ⟨by rw [okS_bad hu hf], M.bel⟩
  ·
   refine sdo (v := .bool false) A (m_loadX M 0 rfl hgu ((qlh _ i 1 _ hu (by decide)).trans (by rw [if_neg hf]; rfl)) TrV_is1_4 rfl) λa A↦?_
   refine qa (hK20 _ _ (wp_cond_false (A.ev rfl) ?_))
   refine wp_skip (hK19 _ _ (wrl (sdm A λa A↦?_)))
   refine sdo (v := .int .i64 (((i + 1 : Nat) : Int))) A (qf rfl rfl (fun w => (zw (jn (by omega) (by omega)) w).trans (by rw [show (((i : Nat) : Int) + 1 : Int) = ((i + 1 : Nat) : Int) from by omega]))) λa A↦?_
   refine sda A λa A↦?_
   refine qa ?_
   refine hK14 _ _ _ (by omega) ⟨i + 1, rfl, ⟨by omega, fun j va vr hj hv => if h9 : j < i then hin9 j va vr h9 hv else by have h8 : j = i := (by omega); subst h8; rw [hu] at hv; injection hv with h7; injection h7 with _ h6; rw [← h6]; exact hf⟩, A.keep _ (by repeat' constructor), M⟩
 ·
  have hb18' := of_decide_eq_false hb18
  refine sdc A qx hb18 λa A↦?_
  refine qa (hK17 _ _ (wp_cond_false (A.ev rfl) ?_))
  refine wp_exit (hK11 _ _ (wsk fun K22 hK22 => wrl (sda A λa A↦?_)))
  refine qa (hK22 _ _ (wp_ret (hret _ _ (en1 A rfl (qe rfl) ?_))))
  subst hr
  exact ⟨by rw [okS_good (fun j ua ur hj => hin9 j ua ur (by have := (List.getElem?_eq_some_iff.1 hj).1; omega) hj)], M.bel⟩
theorem risCh_any {w : World} {n : Int} {r : Bool} (hr : kb n = r) : Calls Tryz.prog 97 #[.int .i64 n] w fun e w' => e = .returned (.bool r) ∧ Below w.heap.size w w' := by
 have M : Mg w w ([]) := Mg.start w
 refine qm (l := [(0, .int .i64 n)]) Tryz.func97 rfl Tryz.ntmps97 rfl rfl ?_
 intro Q hret hnorm hP a A
 refine wsk fun K1 hK1 => wrl (sda A λa A↦?_)
 refine qa (hK1 _ _ (wsk fun K2 hK2 => wrl (sdm A λa A↦?_)))
 rcases tf (decide (0 ≤ n)) with hb3 | hb3
 ·
  have hb3' := of_decide_eq_true hb3
  refine sdc A jl hb3 λa A↦?_
  iterate 2 refine sdm A λa A↦?_
  rcases tf (decide (n ≤ 1114111)) with hb4 | hb4
  ·
   have hb4' := of_decide_eq_true hb4
   refine sdc A jx hb4 λa A↦?_
   refine sdk (v := .bool true) A λa A↦?_
   iterate 2 refine sdm A λa A↦?_
   rcases tf (decide (n < 55296)) with hb5 | hb5
   ·
    have hb5' := of_decide_eq_true hb5
    refine sdc A qx hb5 λa A↦?_
    refine sdm A λa A↦?_
    iterate 2 refine qh A rfl rfl rfl λa A↦?_
    iterate 2 refine sdk (v := .bool true) A λa A↦?_
    refine sda A λa A↦?_
    refine qa (hK2 _ _ (wp_ret (hret _ _ (en1 A rfl (qe rfl) ?_))))
    subst hr
    exact ⟨by rw [show kb n = true from by unfold kb; apply decide_eq_true; omega], M.bel⟩
   ·
    have hb5' := of_decide_eq_false hb5
    refine sdc A qx hb5 λa A↦?_
    iterate 2 refine sdm A λa A↦?_
    rcases tf (decide (57343 < n)) with hb6 | hb6
    ·
     have hb6' := of_decide_eq_true hb6
     refine sdc A jd hb6 λa A↦?_
     iterate 2 refine sdk (v := .bool true) A λa A↦?_
     refine sda A λa A↦?_
     refine qa (hK2 _ _ (wp_ret (hret _ _ (en1 A rfl (qe rfl) ?_))))
     subst hr
     exact ⟨by rw [show kb n = true from by unfold kb; apply decide_eq_true; omega], M.bel⟩
    ·
     have hb6' := of_decide_eq_false hb6
     refine sdc A jd hb6 λa A↦?_
     iterate 2 refine sdk (v := .bool false) A λa A↦?_
     refine sda A λa A↦?_
     refine qa (hK2 _ _ (wp_ret (hret _ _ (en1 A rfl (qe rfl) ?_))))
     subst hr
     exact ⟨by rw [show kb n = false from by unfold kb; apply decide_eq_false; omega], M.bel⟩
  ·
   have hb4' := of_decide_eq_false hb4
   refine sdc A jx hb4 λa A↦?_
   refine sdk (v := .bool false) A λa A↦?_
   refine sdm A λa A↦?_
   iterate 3 refine qh A rfl rfl rfl λa A↦?_
   iterate 2 refine qaa A rfl rfl rfl λa A↦?_
   refine qh A rfl rfl rfl λa A↦?_
   refine sdk (v := .bool false) A λa A↦?_
   refine sda A λa A↦?_
   refine qa (hK2 _ _ (wp_ret (hret _ _ (en1 A rfl (qe rfl) ?_))))
   subst hr
   exact ⟨by rw [show kb n = false from by unfold kb; apply decide_eq_false; omega], M.bel⟩
 ·
  have hb3' := of_decide_eq_false hb3
  refine sdc A jl hb3 λa A↦?_
  refine sdm A λa A↦?_
  iterate 2 refine qh A rfl rfl rfl λa A↦?_
  refine sdk (v := .bool false) A λa A↦?_
  refine sdm A λa A↦?_
  iterate 3 refine qh A rfl rfl rfl λa A↦?_
  iterate 2 refine qaa A rfl rfl rfl λa A↦?_
  refine qh A rfl rfl rfl λa A↦?_
  refine sdk (v := .bool false) A λa A↦?_
  refine sda A λa A↦?_
  refine qa (hK2 _ _ (wp_ret (hret _ _ (en1 A rfl (qe rfl) ?_))))
  subst hr
  exact ⟨by rw [show kb n = false from by unfold kb; apply decide_eq_false; omega], M.bel⟩
/-- Sound by its kind, asked in the document's order. -/
def xw (k n : Int) (q : Q6) (s : ByteArray) (mr ml : Nat) : Bool :=
 if k < 1 ∨ 11 < k ∨ okS s = false then false
 else if k = 3 ∧ vj q = false then false
 else if k ≠ 3 ∧ (vm q.b1 q.t1.length q.q1.length = false ∨ vm q.b2 q.t2.length q.q2.length = false) then false
 else if s ≠ ⟨#[]⟩ ∧ k ≠ 5 ∧ k ≠ 6 ∧ k ≠ 11 then false
 else if 0 < mr ∧ k ≠ 7 then false
 else if k = 2 ∧ n ≠ 0 ∧ n ≠ 1 then false
 else if k = 4 ∧ kb n = false then false
 else if k ≠ 2 ∧ k ≠ 4 ∧ n ≠ 0 then false
 else if k = 8 then decide (ml = 2)
 else decide (k = 9 ∨ ml = 0)
theorem okS_nil : okS ⟨#[]⟩ = true := by unfold okS; rfl
theorem jb (k n : Int) (q : Q6) (s : ByteArray) (mr ml : Nat) : je k n q s mr ml = xw k n q s mr ml := by
 have hv : s = ⟨#[]⟩ → okS s = true := by rintro rfl; exact okS_nil
 have hn0 : vm false 0 0 = true := rfl
 unfold je xw
 by_cases hk : k < 1 ∨ 11 < k
 ·
  rw [if_pos (show k < 1 ∨ 11 < k ∨ okS s = false by omega)]
  repeat (rw [if_neg (by omega)])
 ·
  have h11 : k = 1 ∨ k = 2 ∨ k = 3 ∨ k = 4 ∨ k = 5 ∨ k = 6 ∨ k = 7 ∨ k = 8 ∨ k = 9 ∨ k = 10 ∨ k = 11 := by omega
  simp only [xx, hn0]
  generalize vm q.b1 q.t1.length q.q1.length = B1
  generalize vm q.b2 q.t2.length q.q2.length = B2
  generalize vj q = S1
  generalize kb n = S2
  by_cases hs : s = ⟨#[]⟩
  ·
   rw [hv hs]
   have hs2 : ¬ s ≠ ⟨#[]⟩ := fun h => h hs
   rcases h11 with h | h | h | h | h | h | h | h | h | h | h <;> subst h <;> cases B1 <;> cases B2 <;> cases S1 <;> cases S2 <;> simp [hs] <;> by_cases hm : mr = 0 <;> simp [hm] <;> by_cases hn : n = 0 <;> simp [hn] <;> first | omega | (by_cases hn1 : n = 1 <;> simp [hn1]) | skip
  ·
   cases hV : okS s <;> rcases h11 with h | h | h | h | h | h | h | h | h | h | h <;> subst h <;> cases B1 <;> cases B2 <;> cases S1 <;> cases S2 <;> simp [hs] <;> by_cases hm : mr = 0 <;> simp [hm] <;> by_cases hn : n = 0 <;> simp [hn] <;> first | omega | skip
section
variable {k n : Int} {q : Q6} {s : ByteArray} {mr ml : Nat}
def ShA (k : Int) (s : ByteArray) : Prop := 1 ≤ k ∧ k ≤ 11 ∧ okS s = true
def ShB (k : Int) (q : Q6) : Prop := (k = 3 → vj q = true) ∧ (k ≠ 3 → vm q.b1 q.t1.length q.q1.length = true ∧ vm q.b2 q.t2.length q.q2.length = true)
def ShC (k : Int) (s : ByteArray) : Prop := s = ⟨#[]⟩ ∨ k = 5 ∨ k = 6 ∨ k = 11
def ShD (k : Int) (mr : Nat) : Prop := mr = 0 ∨ k = 7
def ShE (k n : Int) : Prop := (k = 2 → n = 0 ∨ n = 1) ∧ (k = 4 → kb n = true) ∧ (k ≠ 2 → k ≠ 4 → n = 0)
theorem sh1 (h : k < 1 ∨ 11 < k ∨ okS s = false) : xw k n q s mr ml = false := by unfold xw; rw [if_pos h]
theorem shA (a : ShA k s) : ¬ (k < 1 ∨ 11 < k ∨ okS s = false) := fun e => by
 rcases e with e | e | e
 ·
  have := a.1; omega
 ·
  have := a.2.1; omega
 ·
  rw [a.2.2] at e; cases e
theorem sh2 (a : ShA k s) (h : k = 3) (S : vj q = false) : xw k n q s mr ml = false := by unfold xw; rw [if_neg (shA a), if_pos ⟨h, S⟩]
theorem sh3 (a : ShA k s) (h : k ≠ 3) (S : vm q.b1 q.t1.length q.q1.length = false ∨ vm q.b2 q.t2.length q.q2.length = false) : xw k n q s mr ml = false := by unfold xw; rw [if_neg (shA a), if_neg (fun e => h e.1), if_pos ⟨h, S⟩]
theorem shB1 (b : ShB k q) : ¬ (k = 3 ∧ vj q = false) := fun e => by have := b.1 e.1; rw [e.2] at this; cases this
theorem shB2 (b : ShB k q) : ¬ (k ≠ 3 ∧ (vm q.b1 q.t1.length q.q1.length = false ∨ vm q.b2 q.t2.length q.q2.length = false)) := fun e => by
 have := b.2 e.1
 rcases e.2 with h | h
 ·
  rw [this.1] at h; cases h
 ·
  rw [this.2] at h; cases h
theorem sh4 (a : ShA k s) (b : ShB k q) (h : s ≠ ⟨#[]⟩ ∧ k ≠ 5 ∧ k ≠ 6 ∧ k ≠ 11) : xw k n q s mr ml = false := by unfold xw; rw [if_neg (shA a), if_neg (shB1 b), if_neg (shB2 b), if_pos h]
theorem shC (c : ShC k s) : ¬ (s ≠ ⟨#[]⟩ ∧ k ≠ 5 ∧ k ≠ 6 ∧ k ≠ 11) := fun e => by rcases c with h | h | h | h <;> first | exact e.1 h | exact e.2.1 h | exact e.2.2.1 h | exact e.2.2.2 h
theorem sh5 (a : ShA k s) (b : ShB k q) (c : ShC k s) (h : 0 < mr ∧ k ≠ 7) : xw k n q s mr ml = false := by unfold xw; rw [if_neg (shA a), if_neg (shB1 b), if_neg (shB2 b), if_neg (shC c), if_pos h]
theorem shD (d : ShD k mr) : ¬ (0 < mr ∧ k ≠ 7) := fun e => by rcases d with h | h <;> omega
theorem sh6 (a : ShA k s) (b : ShB k q) (c : ShC k s) (d : ShD k mr) (h : (k = 2 ∧ n ≠ 0 ∧ n ≠ 1) ∨ (k = 4 ∧ kb n = false) ∨ (k ≠ 2 ∧ k ≠ 4 ∧ n ≠ 0)) : xw k n q s mr ml = false := by
 unfold xw
 rw [if_neg (shA a), if_neg (shB1 b), if_neg (shB2 b), if_neg (shC c), if_neg (shD d)]
 rcases h with h | h | h
 ·
  rw [if_pos h]
 ·
  rw [if_neg (by omega), if_pos h]
 ·
  rw [if_neg (by omega), if_neg (fun e => h.2.1 e.1), if_pos h]
theorem sh9 (a : ShA k s) (b : ShB k q) (c : ShC k s) (d : ShD k mr) (e : ShE k n) : xw k n q s mr ml = if k = 8 then decide (ml = 2) else decide (k = 9 ∨ ml = 0) := by
 unfold xw
 have e1 := e.1
 have e3 := e.2.2
 rw [if_neg (shA a), if_neg (shB1 b), if_neg (shB2 b), if_neg (shC c), if_neg (shD d), if_neg (fun h => by have := e1 h.1; omega), if_neg (fun h => by have := e.2.1 h.1; rw [h.2] at this; cases this), if_neg (fun h => by have := e3 h.1 h.2.1; omega)]
end
theorem qma {w : World} {d : Nd} {ts : List Dt} (hok : NdOk w d) (hs2 : d.s.size ≤ 4000000) (hlen : ts.length ≤ 9223372036854775807) {r : Bool} (hr : je d.k d.n d.y.q d.s d.rl.length ts.length = r) : Calls Tryz.prog 78 #[.agg (d.cells ts.length).toArray] w fun e w' => e = .returned (.bool r) ∧ Below w.heap.size w w' := by
 have hrl : d.rl.length ≤ 9223372036854775807 := Nat.le_trans hok.rcap hok.rmax
 have M : Mg w w ([]) := Mg.start w
 refine qm (l := [(0, .agg (d.cells ts.length).toArray)]) Tryz.func78 rfl Tryz.ntmps78 rfl rfl ?_
 intro Q hret hnorm hP a A
 refine wsk fun K1 hK1 => wrl (zn (vs := [.int .i64 d.k, .int .i64 d.n, .bool d.y.q.b1, .slice d.y.o1 d.y.q.t1.length d.y.c1, .slice d.y.o2 d.y.q.q1.length d.y.c2, .bool d.y.q.b2, .slice d.y.o3 d.y.q.t2.length d.y.c3, .slice d.y.o4 d.y.q.q2.length d.y.c4, .string d.s, .slice d.ro d.rl.length d.rc, .slice d.lo ts.length d.lc]) (t := 53) A M rfl rfl rfl pg (zh rfl rfl) (by decide) ?_)
 intro g2 w3 M a A
 refine sda A λa A↦?_
 refine qa (hK1 _ _ (wsk fun K4 hK4 => ?_))
 have hJ5 : ∀ a w1, ((ShA d.k d.s) ∧ Sl a 100 [(0, .agg (d.cells ts.length).toArray), (1, .pointer (some ⟨g2, 0, none⟩))] ∧ Mg w w1 (.obj g2 (.cells (d.cells ts.length).toArray 53) :: [])) → K4 a w1 := by
  clear A M
  rintro a w6 ⟨hf7, A, M⟩
  have hSA := hf7
  refine hK4 _ _ (wsk fun K8 hK8 => ?_)
  have hJ9 : ∀ a w1, ((ShB d.k d.y.q) ∧ Sl a 100 [(0, .agg (d.cells ts.length).toArray), (1, .pointer (some ⟨g2, 0, none⟩))] ∧ Mg w w1 (.obj g2 (.cells (d.cells ts.length).toArray 53) :: [])) → K8 a w1 := by
   clear A M
   rintro a w10 ⟨hf11, A, M⟩
   have hSB := hf11
   refine hK8 _ _ (wsk fun K12 hK12 => ?_)
   have hJ13 : ∀ a w1, ((ShC d.k d.s) ∧ Sl a 100 [(0, .agg (d.cells ts.length).toArray), (1, .pointer (some ⟨g2, 0, none⟩))] ∧ Mg w w1 (.obj g2 (.cells (d.cells ts.length).toArray 53) :: [])) → K12 a w1 := by
    clear A M
    rintro a w14 ⟨hf15, A, M⟩
    have hSC := hf15
    refine hK12 _ _ (wsk fun K16 hK16 => ?_)
    have hJ17 : ∀ a w1, ((ShD d.k d.rl.length) ∧ Sl a 100 [(0, .agg (d.cells ts.length).toArray), (1, .pointer (some ⟨g2, 0, none⟩))] ∧ Mg w w1 (.obj g2 (.cells (d.cells ts.length).toArray 53) :: [])) → K16 a w1 := by
     clear A M
     rintro a w18 ⟨hf19, A, M⟩
     have hSD := hf19
     refine hK16 _ _ (wsk fun K20 hK20 => ?_)
     have hJ21 : ∀ a w1, ((ShE d.k d.n) ∧ Sl a 100 [(0, .agg (d.cells ts.length).toArray), (1, .pointer (some ⟨g2, 0, none⟩))] ∧ Mg w w1 (.obj g2 (.cells (d.cells ts.length).toArray 53) :: [])) → K20 a w1 := by
      clear A M
      rintro a w22 ⟨hf23, A, M⟩
      have hSE := hf23
      refine hK20 _ _ (wsk fun K24 hK24 => wsk fun K25 hK25 => wrl (sdo (v := .pointer (some ⟨g2, 0, none⟩)) A (qb TrV_fld_53_0 rfl rfl) λa A↦?_))
      refine sdo A (qk M TrV_is1_3 rfl 0 rfl rfl) λa A↦?_
      rcases tf ((d.k == 8)) with hb26 | hb26
      ·
       have hb26' := eq_of_beq hb26
       refine sdc A qi hb26 λa A↦?_
       refine qa (hK25 _ _ (wp_cond_true (A.ev rfl) ?_))
       refine wsk fun K27 hK27 => wrl (sdo (v := .pointer (some ⟨g2, 10, none⟩)) A (qb TrV_fld_53_5 rfl rfl) λa A↦?_)
       refine sdo A (qk M TrV_is1_39 rfl 0 rfl rfl) λa A↦?_
       refine sdo A (qw Tryz.underlying39 rfl) λa A↦?_
       rcases tf ((((ts.length : Nat) : Int) == 2)) with hb28 | hb28
       ·
        have hb28' := eq_of_beq hb28
        refine sdc A qi hb28 λa A↦?_
        refine sda A λa A↦?_
        refine qa (hK27 _ _ (wp_ret (hret _ _ (en1 A rfl (qe rfl) ?_))))
        exact ⟨by rw [← hr, jb, sh9 hSA hSB hSC hSD hSE, if_pos (by omega), decide_eq_true (show (ts.length = 2) by omega)], M.bel⟩
       ·
        have hb28' := ne_of_beq_false hb28
        refine sdc A qi hb28 λa A↦?_
        refine sda A λa A↦?_
        refine qa (hK27 _ _ (wp_ret (hret _ _ (en1 A rfl (qe rfl) ?_))))
        exact ⟨by rw [← hr, jb, sh9 hSA hSB hSC hSD hSE, if_pos (by omega), decide_eq_false (show ¬ (ts.length = 2) by omega)], M.bel⟩
      ·
       have hb26' := ne_of_beq_false hb26
       refine sdc A qi hb26 λa A↦?_
       refine qa (hK25 _ _ (wp_cond_false (A.ev rfl) ?_))
       refine wp_skip (hK24 _ _ (wsk fun K29 hK29 => wrl (sdo (v := .pointer (some ⟨g2, 0, none⟩)) A (qb TrV_fld_53_0 rfl rfl) λa A↦?_)))
       refine sdo A (qk M TrV_is1_3 rfl 0 rfl rfl) λa A↦?_
       rcases tf ((d.k == 9)) with hb30 | hb30
       ·
        have hb30' := eq_of_beq hb30
        refine sdc A qi hb30 λa A↦?_
        refine sdm A λa A↦?_
        iterate 4 refine qh A rfl rfl rfl λa A↦?_
        refine sdk (v := .bool true) A λa A↦?_
        refine sda A λa A↦?_
        refine qa (hK29 _ _ (wp_ret (hret _ _ (en1 A rfl (qe rfl) ?_))))
        exact ⟨by rw [← hr, jb, sh9 hSA hSB hSC hSD hSE, if_neg (by omega), decide_eq_true (show (d.k = 9 ∨ ts.length = 0) by omega)], M.bel⟩
       ·
        have hb30' := ne_of_beq_false hb30
        refine sdc A qi hb30 λa A↦?_
        refine sdm A λa A↦?_
        refine sdo (v := .pointer (some ⟨g2, 10, none⟩)) A (qb TrV_fld_53_5 rfl rfl) λa A↦?_
        refine sdo A (qk M TrV_is1_39 rfl 0 rfl rfl) λa A↦?_
        refine sdo A (qw Tryz.underlying39 rfl) λa A↦?_
        rcases tf ((((ts.length : Nat) : Int) == 0)) with hb31 | hb31
        ·
         have hb31' := eq_of_beq hb31
         refine sdc A qi hb31 λa A↦?_
         refine sdk (v := .bool true) A λa A↦?_
         refine sda A λa A↦?_
         refine qa (hK29 _ _ (wp_ret (hret _ _ (en1 A rfl (qe rfl) ?_))))
         exact ⟨by rw [← hr, jb, sh9 hSA hSB hSC hSD hSE, if_neg (by omega), decide_eq_true (show (d.k = 9 ∨ ts.length = 0) by omega)], M.bel⟩
        ·
         have hb31' := ne_of_beq_false hb31
         refine sdc A qi hb31 λa A↦?_
         refine sdk (v := .bool false) A λa A↦?_
         refine sda A λa A↦?_
         refine qa (hK29 _ _ (wp_ret (hret _ _ (en1 A rfl (qe rfl) ?_))))
         exact ⟨by rw [← hr, jb, sh9 hSA hSB hSC hSD hSE, if_neg (by omega), decide_eq_false (show ¬ (d.k = 9 ∨ ts.length = 0) by omega)], M.bel⟩
     refine wsk fun K32 hK32 => wrl (sdo (v := .pointer (some ⟨g2, 0, none⟩)) A (qb TrV_fld_53_0 rfl rfl) λa A↦?_)
     refine sdo A (qk M TrV_is1_3 rfl 0 rfl rfl) λa A↦?_
     refine qa (hK32 _ _ (wp_block (wsk fun K33 hK33 => wrl ?_)))
     rcases tf ((d.k == 2)) with hb34 | hb34
     ·
      have hb34' := eq_of_beq hb34
      refine sdc A qi hb34 λa A↦?_
      refine sda A λa A↦?_
      refine qa (hK33 _ _ (wp_cond_true (A.ev rfl) ?_))
      refine wsk fun K35 hK35 => wrl (sdo (v := .pointer (some ⟨g2, 1, none⟩)) A (qb TrV_fld_53_1 rfl rfl) λa A↦?_)
      refine sdo A (qk M TrV_is1_3 rfl 0 rfl rfl) λa A↦?_
      rcases tf ((d.n != 0)) with hb36 | hb36
      ·
       have hb36' := bne_iff_ne.1 hb36
       refine sdc A zl hb36 λa A↦?_
       refine sdm A λa A↦?_
       refine sdo (v := .pointer (some ⟨g2, 1, none⟩)) A (qb TrV_fld_53_1 rfl rfl) λa A↦?_
       refine sdo A (qk M TrV_is1_3 rfl 0 rfl rfl) λa A↦?_
       rcases tf ((d.n != 1)) with hb37 | hb37
       ·
        have hb37' := bne_iff_ne.1 hb37
        refine sdc A zl hb37 λa A↦?_
        refine sdk (v := .bool true) A λa A↦?_
        refine qa (hK35 _ _ (wp_cond_true (A.ev rfl) ?_))
        refine wsk fun K38 hK38 => wrl (sda A λa A↦?_)
        refine qa (hK38 _ _ (wp_ret (hret _ _ (en1 A rfl (qe rfl) ?_))))
        exact ⟨by rw [← hr, jb, sh6 hSA hSB hSC hSD (.inl ⟨by omega, by omega, by omega⟩)], M.bel⟩
       ·
        have hb37' := bne_eq_false_iff_eq.1 hb37
        refine sdc A zl hb37 λa A↦?_
        refine sdk (v := .bool false) A λa A↦?_
        refine qa (hK35 _ _ (wp_cond_false (A.ev rfl) ?_))
        refine wp_skip ?_
        exact hJ21 _ _ ⟨⟨fun h => by omega, fun h => absurd h (by omega), fun h h2 => by omega⟩, A.keep _ ⟨rfl, rfl, trivial⟩, M⟩
      ·
       have hb36' := bne_eq_false_iff_eq.1 hb36
       refine sdc A zl hb36 λa A↦?_
       refine sdm A λa A↦?_
       iterate 3 refine qh A rfl rfl rfl λa A↦?_
       refine sdk (v := .bool false) A λa A↦?_
       refine qa (hK35 _ _ (wp_cond_false (A.ev rfl) ?_))
       refine wp_skip ?_
       exact hJ21 _ _ ⟨⟨fun h => by omega, fun h => absurd h (by omega), fun h h2 => by omega⟩, A.keep _ ⟨rfl, rfl, trivial⟩, M⟩
     ·
      have hb34' := ne_of_beq_false hb34
      refine sdc A qi hb34 λa A↦?_
      refine sda A λa A↦?_
      refine qa (hK33 _ _ (wp_cond_false (A.ev rfl) ?_))
      refine wsk fun K39 hK39 => wrl ?_
      rcases tf ((d.k == 4)) with hb40 | hb40
      ·
       have hb40' := eq_of_beq hb40
       refine sdc A qi hb40 λa A↦?_
       refine sda A λa A↦?_
       refine qa (hK39 _ _ (wp_cond_true (A.ev rfl) ?_))
       refine wsk fun K41 hK41 => wrl (sdo (v := .pointer (some ⟨g2, 1, none⟩)) A (qb TrV_fld_53_1 rfl rfl) λa A↦?_)
       refine sdo A (qk M TrV_is1_3 rfl 0 rfl rfl) λa A↦?_
       rcases tf (kb d.n) with hb42 | hb42
       ·
        refine gcl A M (ef rfl rfl) (risCh_any hb42) fun w44 hb43 M a A => ?_
        refine sdo (v := .bool false) A (za rfl zj) λa A↦?_
        refine qa (hK41 _ _ (wp_cond_false (A.ev rfl) ?_))
        refine wp_skip ?_
        exact hJ21 _ _ ⟨⟨fun h => by omega, fun h => hb42, fun h h2 => by omega⟩, A.keep _ ⟨rfl, rfl, trivial⟩, M⟩
       ·
        refine gcl A M (ef rfl rfl) (risCh_any hb42) fun w46 hb45 M a A => ?_
        refine sdo (v := .bool true) A (za rfl zj) λa A↦?_
        refine qa (hK41 _ _ (wp_cond_true (A.ev rfl) ?_))
        refine wsk fun K47 hK47 => wrl (sda A λa A↦?_)
        refine qa (hK47 _ _ (wp_ret (hret _ _ (en1 A rfl (qe rfl) ?_))))
        exact ⟨by rw [← hr, jb, sh6 hSA hSB hSC hSD (.inr (.inl ⟨by omega, hb42⟩))], M.bel⟩
      ·
       have hb40' := ne_of_beq_false hb40
       refine sdc A qi hb40 λa A↦?_
       refine sda A λa A↦?_
       refine qa (hK39 _ _ (wp_cond_false (A.ev rfl) ?_))
       refine wsk fun K48 hK48 => wrl (sdo (v := .pointer (some ⟨g2, 1, none⟩)) A (qb TrV_fld_53_1 rfl rfl) λa A↦?_)
       refine sdo A (qk M TrV_is1_3 rfl 0 rfl rfl) λa A↦?_
       rcases tf ((d.n != 0)) with hb49 | hb49
       ·
        have hb49' := bne_iff_ne.1 hb49
        refine sdc A zl hb49 λa A↦?_
        refine qa (hK48 _ _ (wp_cond_true (A.ev rfl) ?_))
        refine wsk fun K50 hK50 => wrl (sda A λa A↦?_)
        refine qa (hK50 _ _ (wp_ret (hret _ _ (en1 A rfl (qe rfl) ?_))))
        exact ⟨by rw [← hr, jb, sh6 hSA hSB hSC hSD (.inr (.inr ⟨by omega, by omega, by omega⟩))], M.bel⟩
       ·
        have hb49' := bne_eq_false_iff_eq.1 hb49
        refine sdc A zl hb49 λa A↦?_
        refine qa (hK48 _ _ (wp_cond_false (A.ev rfl) ?_))
        refine wp_skip ?_
        exact hJ21 _ _ ⟨⟨fun h => by omega, fun h => absurd h (by omega), fun h h2 => by omega⟩, A.keep _ ⟨rfl, rfl, trivial⟩, M⟩
    refine wsk fun K51 hK51 => wrl (sdo (v := .pointer (some ⟨g2, 9, none⟩)) A (qb TrV_fld_53_4 rfl rfl) λa A↦?_)
    refine sdo A (qk M TrV_is1_51 rfl 0 rfl rfl) λa A↦?_
    refine sdo A (qw Tryz.underlying51 rfl) λa A↦?_
    rcases tf (decide (0 < ((d.rl.length : Nat) : Int))) with hb52 | hb52
    ·
     have hb52' := of_decide_eq_true hb52
     refine sdc A jd hb52 λa A↦?_
     refine sdm A λa A↦?_
     refine sdo (v := .pointer (some ⟨g2, 0, none⟩)) A (qb TrV_fld_53_0 rfl rfl) λa A↦?_
     refine sdo A (qk M TrV_is1_3 rfl 0 rfl rfl) λa A↦?_
     rcases tf ((d.k != 7)) with hb53 | hb53
     ·
      have hb53' := bne_iff_ne.1 hb53
      refine sdc A zl hb53 λa A↦?_
      refine sdk (v := .bool true) A λa A↦?_
      refine qa (hK51 _ _ (wp_cond_true (A.ev rfl) ?_))
      refine wsk fun K54 hK54 => wrl (sda A λa A↦?_)
      refine qa (hK54 _ _ (wp_ret (hret _ _ (en1 A rfl (qe rfl) ?_))))
      exact ⟨by rw [← hr, jb, sh5 hSA hSB hSC ⟨by omega, by omega⟩], M.bel⟩
     ·
      have hb53' := bne_eq_false_iff_eq.1 hb53
      refine sdc A zl hb53 λa A↦?_
      refine sdk (v := .bool false) A λa A↦?_
      refine qa (hK51 _ _ (wp_cond_false (A.ev rfl) ?_))
      refine wp_skip ?_
      exact hJ17 _ _ ⟨.inr (by omega), A.keep _ ⟨rfl, rfl, trivial⟩, M⟩
    ·
     have hb52' := of_decide_eq_false hb52
     refine sdc A jd hb52 λa A↦?_
     refine sdm A λa A↦?_
     iterate 3 refine qh A rfl rfl rfl λa A↦?_
     refine sdk (v := .bool false) A λa A↦?_
     refine qa (hK51 _ _ (wp_cond_false (A.ev rfl) ?_))
     refine wp_skip ?_
     exact hJ17 _ _ ⟨.inl (by omega), A.keep _ ⟨rfl, rfl, trivial⟩, M⟩
   refine wsk fun K55 hK55 => wrl (sdo (v := .pointer (some ⟨g2, 8, none⟩)) A (qb TrV_fld_53_3 rfl rfl) λa A↦?_)
   refine sdo A (qk M TrV_is1_9 rfl 0 rfl rfl) λa A↦?_
   rcases tf (decide (d.s = ⟨#[]⟩)) with hb56 | hb56
   ·
    have hb56' := of_decide_eq_true hb56
    refine sdo (v := .bool false) A (qf rfl rfl (fun w => (qcg Tryz.underlying9 w).trans (by rw [hb56] <;> rfl))) λa A↦?_
    refine sdm A λa A↦?_
    iterate 3 refine qh A rfl rfl rfl λa A↦?_
    refine sdk (v := .bool false) A λa A↦?_
    refine sdm A λa A↦?_
    iterate 3 refine qh A rfl rfl rfl λa A↦?_
    refine sdk (v := .bool false) A λa A↦?_
    refine sdm A λa A↦?_
    iterate 3 refine qh A rfl rfl rfl λa A↦?_
    refine sdk (v := .bool false) A λa A↦?_
    refine qa (hK55 _ _ (wp_cond_false (A.ev rfl) ?_))
    refine wp_skip ?_
    exact hJ13 _ _ ⟨.inl hb56', A.keep _ ⟨rfl, rfl, trivial⟩, M⟩
   ·
    have hb56' := of_decide_eq_false hb56
    refine sdo (v := .bool true) A (qf rfl rfl (fun w => (qcg Tryz.underlying9 w).trans (by rw [hb56] <;> rfl))) λa A↦?_
    refine sdm A λa A↦?_
    refine sdo (v := .pointer (some ⟨g2, 0, none⟩)) A (qb TrV_fld_53_0 rfl rfl) λa A↦?_
    refine sdo A (qk M TrV_is1_3 rfl 0 rfl rfl) λa A↦?_
    rcases tf ((d.k != 5)) with hb57 | hb57
    ·
     have hb57' := bne_iff_ne.1 hb57
     refine sdc A zl hb57 λa A↦?_
     refine sdk (v := .bool true) A λa A↦?_
     refine sdm A λa A↦?_
     refine sdo (v := .pointer (some ⟨g2, 0, none⟩)) A (qb TrV_fld_53_0 rfl rfl) λa A↦?_
     refine sdo A (qk M TrV_is1_3 rfl 0 rfl rfl) λa A↦?_
     rcases tf ((d.k != 6)) with hb58 | hb58
     ·
      have hb58' := bne_iff_ne.1 hb58
      refine sdc A zl hb58 λa A↦?_
      refine sdk (v := .bool true) A λa A↦?_
      refine sdm A λa A↦?_
      refine sdo (v := .pointer (some ⟨g2, 0, none⟩)) A (qb TrV_fld_53_0 rfl rfl) λa A↦?_
      refine sdo A (qk M TrV_is1_3 rfl 0 rfl rfl) λa A↦?_
      rcases tf ((d.k != 11)) with hb59 | hb59
      ·
       have hb59' := bne_iff_ne.1 hb59
       refine sdc A zl hb59 λa A↦?_
       refine sdk (v := .bool true) A λa A↦?_
       refine qa (hK55 _ _ (wp_cond_true (A.ev rfl) ?_))
       refine wsk fun K60 hK60 => wrl (sda A λa A↦?_)
       refine qa (hK60 _ _ (wp_ret (hret _ _ (en1 A rfl (qe rfl) ?_))))
       exact ⟨by rw [← hr, jb, sh4 hSA hSB ⟨hb56', by omega, by omega, by omega⟩], M.bel⟩
      ·
       have hb59' := bne_eq_false_iff_eq.1 hb59
       refine sdc A zl hb59 λa A↦?_
       refine sdk (v := .bool false) A λa A↦?_
       refine qa (hK55 _ _ (wp_cond_false (A.ev rfl) ?_))
       refine wp_skip ?_
       exact hJ13 _ _ ⟨.inr (by omega), A.keep _ ⟨rfl, rfl, trivial⟩, M⟩
     ·
      have hb58' := bne_eq_false_iff_eq.1 hb58
      refine sdc A zl hb58 λa A↦?_
      refine sdk (v := .bool false) A λa A↦?_
      refine sdm A λa A↦?_
      iterate 3 refine qh A rfl rfl rfl λa A↦?_
      refine sdk (v := .bool false) A λa A↦?_
      refine qa (hK55 _ _ (wp_cond_false (A.ev rfl) ?_))
      refine wp_skip ?_
      exact hJ13 _ _ ⟨.inr (by omega), A.keep _ ⟨rfl, rfl, trivial⟩, M⟩
    ·
     have hb57' := bne_eq_false_iff_eq.1 hb57
     refine sdc A zl hb57 λa A↦?_
     refine sdk (v := .bool false) A λa A↦?_
     refine sdm A λa A↦?_
     iterate 3 refine qh A rfl rfl rfl λa A↦?_
     refine sdk (v := .bool false) A λa A↦?_
     refine sdm A λa A↦?_
     iterate 3 refine qh A rfl rfl rfl λa A↦?_
     refine sdk (v := .bool false) A λa A↦?_
     refine qa (hK55 _ _ (wp_cond_false (A.ev rfl) ?_))
     refine wp_skip ?_
     exact hJ13 _ _ ⟨.inr (by omega), A.keep _ ⟨rfl, rfl, trivial⟩, M⟩
  refine wsk fun K61 hK61 => wrl (sdo (v := .pointer (some ⟨g2, 0, none⟩)) A (qb TrV_fld_53_0 rfl rfl) λa A↦?_)
  refine sdo A (qk M TrV_is1_3 rfl 0 rfl rfl) λa A↦?_
  rcases tf ((d.k == 3)) with hb62 | hb62
  ·
   have hb62' := eq_of_beq hb62
   refine sdc A qi hb62 λa A↦?_
   refine qa (hK61 _ _ (wp_cond_true (A.ev rfl) ?_))
   refine wsk fun K63 hK63 => wrl (sdo (v := .pointer (some ⟨g2, 2, none⟩)) A (qb TrV_fld_53_2 rfl rfl) λa A↦?_)
   refine sdo A (zi M TrV_isS_50 rfl 0 rfl (cs := [.bool d.y.q.b1, .slice d.y.o1 d.y.q.t1.length d.y.c1, .slice d.y.o2 d.y.q.q1.length d.y.c2, .bool d.y.q.b2, .slice d.y.o3 d.y.q.t2.length d.y.c3, .slice d.y.o4 d.y.q.q2.length d.y.c4]) rfl rfl) λa A↦?_
   rcases tf (vj d.y.q) with hb64 | hb64
   ·
    refine gcl A M (ef rfl rfl) (qhb (Nu.below hok.num M.bel) hok.len hb64) fun w66 hb65 M a A => ?_
    refine sdo (v := .bool false) A (za rfl zj) λa A↦?_
    refine qa (hK63 _ _ (wp_cond_false (A.ev rfl) ?_))
    refine wp_skip ?_
    exact hJ9 _ _ ⟨⟨fun _ => hb64, fun h => absurd (show d.k = 3 by omega) h⟩, A.keep _ ⟨rfl, rfl, trivial⟩, M⟩
   ·
    refine gcl A M (ef rfl rfl) (qhb (Nu.below hok.num M.bel) hok.len hb64) fun w68 hb67 M a A => ?_
    refine sdo (v := .bool true) A (za rfl zj) λa A↦?_
    refine qa (hK63 _ _ (wp_cond_true (A.ev rfl) ?_))
    refine wsk fun K69 hK69 => wrl (sda A λa A↦?_)
    refine qa (hK69 _ _ (wp_ret (hret _ _ (en1 A rfl (qe rfl) ?_))))
    exact ⟨by rw [← hr, jb, sh2 hSA (by omega) hb64], M.bel⟩
  ·
   have hb62' := ne_of_beq_false hb62
   refine sdc A qi hb62 λa A↦?_
   refine qa (hK61 _ _ (wp_cond_false (A.ev rfl) ?_))
   refine wsk fun K70 hK70 => wrl (sdo (v := .pointer (some ⟨g2, 2, none⟩)) A (qb TrV_fld_53_2 rfl rfl) λa A↦?_)
   refine sdo (v := .pointer (some ⟨g2, 2, none⟩)) A (qb TrV_fld_50_0 rfl rfl) λa A↦?_
   refine sdo A (zi M TrV_isS_48 rfl 0 rfl (cs := [.bool d.y.q.b1, .slice d.y.o1 d.y.q.t1.length d.y.c1, .slice d.y.o2 d.y.q.q1.length d.y.c2]) rfl rfl) λa A↦?_
   rcases tf (vm d.y.q.b1 d.y.q.t1.length d.y.q.q1.length) with hb71 | hb71
   ·
    refine gcl A M (ef rfl rfl) (qaf hok.len.l1 hok.len.l2 hb71) fun w73 hb72 M a A => ?_
    refine sdo (v := .bool false) A (za rfl zj) λa A↦?_
    refine sdm A λa A↦?_
    refine sdo (v := .pointer (some ⟨g2, 2, none⟩)) A (qb TrV_fld_53_2 rfl rfl) λa A↦?_
    refine sdo (v := .pointer (some ⟨g2, 5, none⟩)) A (qb TrV_fld_50_1 rfl rfl) λa A↦?_
    refine sdo A (zi M TrV_isS_48 rfl 0 rfl (cs := [.bool d.y.q.b2, .slice d.y.o3 d.y.q.t2.length d.y.c3, .slice d.y.o4 d.y.q.q2.length d.y.c4]) rfl rfl) λa A↦?_
    rcases tf (vm d.y.q.b2 d.y.q.t2.length d.y.q.q2.length) with hb74 | hb74
    ·
     refine gcl A M (ef rfl rfl) (qaf hok.len.l3 hok.len.l4 hb74) fun w76 hb75 M a A => ?_
     refine sdo (v := .bool false) A (za rfl zj) λa A↦?_
     refine sdk (v := .bool false) A λa A↦?_
     refine qa (hK70 _ _ (wp_cond_false (A.ev rfl) ?_))
     refine wp_skip ?_
     exact hJ9 _ _ ⟨⟨fun h => absurd h (by omega), fun _ => ⟨hb71, hb74⟩⟩, A.keep _ ⟨rfl, rfl, trivial⟩, M⟩
    ·
     refine gcl A M (ef rfl rfl) (qaf hok.len.l3 hok.len.l4 hb74) fun w78 hb77 M a A => ?_
     refine sdo (v := .bool true) A (za rfl zj) λa A↦?_
     refine sdk (v := .bool true) A λa A↦?_
     refine qa (hK70 _ _ (wp_cond_true (A.ev rfl) ?_))
     refine wsk fun K79 hK79 => wrl (sda A λa A↦?_)
     refine qa (hK79 _ _ (wp_ret (hret _ _ (en1 A rfl (qe rfl) ?_))))
     exact ⟨by rw [← hr, jb, sh3 hSA (by omega) (.inr hb74)], M.bel⟩
   ·
    refine gcl A M (ef rfl rfl) (qaf hok.len.l1 hok.len.l2 hb71) fun w81 hb80 M a A => ?_
    refine sdo (v := .bool true) A (za rfl zj) λa A↦?_
    refine sdm A λa A↦?_
    iterate 5 refine qh A rfl rfl rfl λa A↦?_
    refine sdk (v := .bool true) A λa A↦?_
    refine qa (hK70 _ _ (wp_cond_true (A.ev rfl) ?_))
    refine wsk fun K82 hK82 => wrl (sda A λa A↦?_)
    refine qa (hK82 _ _ (wp_ret (hret _ _ (en1 A rfl (qe rfl) ?_))))
    exact ⟨by rw [← hr, jb, sh3 hSA (by omega) (.inl hb71)], M.bel⟩
 refine wsk fun K83 hK83 => wrl (sdo (v := .pointer (some ⟨g2, 0, none⟩)) A (qb TrV_fld_53_0 rfl rfl) λa A↦?_)
 refine sdo A (qk M TrV_is1_3 rfl 0 rfl rfl) λa A↦?_
 rcases tf (decide (d.k < 1)) with hb84 | hb84
 ·
  have hb84' := of_decide_eq_true hb84
  refine sdc A qx hb84 λa A↦?_
  refine sdm A λa A↦?_
  iterate 3 refine qh A rfl rfl rfl λa A↦?_
  refine sdk (v := .bool true) A λa A↦?_
  refine sdm A λa A↦?_
  iterate 4 refine qh A rfl rfl rfl λa A↦?_
  refine sdk (v := .bool true) A λa A↦?_
  refine qa (hK83 _ _ (wp_cond_true (A.ev rfl) ?_))
  refine wsk fun K85 hK85 => wrl (sda A λa A↦?_)
  refine qa (hK85 _ _ (wp_ret (hret _ _ (en1 A rfl (qe rfl) ?_))))
  exact ⟨by rw [← hr, jb, sh1 (by omega)], M.bel⟩
 ·
  have hb84' := of_decide_eq_false hb84
  refine sdc A qx hb84 λa A↦?_
  refine sdm A λa A↦?_
  refine sdo (v := .pointer (some ⟨g2, 0, none⟩)) A (qb TrV_fld_53_0 rfl rfl) λa A↦?_
  refine sdo A (qk M TrV_is1_3 rfl 0 rfl rfl) λa A↦?_
  rcases tf (decide (11 < d.k)) with hb86 | hb86
  ·
   have hb86' := of_decide_eq_true hb86
   refine sdc A jd hb86 λa A↦?_
   refine sdk (v := .bool true) A λa A↦?_
   refine sdm A λa A↦?_
   iterate 4 refine qh A rfl rfl rfl λa A↦?_
   refine sdk (v := .bool true) A λa A↦?_
   refine qa (hK83 _ _ (wp_cond_true (A.ev rfl) ?_))
   refine wsk fun K87 hK87 => wrl (sda A λa A↦?_)
   refine qa (hK87 _ _ (wp_ret (hret _ _ (en1 A rfl (qe rfl) ?_))))
   exact ⟨by rw [← hr, jb, sh1 (by omega)], M.bel⟩
  ·
   have hb86' := of_decide_eq_false hb86
   refine sdc A jd hb86 λa A↦?_
   refine sdk (v := .bool false) A λa A↦?_
   refine sdm A λa A↦?_
   refine sdo (v := .pointer (some ⟨g2, 8, none⟩)) A (qb TrV_fld_53_3 rfl rfl) λa A↦?_
   refine sdo A (qk M TrV_is1_9 rfl 0 rfl rfl) λa A↦?_
   rcases tf (okS d.s) with hb88 | hb88
   ·
    refine gcl A M (ef rfl rfl) (qlj hs2 hb88) fun w90 hb89 M a A => ?_
    refine sdo (v := .bool false) A (za rfl zj) λa A↦?_
    refine sdk (v := .bool false) A λa A↦?_
    refine qa (hK83 _ _ (wp_cond_false (A.ev rfl) ?_))
    refine wp_skip ?_
    exact hJ5 _ _ ⟨⟨by omega, by omega, hb88⟩, A.keep _ ⟨rfl, rfl, trivial⟩, M⟩
   ·
    refine gcl A M (ef rfl rfl) (qlj hs2 hb88) fun w92 hb91 M a A => ?_
    refine sdo (v := .bool true) A (za rfl zj) λa A↦?_
    refine sdk (v := .bool true) A λa A↦?_
    refine qa (hK83 _ _ (wp_cond_true (A.ev rfl) ?_))
    refine wsk fun K93 hK93 => wrl (sda A λa A↦?_)
    refine qa (hK93 _ _ (wp_ret (hret _ _ (en1 A rfl (qe rfl) ?_))))
    exact ⟨by rw [← hr, jb, sh1 (.inr (.inr hb88))], M.bel⟩
theorem TrW_is1_3 : Is1 Tryz.prog 3 := ⟨⟨_, Tryz.underlying3, rfl⟩, by kernel_rfl⟩
theorem TrW_is1_39 : Is1 Tryz.prog 39 := ⟨⟨_, Tryz.underlying39, rfl⟩, by kernel_rfl⟩
theorem TrW_fld_53_0 : FieldAt Tryz.prog 53 0 0 := ⟨_, _, Tryz.underlying53, rfl, rfl, by kernel_rfl⟩
theorem TrW_fld_53_5 : FieldAt Tryz.prog 53 5 10 := ⟨_, _, Tryz.underlying53, rfl, rfl, by kernel_rfl⟩
theorem TrW_isS_53 : IsS Tryz.prog 53 11 := ⟨⟨_, Tryz.underlying53⟩, by kernel_rfl⟩
def Counts (t : Dt) : Prop := ∀ {w : World} {dp left : Int}, t.rd w → t.tr.bulk ≤ 4000000 → 0 ≤ left → left ≤ 20000 → 0 ≤ dp → dp ≤ 201 → Calls Tryz.prog 59 #[.agg t.cells.toArray, .int .i64 dp, .int .i64 left] w fun e w' => e = .returned (.int .i64 (qai ql dp left t.tr)) ∧ Below w.heap.size w w'
theorem count_all : ∀ t : Dt, Counts t := Dt.indT fun d ts ih => by
 intro w dp left hrd hbk hl0 hl1 hd0 hd1
 have hok := (Dt.rd_iff.1 hrd)
 have hlen : ts.length ≤ 9223372036854775807 := Nat.le_trans hok.2.1 hok.2.2.1
 have M : Mg w w ([]) := Mg.start w
 refine qm (l := [(0, .agg (d.cells ts.length).toArray), (1, .int .i64 dp), (2, .int .i64 left)]) Tryz.func59 rfl Tryz.ntmps59 rfl rfl ?_
 intro Q hret hnorm hP a A
 refine wsk fun K1 hK1 => wrl (zn (vs := [.int .i64 d.k, .int .i64 d.n, .bool d.y.q.b1, .slice d.y.o1 d.y.q.t1.length d.y.c1, .slice d.y.o2 d.y.q.q1.length d.y.c2, .bool d.y.q.b2, .slice d.y.o3 d.y.q.t2.length d.y.c3, .slice d.y.o4 d.y.q.q2.length d.y.c4, .string d.s, .slice d.ro d.rl.length d.rc, .slice d.lo ts.length d.lc]) (t := 53) A M rfl rfl rfl pg (zh rfl rfl) (by decide) ?_)
 intro g2 w3 M a A
 refine sda A λa A↦?_
 refine qa (hK1 _ _ (wsk fun K4 hK4 => wsk fun K5 hK5 => wrl (sdm A λa A↦?_)))
 rcases tf (decide (200 < dp)) with hb6 | hb6
 ·
  have hb6' := of_decide_eq_true hb6
  refine sdc A jd hb6 λa A↦?_
  refine sdm A λa A↦?_
  iterate 2 refine qh A rfl rfl rfl λa A↦?_
  refine sdk (v := .bool true) A λa A↦?_
  refine sdm A λa A↦?_
  iterate 3 refine qh A rfl rfl rfl λa A↦?_
  refine sdk (v := .bool true) A λa A↦?_
  refine qa (hK5 _ _ (wp_cond_true (A.ev rfl) ?_))
  refine wsk fun K7 hK7 => wrl (sda A λa A↦?_)
  refine qa (hK7 _ _ (wp_ret (hret _ _ (en1 A rfl (qe rfl) ?_))))
  rw [cntT_no (by omega)]
  exact ⟨rfl, M.bel⟩
 ·
  have hb6' := of_decide_eq_false hb6
  refine sdc A jd hb6 λa A↦?_
  iterate 2 refine sdm A λa A↦?_
  rcases tf (decide (left ≤ 0)) with hb8 | hb8
  ·
   have hb8' := of_decide_eq_true hb8
   refine sdc A jx hb8 λa A↦?_
   refine sdk (v := .bool true) A λa A↦?_
   refine sdm A λa A↦?_
   iterate 3 refine qh A rfl rfl rfl λa A↦?_
   refine sdk (v := .bool true) A λa A↦?_
   refine qa (hK5 _ _ (wp_cond_true (A.ev rfl) ?_))
   refine wsk fun K9 hK9 => wrl (sda A λa A↦?_)
   refine qa (hK9 _ _ (wp_ret (hret _ _ (en1 A rfl (qe rfl) ?_))))
   rw [cntT_no (by omega)]
   exact ⟨rfl, M.bel⟩
  ·
   have hb8' := of_decide_eq_false hb8
   refine sdc A jx hb8 λa A↦?_
   refine sdk (v := .bool false) A λa A↦?_
   refine sdm A λa A↦?_
   refine sdo A (zi M TrW_isS_53 rfl 0 rfl (cs := [.int .i64 d.k, .int .i64 d.n, .bool d.y.q.b1, .slice d.y.o1 d.y.q.t1.length d.y.c1, .slice d.y.o2 d.y.q.q1.length d.y.c2, .bool d.y.q.b2, .slice d.y.o3 d.y.q.t2.length d.y.c3, .slice d.y.o4 d.y.q.q2.length d.y.c4, .string d.s, .slice d.ro d.rl.length d.rc, .slice d.lo ts.length d.lc]) rfl rfl) λa A↦?_
   rcases tf (je d.k d.n d.y.q d.s d.rl.length ts.length) with hb10 | hb10
   ·
    refine gcl A M (ef rfl rfl) (qma (hok.1.below M.bel) (Nat.le_trans bulk_text hbk) hlen hb10) fun w12 hb11 M a A => ?_
    refine sdo (v := .bool false) A (za rfl zj) λa A↦?_
    refine sdk (v := .bool false) A λa A↦?_
    refine qa (hK5 _ _ (wp_cond_false (A.ev rfl) ?_))
    refine wp_skip (hK4 _ _ (wsk fun K13 hK13 => wrl (sdm A λa A↦?_)))
    refine sdo (v := .int .i64 (left - 1)) A (qf rfl rfl (bin_sub (jn (by omega) (by omega)))) λa A↦?_
    refine sda A λa A↦?_
    refine qa (hK13 _ _ (wsk fun K14 hK14 => wsk fun K15 hK15 => wrl (sda A λa A↦?_)))
    refine qa (hK15 _ _ (wp_block (zq (fun m_ a w1 => ∃ (i : Nat) (m : Int), m_ = 1 + (ts.length - i) ∧ (i ≤ ts.length ∧ qcf ql dp (decide (d.k = 8)) 0 (left - 1) ((ts.map Dt.tr).drop 0) = qcf ql dp (decide (d.k = 8)) i m ((ts.map Dt.tr).drop i) ∧ -1 ≤ m ∧ m ≤ 20000) ∧ Sl a 52 [(0, .agg (d.cells ts.length).toArray), (1, .int .i64 dp), (2, .int .i64 m), (3, .pointer (some ⟨g2, 0, none⟩)), (6, .int .i64 0), (7, .int .i64 (((i : Nat) : Int))), (9, .int .i64 dp), (10, .bool false), (11, .bool false), (12, .int .i64 left), (13, .bool false), (14, .bool false), (15, .bool false), (16, .agg (d.cells ts.length).toArray), (17, .bool true), (18, .bool false), (19, .bool false), (20, .int .i64 left), (21, .int .i64 (left - 1))] ∧ Mg w w1 (.obj g2 (.cells (d.cells ts.length).toArray 53) :: [])) _ ⟨0, left - 1, rfl, ⟨Nat.zero_le _, rfl, by omega, by omega⟩, A.keep _ (by repeat' constructor), M⟩ ?_)))
    clear M A
    rintro m_ a w16 ⟨i, m, rfl, hinv18, A, M⟩ K17 hK17
    obtain ⟨hi0, hin9, hm0, hm1_⟩ := hinv18
    refine wsk fun K19 hK19 => wsk fun K20 hK20 => wrl (sdm A λa A↦?_)
    refine sdo (v := .pointer (some ⟨g2, 10, none⟩)) A (qb TrW_fld_53_5 rfl rfl) λa A↦?_
    refine sdo A (qk M TrW_is1_39 rfl 0 rfl rfl) λa A↦?_
    refine sdo A (qw Tryz.underlying39 rfl) λa A↦?_
    rcases tf (decide (((i : Nat) : Int) < ((ts.length : Nat) : Int))) with hb21 | hb21
    ·
     have hb21' := of_decide_eq_true hb21
     refine sdc A qx hb21 λa A↦?_
     iterate 2 refine sdm A λa A↦?_
     rcases tf (decide (0 ≤ m)) with hb22 | hb22
     ·
      have hb22' := of_decide_eq_true hb22
      refine sdc A jl hb22 λa A↦?_
      refine sdk (v := .bool true) A λa A↦?_
      refine qa (hK20 _ _ (wp_cond_true (A.ev rfl) ?_))
      refine wp_skip (hK19 _ _ (wsk fun K23 hK23 => wp_block (wsk fun K24 hK24 => wrl (sdm A λa A↦?_))))
      refine sdo (v := .int .i64 (dp + 1)) A (qf rfl rfl (zw (jn (by omega) (by omega)))) λa A↦?_
      refine sda A λa A↦?_
      refine qa (hK24 _ _ (wsk fun K25 hK25 => wsk fun K26 hK26 => wrl (sdo (v := .pointer (some ⟨g2, 0, none⟩)) A (qb TrW_fld_53_0 rfl rfl) λa A↦?_)))
      refine sdo A (qk M TrW_is1_3 rfl 0 rfl rfl) λa A↦?_
      rcases tf ((d.k == 8)) with hb27 | hb27
      ·
       have hb27' := eq_of_beq hb27
       refine sdc A qi hb27 λa A↦?_
       iterate 2 refine sdm A λa A↦?_
       rcases tf ((((i : Nat) : Int) == 1)) with hb28 | hb28
       ·
        have hb28' := eq_of_beq hb28
        refine sdc A qi hb28 λa A↦?_
        refine sdk (v := .bool true) A λa A↦?_
        refine qa (hK26 _ _ (wp_cond_true (A.ev rfl) ?_))
        refine wrl (sdm A λa A↦?_)
        refine sda A λa A↦?_
        refine qa (hK25 _ _ ?_)
        obtain ⟨t1, b1, o1, hi1, hm1, hr1, hl1, hH1⟩ := kid hrd (i := i) (by omega)
        have hD : (if decide (d.k = 8) = true ∧ i = 1 then dp else dp + 1) = dp := if_pos ⟨decide_eq_true hb27', by omega⟩
        refine wrl (sdo (v := .pointer (some ⟨g2, 10, none⟩)) A (qb TrW_fld_53_5 rfl rfl) λa A↦?_)
        refine sdo A (qk M TrW_is1_39 rfl 0 rfl rfl) λa A↦?_
        refine sdm A λa A↦?_
        refine sdo (v := .pointer (some ⟨b1, o1 + i * 11, none⟩)) A (qy (k := i) Tryz.underlying39 (by kernel_rfl) rfl rfl rfl hl1 (by omega)) λa A↦?_
        refine sdo A (jr M hH1 TrW_isS_53 rfl rfl) λa A↦?_
        iterate 2 refine sdm A λa A↦?_
        refine gcl A M (ef rfl rfl) (ih t1 hm1 (Dt.keep M.bel _ hr1) (by have := qch (d := d) hm1; omega) (by omega) (by omega) (by omega) (by omega)) fun w30 hb29 M a A => ?_
        refine sda A λa A↦?_
        refine qa (hK23 _ _ (wrl (sdm A λa A↦?_)))
        refine sdo (v := .int .i64 (((i + 1 : Nat) : Int))) A (qf rfl rfl (fun w => (zw (jn (by omega) (by omega)) w).trans (by rw [show (((i : Nat) : Int) + 1 : Int) = ((i + 1 : Nat) : Int) from by omega]))) λa A↦?_
        refine sda A λa A↦?_
        refine qa ?_
        have hc9 := cnt_le ql t1.tr (dp) m (by omega)
        refine hK17 _ _ _ (by omega) ⟨i + 1, qai ql (dp) m t1.tr, rfl, ⟨by omega, by rw [hin9, cntL_go hi1 (by omega) hD], by omega, by omega⟩, A.keep _ (by repeat' constructor), M⟩
       ·
        have hb28' := ne_of_beq_false hb28
        refine sdc A qi hb28 λa A↦?_
        refine sdk (v := .bool false) A λa A↦?_
        refine qa (hK26 _ _ (wp_cond_false (A.ev rfl) ?_))
        refine wp_skip (hK25 _ _ ?_)
        obtain ⟨t1, b1, o1, hi1, hm1, hr1, hl1, hH1⟩ := kid hrd (i := i) (by omega)
        have hD : (if decide (d.k = 8) = true ∧ i = 1 then dp else dp + 1) = dp + 1 := if_neg (fun e => by omega)
        refine wrl (sdo (v := .pointer (some ⟨g2, 10, none⟩)) A (qb TrW_fld_53_5 rfl rfl) λa A↦?_)
        refine sdo A (qk M TrW_is1_39 rfl 0 rfl rfl) λa A↦?_
        refine sdm A λa A↦?_
        refine sdo (v := .pointer (some ⟨b1, o1 + i * 11, none⟩)) A (qy (k := i) Tryz.underlying39 (by kernel_rfl) rfl rfl rfl hl1 (by omega)) λa A↦?_
        refine sdo A (jr M hH1 TrW_isS_53 rfl rfl) λa A↦?_
        iterate 2 refine sdm A λa A↦?_
        refine gcl A M (ef rfl rfl) (ih t1 hm1 (Dt.keep M.bel _ hr1) (by have := qch (d := d) hm1; omega) (by omega) (by omega) (by omega) (by omega)) fun w32 hb31 M a A => ?_
        refine sda A λa A↦?_
        refine qa (hK23 _ _ (wrl (sdm A λa A↦?_)))
        refine sdo (v := .int .i64 (((i + 1 : Nat) : Int))) A (qf rfl rfl (fun w => (zw (jn (by omega) (by omega)) w).trans (by rw [show (((i : Nat) : Int) + 1 : Int) = ((i + 1 : Nat) : Int) from by omega]))) λa A↦?_
        refine sda A λa A↦?_
        refine qa ?_
        have hc9 := cnt_le ql t1.tr (dp + 1) m (by omega)
        refine hK17 _ _ _ (by omega) ⟨i + 1, qai ql (dp + 1) m t1.tr, rfl, ⟨by omega, by rw [hin9, cntL_go hi1 (by omega) hD], by omega, by omega⟩, A.keep _ (by repeat' constructor), M⟩
      ·
       have hb27' := ne_of_beq_false hb27
       refine sdc A qi hb27 λa A↦?_
       refine sdm A λa A↦?_
       iterate 2 refine qh A rfl rfl rfl λa A↦?_
       refine sdk (v := .bool false) A λa A↦?_
       refine qa (hK26 _ _ (wp_cond_false (A.ev rfl) ?_))
       refine wp_skip (hK25 _ _ ?_)
       obtain ⟨t1, b1, o1, hi1, hm1, hr1, hl1, hH1⟩ := kid hrd (i := i) (by omega)
       have hD : (if decide (d.k = 8) = true ∧ i = 1 then dp else dp + 1) = dp + 1 := if_neg (fun e => hb27' (of_decide_eq_true e.1))
       refine wrl (sdo (v := .pointer (some ⟨g2, 10, none⟩)) A (qb TrW_fld_53_5 rfl rfl) λa A↦?_)
       refine sdo A (qk M TrW_is1_39 rfl 0 rfl rfl) λa A↦?_
       refine sdm A λa A↦?_
       refine sdo (v := .pointer (some ⟨b1, o1 + i * 11, none⟩)) A (qy (k := i) Tryz.underlying39 (by kernel_rfl) rfl rfl rfl hl1 (by omega)) λa A↦?_
       refine sdo A (jr M hH1 TrW_isS_53 rfl rfl) λa A↦?_
       iterate 2 refine sdm A λa A↦?_
       refine gcl A M (ef rfl rfl) (ih t1 hm1 (Dt.keep M.bel _ hr1) (by have := qch (d := d) hm1; omega) (by omega) (by omega) (by omega) (by omega)) fun w34 hb33 M a A => ?_
       refine sda A λa A↦?_
       refine qa (hK23 _ _ (wrl (sdm A λa A↦?_)))
       refine sdo (v := .int .i64 (((i + 1 : Nat) : Int))) A (qf rfl rfl (fun w => (zw (jn (by omega) (by omega)) w).trans (by rw [show (((i : Nat) : Int) + 1 : Int) = ((i + 1 : Nat) : Int) from by omega]))) λa A↦?_
       refine sda A λa A↦?_
       refine qa ?_
       have hc9 := cnt_le ql t1.tr (dp + 1) m (by omega)
       refine hK17 _ _ _ (by omega) ⟨i + 1, qai ql (dp + 1) m t1.tr, rfl, ⟨by omega, by rw [hin9, cntL_go hi1 (by omega) hD], by omega, by omega⟩, A.keep _ (by repeat' constructor), M⟩
     ·
      have hb22' := of_decide_eq_false hb22
      refine sdc A jl hb22 λa A↦?_
      refine sdk (v := .bool false) A λa A↦?_
      refine qa (hK20 _ _ (wp_cond_false (A.ev rfl) ?_))
      refine wp_exit (hK14 _ _ (wsk fun K35 hK35 => wrl (sdm A λa A↦?_)))
      refine sda A λa A↦?_
      refine qa (hK35 _ _ (wp_ret (hret _ _ (en1 A rfl (qe rfl) ?_))))
      rw [cntT_mk (by omega) (by omega) (by rw [kq]; exact hb10), hin9, qij (by omega)]
      exact ⟨rfl, M.bel⟩
    ·
     have hb21' := of_decide_eq_false hb21
     refine sdc A qx hb21 λa A↦?_
     refine sdm A λa A↦?_
     iterate 2 refine qh A rfl rfl rfl λa A↦?_
     refine sdk (v := .bool false) A λa A↦?_
     refine qa (hK20 _ _ (wp_cond_false (A.ev rfl) ?_))
     refine wp_exit (hK14 _ _ (wsk fun K36 hK36 => wrl (sdm A λa A↦?_)))
     refine sda A λa A↦?_
     refine qa (hK36 _ _ (wp_ret (hret _ _ (en1 A rfl (qe rfl) ?_))))
     rw [cntT_mk (by omega) (by omega) (by rw [kq]; exact hb10), hin9, qab (by omega), qcf]
     exact ⟨rfl, M.bel⟩
   ·
    refine gcl A M (ef rfl rfl) (qma (hok.1.below M.bel) (Nat.le_trans bulk_text hbk) hlen hb10) fun w38 hb37 M a A => ?_
    refine sdo (v := .bool true) A (za rfl zj) λa A↦?_
    refine sdk (v := .bool true) A λa A↦?_
    refine qa (hK5 _ _ (wp_cond_true (A.ev rfl) ?_))
    refine wsk fun K39 hK39 => wrl (sda A λa A↦?_)
    refine qa (hK39 _ _ (wp_ret (hret _ _ (en1 A rfl (qe rfl) ?_))))
    rw [cntT_no (.inr (.inr (by rw [kq]; exact hb10)))]
    exact ⟨rfl, M.bel⟩
theorem rsound_mk {w : World} {d : Nd} {ts : List Dt} (hrd : (Dt.mk d ts).rd w) (hbk : (Dt.mk d ts).tr.bulk ≤ 4000000) : Calls Tryz.prog 35 #[.agg (d.cells ts.length).toArray] w fun e w' => e = .returned (.bool (ze ql (Dt.mk d ts).tr)) ∧ Below w.heap.size w w' := by
 have M : Mg w w ([]) := Mg.start w
 refine qm (l := [(0, .agg (d.cells ts.length).toArray)]) Tryz.func35 rfl Tryz.ntmps35 rfl rfl ?_
 intro Q hret hnorm hP a A
 refine wsk fun K1 hK1 => wrl (zn (vs := [.int .i64 d.k, .int .i64 d.n, .bool d.y.q.b1, .slice d.y.o1 d.y.q.t1.length d.y.c1, .slice d.y.o2 d.y.q.q1.length d.y.c2, .bool d.y.q.b2, .slice d.y.o3 d.y.q.t2.length d.y.c3, .slice d.y.o4 d.y.q.q2.length d.y.c4, .string d.s, .slice d.ro d.rl.length d.rc, .slice d.lo ts.length d.lc]) (t := 53) A M rfl rfl rfl pg (zh rfl rfl) (by decide) ?_)
 intro g2 w3 M a A
 refine sda A λa A↦?_
 refine qa (hK1 _ _ (wsk fun K4 hK4 => wrl (sdo A (zi M TrW_isS_53 rfl 0 rfl (cs := [.int .i64 d.k, .int .i64 d.n, .bool d.y.q.b1, .slice d.y.o1 d.y.q.t1.length d.y.c1, .slice d.y.o2 d.y.q.q1.length d.y.c2, .bool d.y.q.b2, .slice d.y.o3 d.y.q.t2.length d.y.c3, .slice d.y.o4 d.y.q.q2.length d.y.c4, .string d.s, .slice d.ro d.rl.length d.rc, .slice d.lo ts.length d.lc]) rfl rfl) λa A↦?_)))
 refine gcl A M (ef rfl rfl) (count_all (Dt.mk d ts) (Dt.keep M.bel _ hrd) hbk (by omega) (by omega) (by omega) (by omega)) fun w5 hb9 M a A => ?_
 refine sdo (v := .bool (decide (0 ≤ qai ql 1 20000 (Dt.mk d ts).tr))) A (qf rfl rfl jl) λa A↦?_
 refine sda A λa A↦?_
 refine qa (hK4 _ _ (wp_ret (hret _ _ (en1 A rfl (qe rfl) ?_))))
 exact ⟨by rw [← count_sound], M.bel⟩
theorem rsound_any {w : World} {t : Dt} (hrd : t.rd w) (hbk : t.tr.bulk ≤ 4000000) : Calls Tryz.prog 35 #[.agg t.cells.toArray] w fun e w' => e = .returned (.bool (ze ql t.tr)) ∧ Below w.heap.size w w' := by
 obtain ⟨d, ts⟩ := t
 exact rsound_mk hrd hbk
theorem LiS_is1_3 : Is1 Tryz.prog 3 := ⟨⟨_, Tryz.underlying3, rfl⟩, by kernel_rfl⟩
theorem LiS_is1_39 : Is1 Tryz.prog 39 := ⟨⟨_, Tryz.underlying39, rfl⟩, by kernel_rfl⟩
theorem LiS_is1_5 : Is1 Tryz.prog 5 := ⟨⟨_, Tryz.underlying5, rfl⟩, by kernel_rfl⟩
theorem LiS_is1_51 : Is1 Tryz.prog 51 := ⟨⟨_, Tryz.underlying51, rfl⟩, by kernel_rfl⟩
theorem LiS_is1_9 : Is1 Tryz.prog 9 := ⟨⟨_, Tryz.underlying9, rfl⟩, by kernel_rfl⟩
theorem LiS_fld_53_0 : FieldAt Tryz.prog 53 0 0 := ⟨_, _, Tryz.underlying53, rfl, rfl, by kernel_rfl⟩
theorem LiS_fld_53_1 : FieldAt Tryz.prog 53 1 1 := ⟨_, _, Tryz.underlying53, rfl, rfl, by kernel_rfl⟩
theorem LiS_fld_53_2 : FieldAt Tryz.prog 53 2 2 := ⟨_, _, Tryz.underlying53, rfl, rfl, by kernel_rfl⟩
theorem LiS_fld_53_3 : FieldAt Tryz.prog 53 3 8 := ⟨_, _, Tryz.underlying53, rfl, rfl, by kernel_rfl⟩
theorem LiS_fld_53_4 : FieldAt Tryz.prog 53 4 9 := ⟨_, _, Tryz.underlying53, rfl, rfl, by kernel_rfl⟩
theorem LiS_fld_53_5 : FieldAt Tryz.prog 53 5 10 := ⟨_, _, Tryz.underlying53, rfl, rfl, by kernel_rfl⟩
theorem LiS_isS_50 : IsS Tryz.prog 50 6 := ⟨⟨_, Tryz.underlying50⟩, by kernel_rfl⟩
theorem LiS_isS_53 : IsS Tryz.prog 53 11 := ⟨⟨_, Tryz.underlying53⟩, by kernel_rfl⟩
theorem qmb {w : World} {t u : Dt} (ht : t.rd w) (hu : u.rd w) {b : Bool} (h : SQ2 t u = b) : Calls Tryz.prog 68 #[t.d.y.val, u.d.y.val] w fun e w' => e = .returned (.bool b) ∧ Below w.heap.size w w' := alikeQ_any (Dt.okT ht).1.num (Dt.okT ht).1.len (Dt.okT hu).1.num (Dt.okT hu).1.len h
def RSames (n : Nat) : Prop := ∀ {w : World} {t u : Dt}, t.tr.bulk < n → t.rd w → u.rd w → Calls Tryz.prog 42 #[.agg (t.d.cells t.ts.length).toArray, .agg (u.d.cells u.ts.length).toArray] w fun e w' => e = .returned (.bool (uk t.tr u.tr)) ∧ Below w.heap.size w w'
set_option maxHeartbeats 1000000 in
theorem rsames_step {n : Nat} (ih : RSames n) : RSames (n + 1) := by
 intro w t u hn ht hu
 have hlt := (Dt.okT ht).2
 have hrt : t.d.rl.length ≤ 9223372036854775807 := Nat.le_trans (Dt.okT ht).1.rcap (Dt.okT ht).1.rmax
 have M : Mg w w ([]) := Mg.start w
 refine qm (l := [(0, .agg (t.d.cells t.ts.length).toArray), (1, .agg (u.d.cells u.ts.length).toArray)]) Tryz.func42 rfl Tryz.ntmps42 rfl rfl ?_
 intro Q hret hnorm hP a A
 refine wsk fun K1 hK1 => wrl (zn (vs := (t.d.cells t.ts.length)) (t := 53) A M rfl rfl rfl pg (zh rfl rfl) (by decide) ?_)
 intro g2 w3 M a A
 refine zn (vs := (u.d.cells u.ts.length)) (t := 53) A M rfl rfl rfl pg (zh rfl rfl) (by decide) ?_
 intro g4 w5 M a A
 refine sda A λa A↦?_
 refine qa (hK1 _ _ (wsk fun K6 hK6 => wsk fun K7 hK7 => wrl (sdo (v := .pointer (some ⟨g2, 0, none⟩)) A (qb LiS_fld_53_0 rfl rfl) λa A↦?_)))
 refine sdo A (qk M LiS_is1_3 rfl 1 rfl rfl) λa A↦?_
 refine sdo (v := .pointer (some ⟨g4, 0, none⟩)) A (qb LiS_fld_53_0 rfl rfl) λa A↦?_
 refine sdo A (qk M LiS_is1_3 rfl 0 rfl rfl) λa A↦?_
 rcases tf ((t.d.k != u.d.k)) with hb8 | hb8
 ·
  have hb8' := bne_iff_ne.1 hb8
  refine sdc A zl hb8 λa A↦?_
  refine sdm A λa A↦?_
  iterate 5 refine qh A rfl rfl rfl λa A↦?_
  refine sdk (v := .bool true) A λa A↦?_
  refine sdm A λa A↦?_
  iterate 5 refine qh A rfl rfl rfl λa A↦?_
  refine sdk (v := .bool true) A λa A↦?_
  refine sdm A λa A↦?_
  iterate 7 refine qh A rfl rfl rfl λa A↦?_
  refine sdk (v := .bool true) A λa A↦?_
  refine sdm A λa A↦?_
  iterate 7 refine qh A rfl rfl rfl λa A↦?_
  refine sdk (v := .bool true) A λa A↦?_
  refine sdm A λa A↦?_
  iterate 6 refine qh A rfl rfl rfl λa A↦?_
  refine sdk (v := .bool true) A λa A↦?_
  refine qa (hK7 _ _ (wp_cond_true (A.ev rfl) ?_))
  refine wsk fun K9 hK9 => wrl (sda A λa A↦?_)
  refine qa (hK9 _ _ (wp_ret (hret _ _ (en1 A rfl (qe rfl) ?_))))
  exact ⟨by rw [uj (.inl hb8')], M.bel⟩
 ·
  have hb8' := bne_eq_false_iff_eq.1 hb8
  refine sdc A zl hb8 λa A↦?_
  refine sdm A λa A↦?_
  refine sdo (v := .pointer (some ⟨g2, 1, none⟩)) A (qb LiS_fld_53_1 rfl rfl) λa A↦?_
  refine sdo A (qk M LiS_is1_3 rfl 1 rfl rfl) λa A↦?_
  refine sdo (v := .pointer (some ⟨g4, 1, none⟩)) A (qb LiS_fld_53_1 rfl rfl) λa A↦?_
  refine sdo A (qk M LiS_is1_3 rfl 0 rfl rfl) λa A↦?_
  rcases tf ((t.d.n != u.d.n)) with hb10 | hb10
  ·
   have hb10' := bne_iff_ne.1 hb10
   refine sdc A zl hb10 λa A↦?_
   refine sdk (v := .bool true) A λa A↦?_
   refine sdm A λa A↦?_
   iterate 5 refine qh A rfl rfl rfl λa A↦?_
   refine sdk (v := .bool true) A λa A↦?_
   refine sdm A λa A↦?_
   iterate 7 refine qh A rfl rfl rfl λa A↦?_
   refine sdk (v := .bool true) A λa A↦?_
   refine sdm A λa A↦?_
   iterate 7 refine qh A rfl rfl rfl λa A↦?_
   refine sdk (v := .bool true) A λa A↦?_
   refine sdm A λa A↦?_
   iterate 6 refine qh A rfl rfl rfl λa A↦?_
   refine sdk (v := .bool true) A λa A↦?_
   refine qa (hK7 _ _ (wp_cond_true (A.ev rfl) ?_))
   refine wsk fun K11 hK11 => wrl (sda A λa A↦?_)
   refine qa (hK11 _ _ (wp_ret (hret _ _ (en1 A rfl (qe rfl) ?_))))
   exact ⟨by rw [uj (.inr (.inl hb10'))], M.bel⟩
  ·
   have hb10' := bne_eq_false_iff_eq.1 hb10
   refine sdc A zl hb10 λa A↦?_
   refine sdk (v := .bool false) A λa A↦?_
   refine sdm A λa A↦?_
   refine sdo (v := .pointer (some ⟨g2, 8, none⟩)) A (qb LiS_fld_53_3 rfl rfl) λa A↦?_
   refine sdo A (qk M LiS_is1_9 rfl 1 rfl rfl) λa A↦?_
   refine sdo (v := .pointer (some ⟨g4, 8, none⟩)) A (qb LiS_fld_53_3 rfl rfl) λa A↦?_
   refine sdo A (qk M LiS_is1_9 rfl 0 rfl rfl) λa A↦?_
   rcases tf (decide (t.d.s = u.d.s)) with hb12 | hb12
   ·
    have hb12' := of_decide_eq_true hb12
    refine sdo (v := .bool false) A (qf rfl rfl (fun w => (qcg Tryz.underlying9 w).trans (by rw [hb12] <;> rfl))) λa A↦?_
    refine sdk (v := .bool false) A λa A↦?_
    refine sdm A λa A↦?_
    refine sdo (v := .pointer (some ⟨g2, 9, none⟩)) A (qb LiS_fld_53_4 rfl rfl) λa A↦?_
    refine sdo A (qk M LiS_is1_51 rfl 1 rfl rfl) λa A↦?_
    refine sdo A (qw Tryz.underlying51 rfl) λa A↦?_
    refine sdo (v := .pointer (some ⟨g4, 9, none⟩)) A (qb LiS_fld_53_4 rfl rfl) λa A↦?_
    refine sdo A (qk M LiS_is1_51 rfl 0 rfl rfl) λa A↦?_
    refine sdo A (qw Tryz.underlying51 rfl) λa A↦?_
    rcases tf ((((t.d.rl.length : Nat) : Int) != ((u.d.rl.length : Nat) : Int))) with hb13 | hb13
    ·
     have hb13' := bne_iff_ne.1 hb13
     refine sdc A zl hb13 λa A↦?_
     refine sdk (v := .bool true) A λa A↦?_
     refine sdm A λa A↦?_
     iterate 7 refine qh A rfl rfl rfl λa A↦?_
     refine sdk (v := .bool true) A λa A↦?_
     refine sdm A λa A↦?_
     iterate 6 refine qh A rfl rfl rfl λa A↦?_
     refine sdk (v := .bool true) A λa A↦?_
     refine qa (hK7 _ _ (wp_cond_true (A.ev rfl) ?_))
     refine wsk fun K14 hK14 => wrl (sda A λa A↦?_)
     refine qa (hK14 _ _ (wp_ret (hret _ _ (en1 A rfl (qe rfl) ?_))))
     exact ⟨by rw [uj (.inr (.inr (.inr (.inl (fun e => hb13' (by rw [e]))))))], M.bel⟩
    ·
     have hb13' := bne_eq_false_iff_eq.1 hb13
     refine sdc A zl hb13 λa A↦?_
     refine sdk (v := .bool false) A λa A↦?_
     refine sdm A λa A↦?_
     refine sdo (v := .pointer (some ⟨g2, 10, none⟩)) A (qb LiS_fld_53_5 rfl rfl) λa A↦?_
     refine sdo A (qk M LiS_is1_39 rfl 1 rfl rfl) λa A↦?_
     refine sdo A (qw Tryz.underlying39 rfl) λa A↦?_
     refine sdo (v := .pointer (some ⟨g4, 10, none⟩)) A (qb LiS_fld_53_5 rfl rfl) λa A↦?_
     refine sdo A (qk M LiS_is1_39 rfl 0 rfl rfl) λa A↦?_
     refine sdo A (qw Tryz.underlying39 rfl) λa A↦?_
     rcases tf ((((t.ts.length : Nat) : Int) != ((u.ts.length : Nat) : Int))) with hb15 | hb15
     ·
      have hb15' := bne_iff_ne.1 hb15
      refine sdc A zl hb15 λa A↦?_
      refine sdk (v := .bool true) A λa A↦?_
      refine sdm A λa A↦?_
      iterate 6 refine qh A rfl rfl rfl λa A↦?_
      refine sdk (v := .bool true) A λa A↦?_
      refine qa (hK7 _ _ (wp_cond_true (A.ev rfl) ?_))
      refine wsk fun K16 hK16 => wrl (sda A λa A↦?_)
      refine qa (hK16 _ _ (wp_ret (hret _ _ (en1 A rfl (qe rfl) ?_))))
      exact ⟨by rw [uj (.inr (.inr (.inr (.inr (.inl (fun e => hb15' (by rw [e])))))))], M.bel⟩
     ·
      have hb15' := bne_eq_false_iff_eq.1 hb15
      refine sdc A zl hb15 λa A↦?_
      refine sdk (v := .bool false) A λa A↦?_
      refine sdm A λa A↦?_
      refine sdo (v := .pointer (some ⟨g2, 2, none⟩)) A (qb LiS_fld_53_2 rfl rfl) λa A↦?_
      refine sdo A (zi M LiS_isS_50 rfl 1 rfl (cs := [.bool t.d.y.q.b1, .slice t.d.y.o1 t.d.y.q.t1.length t.d.y.c1, .slice t.d.y.o2 t.d.y.q.q1.length t.d.y.c2, .bool t.d.y.q.b2, .slice t.d.y.o3 t.d.y.q.t2.length t.d.y.c3, .slice t.d.y.o4 t.d.y.q.q2.length t.d.y.c4]) rfl rfl) λa A↦?_
      refine sdo (v := .pointer (some ⟨g4, 2, none⟩)) A (qb LiS_fld_53_2 rfl rfl) λa A↦?_
      refine sdo A (zi M LiS_isS_50 rfl 0 rfl (cs := [.bool u.d.y.q.b1, .slice u.d.y.o1 u.d.y.q.t1.length u.d.y.c1, .slice u.d.y.o2 u.d.y.q.q1.length u.d.y.c2, .bool u.d.y.q.b2, .slice u.d.y.o3 u.d.y.q.t2.length u.d.y.c3, .slice u.d.y.o4 u.d.y.q.q2.length u.d.y.c4]) rfl rfl) λa A↦?_
      rcases tf (SQ2 t u) with hb17 | hb17
      ·
       refine gcl A M (ef rfl rfl) (qmb (Dt.keep M.bel _ ht) (Dt.keep M.bel _ hu) hb17) fun w19 hb18 M a A => ?_
       refine sdo (v := .bool false) A (za rfl zj) λa A↦?_
       refine sdk (v := .bool false) A λa A↦?_
       refine qa (hK7 _ _ (wp_cond_false (A.ev rfl) ?_))
       refine wp_skip (hK6 _ _ (wsk fun K20 hK20 => wsk fun K21 hK21 => wrl (sda A λa A↦?_)))
       refine qa (hK21 _ _ (wp_block (zq (fun m_ a w1 => ∃ (i : Nat), m_ = 1 + (t.d.rl.length - i) ∧ (i ≤ t.d.rl.length ∧ ∀ j, j < i → t.d.rl.getD j 0 = u.d.rl.getD j 0) ∧ Sl a 89 [(0, .agg (t.d.cells t.ts.length).toArray), (1, .agg (u.d.cells u.ts.length).toArray), (2, .pointer (some ⟨g2, 0, none⟩)), (3, .pointer (some ⟨g4, 0, none⟩)), (5, .int .i64 (((i : Nat) : Int))), (7, .pointer (some ⟨g2, 0, none⟩)), (8, .int .i64 t.d.k), (9, .pointer (some ⟨g4, 0, none⟩)), (10, .int .i64 u.d.k), (11, .bool false), (12, .bool false), (13, .pointer (some ⟨g2, 1, none⟩)), (14, .int .i64 t.d.n), (15, .pointer (some ⟨g4, 1, none⟩)), (16, .int .i64 u.d.n), (17, .bool false), (18, .bool false), (19, .bool false), (20, .pointer (some ⟨g2, 8, none⟩)), (21, .string t.d.s), (22, .pointer (some ⟨g4, 8, none⟩)), (23, .string u.d.s), (24, .bool false), (25, .bool false), (26, .bool false), (27, .pointer (some ⟨g2, 9, none⟩)), (28, .slice t.d.ro t.d.rl.length t.d.rc), (29, .int .i64 (((t.d.rl.length : Nat) : Int))), (30, .pointer (some ⟨g4, 9, none⟩)), (31, .slice u.d.ro u.d.rl.length u.d.rc), (32, .int .i64 (((u.d.rl.length : Nat) : Int))), (33, .bool false), (34, .bool false), (35, .bool false), (36, .pointer (some ⟨g2, 10, none⟩)), (37, .slice t.d.lo t.ts.length t.d.lc), (38, .int .i64 (((t.ts.length : Nat) : Int))), (39, .pointer (some ⟨g4, 10, none⟩)), (40, .slice u.d.lo u.ts.length u.d.lc), (41, .int .i64 (((u.ts.length : Nat) : Int))), (42, .bool false), (43, .bool false), (44, .bool false), (45, .pointer (some ⟨g2, 2, none⟩)), (46, .agg #[.bool t.d.y.q.b1, .slice t.d.y.o1 t.d.y.q.t1.length t.d.y.c1, .slice t.d.y.o2 t.d.y.q.q1.length t.d.y.c2, .bool t.d.y.q.b2, .slice t.d.y.o3 t.d.y.q.t2.length t.d.y.c3, .slice t.d.y.o4 t.d.y.q.q2.length t.d.y.c4]), (47, .pointer (some ⟨g4, 2, none⟩)), (48, .agg #[.bool u.d.y.q.b1, .slice u.d.y.o1 u.d.y.q.t1.length u.d.y.c1, .slice u.d.y.o2 u.d.y.q.q1.length u.d.y.c2, .bool u.d.y.q.b2, .slice u.d.y.o3 u.d.y.q.t2.length u.d.y.c3, .slice u.d.y.o4 u.d.y.q.q2.length u.d.y.c4]), (49, .bool true), (50, .bool false), (51, .bool false)] ∧ Mg w w1 (.obj g4 (.cells (u.d.cells u.ts.length).toArray 53) :: .obj g2 (.cells (t.d.cells t.ts.length).toArray 53) :: [])) _ ⟨0, rfl, ⟨Nat.zero_le _, fun j hj => absurd hj (Nat.not_lt_zero _)⟩, A.keep _ (by repeat' constructor), M⟩ ?_)))
       clear M A
       rintro m_ a w22 ⟨i, rfl, hinv24, A, M⟩ K23 hK23
       obtain ⟨hi0, hin8⟩ := hinv24
       refine wsk fun K25 hK25 => wsk fun K26 hK26 => wrl (sdm A λa A↦?_)
       refine sdo (v := .pointer (some ⟨g2, 9, none⟩)) A (qb LiS_fld_53_4 rfl rfl) λa A↦?_
       refine sdo A (qk M LiS_is1_51 rfl 1 rfl rfl) λa A↦?_
       refine sdo A (qw Tryz.underlying51 rfl) λa A↦?_
       rcases tf (decide (((i : Nat) : Int) < ((t.d.rl.length : Nat) : Int))) with hb27 | hb27
       ·
        have hb27' := of_decide_eq_true hb27
        refine sdc A qx hb27 λa A↦?_
        refine qa (hK26 _ _ (wp_cond_true (A.ev rfl) ?_))
        refine wp_skip (hK25 _ _ (wsk fun K28 hK28 => wp_block (wsk fun K29 hK29 => xj (S := fun w1 => Mg w w1 (.obj g4 (.cells (u.d.cells u.ts.length).toArray 53) :: .obj g2 (.cells (t.d.cells t.ts.length).toArray 53) :: [])) (by kernel_rfl) ?_)))
        replace M := M.drew
        refine qg (v := .pointer (some ⟨g2, 9, none⟩)) A 0 rfl rfl rfl rfl hP (M.sub (cc (cc (List.nil_sublist _)))) (fun w1 M => qb LiS_fld_53_4 rfl rfl) λa A↦?_
        refine qg A 1 rfl rfl rfl rfl hP (M.sub (cc (cc (List.nil_sublist _)))) (fun w1 M => qk M LiS_is1_51 rfl 1 rfl rfl) λa A↦?_
        refine qg A 2 rfl rfl rfl rfl hP (M.sub (cc (cc (List.nil_sublist _)))) (fun w1 M => qz rfl) λa A↦?_
        obtain ⟨bt, ot, ht1, ht2, ht3⟩ := qie (i := i) (Dt.okT ht).1.raw (by omega)
        refine qg (v := .pointer (some ⟨bt, ot + i, none⟩)) A 3 rfl rfl rfl rfl hP (M.sub (cc (cc (List.nil_sublist _)))) (fun w1 M => jj (k := i) Tryz.underlying51 (by kernel_rfl) rfl rfl rfl ht1 (by omega)) λa A↦?_
        refine qg A 4 rfl rfl rfl rfl hP (M.sub (cc (cc (List.nil_sublist _)))) (fun w1 M => qhh M ht2 (ht3 i (by omega)) LiS_is1_5 rfl) λa A↦?_
        refine qg (v := .pointer (some ⟨g4, 9, none⟩)) A 5 rfl rfl rfl rfl hP (M.sub (cc (cc (List.nil_sublist _)))) (fun w1 M => qb LiS_fld_53_4 rfl rfl) λa A↦?_
        refine qg A 6 rfl rfl rfl rfl hP (M.sub (cc (cc (List.nil_sublist _)))) (fun w1 M => qk M LiS_is1_51 rfl 0 rfl rfl) λa A↦?_
        refine qg A 7 rfl rfl rfl rfl hP (M.sub (cc (cc (List.nil_sublist _)))) (fun w1 M => qz rfl) λa A↦?_
        obtain ⟨bu, ou, hu1, hu2, hu3⟩ := qie (i := i) (Dt.okT hu).1.raw (by omega)
        refine qg (v := .pointer (some ⟨bu, ou + i, none⟩)) A 8 rfl rfl rfl rfl hP (M.sub (cc (cc (List.nil_sublist _)))) (fun w1 M => jj (k := i) Tryz.underlying51 (by kernel_rfl) rfl rfl rfl hu1 (by omega)) λa A↦?_
        refine qg A 9 rfl rfl rfl rfl hP (M.sub (cc (cc (List.nil_sublist _)))) (fun w1 M => qhh M hu2 (hu3 i (by omega)) LiS_is1_5 rfl) λa A↦?_
        rcases tf (((((t.d.rl.getD i 0).toNat : Nat) : Int) != (((u.d.rl.getD i 0).toNat : Nat) : Int))) with hb30 | hb30
        ·
         have hb30' := bne_iff_ne.1 hb30
         refine qg (v := .bool true) A 10 rfl rfl rfl rfl hP (M.sub (cc (cc (List.nil_sublist _)))) (fun w1 M => qf rfl rfl (fun w => (zl w).trans (by rw [hb30]))) λa A↦?_
         refine ju (by kernel_rfl) ?_
         refine hK29 _ _ (wp_cond_true (A.ev rfl) ?_)
         refine wsk fun K31 hK31 => wrl (sda A λa A↦?_)
         refine qa (hK31 _ _ (wp_ret (hret _ _ (en1 A rfl (qe rfl) ?_))))
         exact ⟨by rw [uj (.inr (.inr (.inr (.inl (ne_at hb30')))))], M.bel⟩
        ·
         have hb30' := bne_eq_false_iff_eq.1 hb30
         refine qg (v := .bool false) A 10 rfl rfl rfl rfl hP (M.sub (cc (cc (List.nil_sublist _)))) (fun w1 M => qf rfl rfl (fun w => (zl w).trans (by rw [hb30]))) λa A↦?_
         refine ju (by kernel_rfl) ?_
         refine hK29 _ _ (wp_cond_false (A.ev rfl) ?_)
         refine wp_skip (hK28 _ _ (wrl (sdm A λa A↦?_)))
         refine sdo (v := .int .i64 (((i + 1 : Nat) : Int))) A (qf rfl rfl (fun w => (zw (jn (by omega) (by omega)) w).trans (by rw [show (((i : Nat) : Int) + 1 : Int) = ((i + 1 : Nat) : Int) from by omega]))) λa A↦?_
         refine sda A λa A↦?_
         refine qa ?_
         refine hK23 _ _ _ (by omega) ⟨i + 1, rfl, ⟨by omega, fun j hj => if h9 : j < i then hin8 j h9 else by have h8 : j = i := (by omega); subst h8; exact eq_at hb30'⟩, A.keep _ (by repeat' constructor), M⟩
       ·
        have hb27' := of_decide_eq_false hb27
        refine sdc A qx hb27 λa A↦?_
        refine qa (hK26 _ _ (wp_cond_false (A.ev rfl) ?_))
        refine wp_exit (hK20 _ _ (wsk fun K32 hK32 => wsk fun K33 hK33 => wrl (sda A λa A↦?_)))
        refine qa (hK33 _ _ (wp_block ?_))
        have hrl : t.d.rl = u.d.rl := bytes_ext (by omega) (fun j hj => hin8 j (by omega))
        have hsy := same_yes hb8' hb10' hb12' hrl (by omega) hb17
        refine zq (fun m_ a w1 => ∃ (j : Nat), m_ = 1 + (t.ts.length - j) ∧ (j ≤ t.ts.length ∧ kl (t.ts.map Dt.tr) (u.ts.map Dt.tr) = kl ((t.ts.map Dt.tr).drop j) ((u.ts.map Dt.tr).drop j)) ∧ Sl a 89 [(0, .agg (t.d.cells t.ts.length).toArray), (1, .agg (u.d.cells u.ts.length).toArray), (2, .pointer (some ⟨g2, 0, none⟩)), (3, .pointer (some ⟨g4, 0, none⟩)), (5, .int .i64 (((i : Nat) : Int))), (6, .int .i64 (((j : Nat) : Int))), (7, .pointer (some ⟨g2, 0, none⟩)), (8, .int .i64 t.d.k), (9, .pointer (some ⟨g4, 0, none⟩)), (10, .int .i64 u.d.k), (11, .bool false), (12, .bool false), (13, .pointer (some ⟨g2, 1, none⟩)), (14, .int .i64 t.d.n), (15, .pointer (some ⟨g4, 1, none⟩)), (16, .int .i64 u.d.n), (17, .bool false), (18, .bool false), (19, .bool false), (20, .pointer (some ⟨g2, 8, none⟩)), (21, .string t.d.s), (22, .pointer (some ⟨g4, 8, none⟩)), (23, .string u.d.s), (24, .bool false), (25, .bool false), (26, .bool false), (27, .pointer (some ⟨g2, 9, none⟩)), (28, .slice t.d.ro t.d.rl.length t.d.rc), (29, .int .i64 (((t.d.rl.length : Nat) : Int))), (30, .pointer (some ⟨g4, 9, none⟩)), (31, .slice u.d.ro u.d.rl.length u.d.rc), (32, .int .i64 (((u.d.rl.length : Nat) : Int))), (33, .bool false), (34, .bool false), (35, .bool false), (36, .pointer (some ⟨g2, 10, none⟩)), (37, .slice t.d.lo t.ts.length t.d.lc), (38, .int .i64 (((t.ts.length : Nat) : Int))), (39, .pointer (some ⟨g4, 10, none⟩)), (40, .slice u.d.lo u.ts.length u.d.lc), (41, .int .i64 (((u.ts.length : Nat) : Int))), (42, .bool false), (43, .bool false), (44, .bool false), (45, .pointer (some ⟨g2, 2, none⟩)), (46, .agg #[.bool t.d.y.q.b1, .slice t.d.y.o1 t.d.y.q.t1.length t.d.y.c1, .slice t.d.y.o2 t.d.y.q.q1.length t.d.y.c2, .bool t.d.y.q.b2, .slice t.d.y.o3 t.d.y.q.t2.length t.d.y.c3, .slice t.d.y.o4 t.d.y.q.q2.length t.d.y.c4]), (47, .pointer (some ⟨g4, 2, none⟩)), (48, .agg #[.bool u.d.y.q.b1, .slice u.d.y.o1 u.d.y.q.t1.length u.d.y.c1, .slice u.d.y.o2 u.d.y.q.q1.length u.d.y.c2, .bool u.d.y.q.b2, .slice u.d.y.o3 u.d.y.q.t2.length u.d.y.c3, .slice u.d.y.o4 u.d.y.q.q2.length u.d.y.c4]), (49, .bool true), (50, .bool false), (51, .bool false), (52, .int .i64 (((i : Nat) : Int))), (53, .pointer (some ⟨g2, 9, none⟩)), (54, .slice t.d.ro t.d.rl.length t.d.rc), (55, .int .i64 (((t.d.rl.length : Nat) : Int))), (56, .bool false)] ∧ Mg w w1 (.obj g4 (.cells (u.d.cells u.ts.length).toArray 53) :: .obj g2 (.cells (t.d.cells t.ts.length).toArray 53) :: [])) _ ⟨0, rfl, ⟨Nat.zero_le _, rfl⟩, A.keep _ (by repeat' constructor), M⟩ ?_
        clear M A
        rintro m_ a w34 ⟨j, rfl, hinv36, A, M⟩ K35 hK35
        obtain ⟨hi1, hin9⟩ := hinv36
        refine wsk fun K37 hK37 => wsk fun K38 hK38 => wrl (sdm A λa A↦?_)
        refine sdo (v := .pointer (some ⟨g2, 10, none⟩)) A (qb LiS_fld_53_5 rfl rfl) λa A↦?_
        refine sdo A (qk M LiS_is1_39 rfl 1 rfl rfl) λa A↦?_
        refine sdo A (qw Tryz.underlying39 rfl) λa A↦?_
        rcases tf (decide (((j : Nat) : Int) < ((t.ts.length : Nat) : Int))) with hb39 | hb39
        ·
         have hb39' := of_decide_eq_true hb39
         refine sdc A qx hb39 λa A↦?_
         refine qa (hK38 _ _ (wp_cond_true (A.ev rfl) ?_))
         refine wp_skip (hK37 _ _ (wsk fun K40 hK40 => wp_block (wsk fun K41 hK41 => ?_)))
         obtain ⟨t1, bt1, ot1, it1, mt1, rt1_, lt1, Ht1⟩ := kidT ht (i := j) (by omega)
         obtain ⟨u1, bu1, ou1, iu1, mu1, ru1_, lu1, Hu1⟩ := kidT hu (i := j) (by omega)
         refine xj (S := fun w1 => Mg w w1 (.obj g4 (.cells (u.d.cells u.ts.length).toArray 53) :: .obj g2 (.cells (t.d.cells t.ts.length).toArray 53) :: [])) (by kernel_rfl) ?_
         replace M := M.drew
         refine qg (v := .pointer (some ⟨g2, 10, none⟩)) A 0 rfl rfl rfl rfl hP (M.sub (cc (cc (List.nil_sublist _)))) (fun w1 M => qb LiS_fld_53_5 rfl rfl) λa A↦?_
         refine qg A 1 rfl rfl rfl rfl hP (M.sub (cc (cc (List.nil_sublist _)))) (fun w1 M => qk M LiS_is1_39 rfl 1 rfl rfl) λa A↦?_
         refine qg A 2 rfl rfl rfl rfl hP (M.sub (cc (cc (List.nil_sublist _)))) (fun w1 M => qz rfl) λa A↦?_
         refine qg (v := .pointer (some ⟨bt1, ot1 + j * 11, none⟩)) A 3 rfl rfl rfl rfl hP (M.sub (cc (cc (List.nil_sublist _)))) (fun w1 M => qy (k := j) Tryz.underlying39 (by kernel_rfl) rfl rfl rfl lt1 (by omega)) λa A↦?_
         refine qg A 4 rfl rfl rfl rfl hP (M.sub (cc (cc (List.nil_sublist _)))) (fun w1 M => jr M Ht1 LiS_isS_53 rfl rfl) λa A↦?_
         refine qg (v := .pointer (some ⟨g4, 10, none⟩)) A 5 rfl rfl rfl rfl hP (M.sub (cc (cc (List.nil_sublist _)))) (fun w1 M => qb LiS_fld_53_5 rfl rfl) λa A↦?_
         refine qg A 6 rfl rfl rfl rfl hP (M.sub (cc (cc (List.nil_sublist _)))) (fun w1 M => qk M LiS_is1_39 rfl 0 rfl rfl) λa A↦?_
         refine qg A 7 rfl rfl rfl rfl hP (M.sub (cc (cc (List.nil_sublist _)))) (fun w1 M => qz rfl) λa A↦?_
         refine qg (v := .pointer (some ⟨bu1, ou1 + j * 11, none⟩)) A 8 rfl rfl rfl rfl hP (M.sub (cc (cc (List.nil_sublist _)))) (fun w1 M => qy (k := j) Tryz.underlying39 (by kernel_rfl) rfl rfl rfl lu1 (by omega)) λa A↦?_
         refine qg A 9 rfl rfl rfl rfl hP (M.sub (cc (cc (List.nil_sublist _)))) (fun w1 M => jr M Hu1 LiS_isS_53 rfl rfl) λa A↦?_
         rcases tf (uk t1.tr u1.tr) with hb42 | hb42
         ·
          refine zx (by kernel_rfl) (jc A 10 rfl rfl rfl rfl (zk rfl rfl (fun w => by kernel_rfl)) ((hb42 ▸ ih (by have := bulkT mt1; omega) (Dt.keep M.bel _ rt1_) (Dt.keep M.bel _ ru1_))) ?_)
          rintro _ w44 ⟨rfl, hb43⟩
          replace M := M.call hb43
          refine ⟨_, rfl, (M.sub (cc (cc (List.nil_sublist _)))), ?_⟩
          intro a A
          refine qg (v := .bool false) A 11 rfl rfl rfl rfl hP (M.sub (cc (cc (List.nil_sublist _)))) (fun w1 M => za rfl zj) λa A↦?_
          refine ju (by kernel_rfl) ?_
          refine hK41 _ _ (wp_cond_false (A.ev rfl) ?_)
          refine wp_skip (hK40 _ _ (wrl (sdm A λa A↦?_)))
          refine sdo (v := .int .i64 (((j + 1 : Nat) : Int))) A (qf rfl rfl (fun w => (zw (jn (by omega) (by omega)) w).trans (by rw [show (((j : Nat) : Int) + 1 : Int) = ((j + 1 : Nat) : Int) from by omega]))) λa A↦?_
          refine sda A λa A↦?_
          refine qa ?_
          refine hK35 _ _ _ (by omega) ⟨j + 1, rfl, ⟨by omega, by rw [hin9, sameL_go it1 iu1, hb42, Bool.true_and]⟩, A.keep _ (by repeat' constructor), M⟩
         ·
          refine zx (by kernel_rfl) (jc A 10 rfl rfl rfl rfl (zk rfl rfl (fun w => by kernel_rfl)) ((hb42 ▸ ih (by have := bulkT mt1; omega) (Dt.keep M.bel _ rt1_) (Dt.keep M.bel _ ru1_))) ?_)
          rintro _ w46 ⟨rfl, hb45⟩
          replace M := M.call hb45
          refine ⟨_, rfl, (M.sub (cc (cc (List.nil_sublist _)))), ?_⟩
          intro a A
          refine qg (v := .bool true) A 11 rfl rfl rfl rfl hP (M.sub (cc (cc (List.nil_sublist _)))) (fun w1 M => za rfl zj) λa A↦?_
          refine ju (by kernel_rfl) ?_
          refine hK41 _ _ (wp_cond_true (A.ev rfl) ?_)
          refine wsk fun K47 hK47 => wrl (sda A λa A↦?_)
          refine qa (hK47 _ _ (wp_ret (hret _ _ (en1 A rfl (qe rfl) ?_))))
          exact ⟨by rw [hsy, hin9, sameL_go it1 iu1, hb42]; rfl, M.bel⟩
        ·
         have hb39' := of_decide_eq_false hb39
         refine sdc A qx hb39 λa A↦?_
         refine qa (hK38 _ _ (wp_cond_false (A.ev rfl) ?_))
         refine wp_exit (hK32 _ _ (wsk fun K48 hK48 => wrl (sda A λa A↦?_)))
         refine qa (hK48 _ _ (wp_ret (hret _ _ (en1 A rfl (qe rfl) ?_))))
         exact ⟨by rw [hsy, hin9, sameL_end (by omega)], M.bel⟩
      ·
       refine gcl A M (ef rfl rfl) (qmb (Dt.keep M.bel _ ht) (Dt.keep M.bel _ hu) hb17) fun w50 hb49 M a A => ?_
       refine sdo (v := .bool true) A (za rfl zj) λa A↦?_
       refine sdk (v := .bool true) A λa A↦?_
       refine qa (hK7 _ _ (wp_cond_true (A.ev rfl) ?_))
       refine wsk fun K51 hK51 => wrl (sda A λa A↦?_)
       refine qa (hK51 _ _ (wp_ret (hret _ _ (en1 A rfl (qe rfl) ?_))))
       exact ⟨by rw [uj (.inr (.inr (.inr (.inr (.inr hb17)))))], M.bel⟩
   ·
    have hb12' := of_decide_eq_false hb12
    refine sdo (v := .bool true) A (qf rfl rfl (fun w => (qcg Tryz.underlying9 w).trans (by rw [hb12] <;> rfl))) λa A↦?_
    refine sdk (v := .bool true) A λa A↦?_
    refine sdm A λa A↦?_
    iterate 7 refine qh A rfl rfl rfl λa A↦?_
    refine sdk (v := .bool true) A λa A↦?_
    refine sdm A λa A↦?_
    iterate 7 refine qh A rfl rfl rfl λa A↦?_
    refine sdk (v := .bool true) A λa A↦?_
    refine sdm A λa A↦?_
    iterate 6 refine qh A rfl rfl rfl λa A↦?_
    refine sdk (v := .bool true) A λa A↦?_
    refine qa (hK7 _ _ (wp_cond_true (A.ev rfl) ?_))
    refine wsk fun K52 hK52 => wrl (sda A λa A↦?_)
    refine qa (hK52 _ _ (wp_ret (hret _ _ (en1 A rfl (qe rfl) ?_))))
    exact ⟨by rw [uj (.inr (.inr (.inl hb12')))], M.bel⟩
theorem qmc : ∀ n, RSames n
 | 0 => fun h => absurd h (Nat.not_lt_zero _)
 | n + 1 => rsames_step (qmc n)
theorem KcJ_isS_53 : IsS Tryz.prog 53 11 := ⟨⟨_, Tryz.underlying53⟩, by kernel_rfl⟩
theorem sameAll_any {w : World} {sa sb : Option Addr} {ca cb : Nat} {us vs : List Dt} (hRa : Rt w sa us) (hDa : ∀ t ∈ us, t.rd w) (hRb : Rt w sb vs) (hDb : ∀ t ∈ vs, t.rd w) (he : us.map Dt.tr = vs.map Dt.tr) (hl : us.length ≤ 1000000000) : Calls Tryz.prog 26 #[.slice sa us.length ca, .slice sb vs.length cb] w fun e w' => e = .returned (.bool true) ∧ Below w.heap.size w w' := by
 have hel : us.length = vs.length := by have := congrArg List.length he; simpa using this
 have M : Mg w w ([]) := Mg.start w
 refine qm (l := [(0, .slice sa us.length ca), (1, .slice sb vs.length cb)]) Tryz.func26 rfl Tryz.ntmps26 rfl rfl ?_
 intro Q hret hnorm hP a A
 refine wsk fun K1 hK1 => wrl (sda A λa A↦?_)
 refine qa (hK1 _ _ (wsk fun K2 hK2 => wsk fun K3 hK3 => wrl (sdm A λa A↦?_)))
 refine sdo A (qw Tryz.underlying39 rfl) λa A↦?_
 refine sdm A λa A↦?_
 refine sdo A (qw Tryz.underlying39 rfl) λa A↦?_
 refine sdo (v := .bool false) A (qf rfl rfl (fun w => (zl w).trans (by rw [show ((((us.length : Nat) : Int) != ((vs.length : Nat) : Int))) = false from (bne_eq_false_iff_eq.2 (by omega))]))) λa A↦?_
 refine qa (hK3 _ _ (wp_cond_false (A.ev rfl) ?_))
 refine wp_skip (hK2 _ _ (wsk fun K4 hK4 => wsk fun K5 hK5 => wrl (sda A λa A↦?_)))
 refine qa (hK5 _ _ (wp_block (zq (fun m_ a w1 => ∃ (i : Nat), m_ = 1 + (us.length - i) ∧ (i ≤ us.length) ∧ Sl a 27 [(0, .slice sa us.length ca), (1, .slice sb vs.length cb), (5, .int .i64 (((i : Nat) : Int))), (6, .slice sa us.length ca), (7, .int .i64 (((us.length : Nat) : Int))), (8, .slice sb vs.length cb), (9, .int .i64 (((vs.length : Nat) : Int))), (10, .bool false)] ∧ Mg w w1 ([])) _ ⟨0, rfl, Nat.zero_le _, A.keep _ (by repeat' constructor), M⟩ ?_)))
 clear M A
 rintro m_ a w6 ⟨i, rfl, hinv8, A, M⟩ K7 hK7
 have hi0 := hinv8
 refine wsk fun K9 hK9 => wsk fun K10 hK10 => wrl ?_
 iterate 2 refine sdm A λa A↦?_
 refine sdo A (qw Tryz.underlying39 rfl) λa A↦?_
 rcases tf (decide (((i : Nat) : Int) < ((us.length : Nat) : Int))) with hb11 | hb11
 ·
  have hb11' := of_decide_eq_true hb11
  refine sdc A qx hb11 λa A↦?_
  refine qa (hK10 _ _ (wp_cond_true (A.ev rfl) ?_))
  refine wp_skip (hK9 _ _ (wsk fun K12 hK12 => wp_block (wsk fun K13 hK13 => ?_)))
  obtain ⟨t1, bt1, ot1, it1, mt1, rt1_, lt1, Ht1⟩ := kidL hRa hDa (i := i) (by omega)
  obtain ⟨u1, bu1, ou1, iu1, mu1, ru1_, lu1, Hu1⟩ := kidL hRb hDb (i := i) (by omega)
  refine xj (S := fun w1 => Mg w w1 ([])) (by kernel_rfl) ?_
  replace M := M.drew
  refine qg A 0 rfl rfl rfl rfl hP (M.sub (List.nil_sublist _)) (fun w1 M => qz rfl) λa A↦?_
  refine qg A 1 rfl rfl rfl rfl hP (M.sub (List.nil_sublist _)) (fun w1 M => qz rfl) λa A↦?_
  refine qg (v := .pointer (some ⟨bt1, ot1 + i * 11, none⟩)) A 2 rfl rfl rfl rfl hP (M.sub (List.nil_sublist _)) (fun w1 M => qy (k := i) Tryz.underlying39 (by kernel_rfl) rfl rfl rfl lt1 (by omega)) λa A↦?_
  refine qg A 3 rfl rfl rfl rfl hP (M.sub (List.nil_sublist _)) (fun w1 M => jr M Ht1 KcJ_isS_53 rfl rfl) λa A↦?_
  refine qg A 4 rfl rfl rfl rfl hP (M.sub (List.nil_sublist _)) (fun w1 M => qz rfl) λa A↦?_
  refine qg A 5 rfl rfl rfl rfl hP (M.sub (List.nil_sublist _)) (fun w1 M => qz rfl) λa A↦?_
  refine qg (v := .pointer (some ⟨bu1, ou1 + i * 11, none⟩)) A 6 rfl rfl rfl rfl hP (M.sub (List.nil_sublist _)) (fun w1 M => qy (k := i) Tryz.underlying39 (by kernel_rfl) rfl rfl rfl lu1 (by omega)) λa A↦?_
  refine qg A 7 rfl rfl rfl rfl hP (M.sub (List.nil_sublist _)) (fun w1 M => jr M Hu1 KcJ_isS_53 rfl rfl) λa A↦?_
  refine zx (by kernel_rfl) (jc A 8 rfl rfl rfl rfl (zk rfl rfl (fun w => by kernel_rfl)) ((((sameT_eq t1.tr u1.tr).2 (tr_at he it1 iu1)) ▸ qmc (t1.tr.bulk + 1) (t := t1) (u := u1) (Nat.lt_succ_self _) (Dt.keep M.bel _ rt1_) (Dt.keep M.bel _ ru1_))) ?_)
  rintro _ w15 ⟨rfl, hb14⟩
  replace M := M.call hb14
  refine ⟨_, rfl, (M.sub (List.nil_sublist _)), ?_⟩
  intro a A
  refine qg (v := .bool false) A 9 rfl rfl rfl rfl hP (M.sub (List.nil_sublist _)) (fun w1 M => za rfl zj) λa A↦?_
  refine ju (by kernel_rfl) ?_
  refine hK13 _ _ (wp_cond_false (A.ev rfl) ?_)
  refine wp_skip (hK12 _ _ (wrl (sdm A λa A↦?_)))
  refine sdo (v := .int .i64 (((i + 1 : Nat) : Int))) A (qf rfl rfl (fun w => (zw (jn (by omega) (by omega)) w).trans (by rw [show (((i : Nat) : Int) + 1 : Int) = ((i + 1 : Nat) : Int) from by omega]))) λa A↦?_
  refine sda A λa A↦?_
  refine qa ?_
  refine hK7 _ _ _ (by omega) ⟨i + 1, rfl, by omega, A.keep _ (by repeat' constructor), M⟩
 ·
  have hb11' := of_decide_eq_false hb11
  refine sdc A qx hb11 λa A↦?_
  refine qa (hK10 _ _ (wp_cond_false (A.ev rfl) ?_))
  refine wp_exit (hK4 _ _ (wsk fun K16 hK16 => wrl (sda A λa A↦?_)))
  refine qa (hK16 _ _ (wp_ret (hret _ _ (en1 A rfl (qe rfl) ?_))))
  exact ⟨rfl, M.bel⟩
theorem KcL_is1_3 : Is1 Tryz.prog 3 := ⟨⟨_, Tryz.underlying3, rfl⟩, by kernel_rfl⟩
theorem KcL_is1_34 : Is1 Tryz.prog 34 := ⟨⟨_, Tryz.underlying34, rfl⟩, by kernel_rfl⟩
theorem KcL_is1_39 : Is1 Tryz.prog 39 := ⟨⟨_, Tryz.underlying39, rfl⟩, by kernel_rfl⟩
theorem KcL_fld_41_0 : FieldAt Tryz.prog 41 0 0 := ⟨_, _, Tryz.underlying41, rfl, rfl, by kernel_rfl⟩
theorem KcL_fld_41_1 : FieldAt Tryz.prog 41 1 1 := ⟨_, _, Tryz.underlying41, rfl, rfl, by kernel_rfl⟩
theorem KcL_isS_41 : IsS Tryz.prog 41 2 := ⟨⟨_, Tryz.underlying41⟩, by kernel_rfl⟩
theorem KcL_isS_53 : IsS Tryz.prog 53 11 := ⟨⟨_, Tryz.underlying53⟩, by kernel_rfl⟩
theorem cnt_endC : vv (-1) = 0 := by unfold vv; rw [chC_end]; rfl
theorem kv {t : Int} (h : okT 20 t = true) : vv t = (kat t).own + vv (kat t).par := by unfold vv; rw [qka h, List.map_cons, List.sum_cons]
theorem ow_all : ∀ i, i < 20 → (kds.getD i jt).own = if i = 1 ∨ i = 7 ∨ i = 8 ∨ i = 17 then 1 else if i = 12 then 2 else 0 := by decide
theorem qfi {t : Int} (h : okT 20 t = true) : (kat t).own = if t = 1 ∨ t = 7 ∨ t = 8 ∨ t = 17 then 1 else if t = 12 then 2 else 0 := by
 have h1 := kk h
 have := ow_all t.toNat (by omega)
 rw [← qej h] at this
 rw [this]
 by_cases h2 : t = 1 ∨ t = 7 ∨ t = 8 ∨ t = 17
 ·
  rw [if_pos h2, if_pos (by omega)]
 ·
  rw [if_neg h2, if_neg (by omega)]
  by_cases h3 : t = 12
  ·
   rw [if_pos h3, if_pos (by omega)]
  ·
   rw [if_neg h3, if_neg (by omega)]
theorem all_bad {vs : List Dt} {t : Dt} (h : t ∈ vs) (hs : ze ql t.tr = false) : (vs.map Dt.tr).all (ze ql) = false := by
 apply Bool.eq_false_iff.2
 intro k
 rw [List.all_eq_true.1 k _ (List.mem_map_of_mem h)] at hs
 cases hs
theorem all_next {vs : List Dt} {i : Nat} {t : Dt} (h : ((vs.take i).map Dt.tr).all (ze ql) = true) (hi : vs[i]? = some t) (hs : ze ql t.tr = true) : ((vs.take (i + 1)).map Dt.tr).all (ze ql) = true := by
 obtain ⟨hl, rfl⟩ := List.getElem?_eq_some_iff.1 hi
 rw [List.take_succ_eq_append_getElem hl, List.map_append, List.all_append, h, List.map_singleton, List.all_cons, hs]
 rfl
theorem rfields_any {w : World} {t : Int} (ht : okT 20 t = true) : Calls Tryz.prog 34 #[.int .i64 t] w fun e w' => e = .returned (.int .i64 (vv t)) ∧ Below w.heap.size w w' := by
 have ht9 := kk ht
 have hcr := cnt_rng ht
 have M : Mg w w ([]) := Mg.start w
 refine qm (l := [(0, .int .i64 t)]) Tryz.func34 rfl Tryz.ntmps34 rfl rfl ?_
 intro Q hret hnorm hP a A
 refine wsk fun K1 hK1 => wrl (sda A λa A↦?_)
 refine qa (hK1 _ _ (wsk fun K2 hK2 => wrl (sda A λa A↦?_)))
 refine qa (hK2 _ _ (wsk fun K3 hK3 => wp_block (zq (fun m_ a w1 => ∃ (x : Int) (n : Int), m_ = (x + 1).toNat ∧ (-1 ≤ x ∧ x ≤ t ∧ 0 ≤ n ∧ n ≤ 2 * (t - x) ∧ n + vv x = vv t) ∧ Sl a 21 [(0, .int .i64 x), (2, .int .i64 0), (3, .int .i64 n)] ∧ Mg w w1 ([])) _ ⟨t, 0, rfl, ⟨by omega, by omega, by omega, by omega, by omega⟩, A.keep _ ⟨rfl, rfl, rfl, trivial⟩, M⟩ ?_)))
 clear M A
 rintro m_ a w4 ⟨x, n, rfl, hinv6, A, M⟩ K5 hK5
 obtain ⟨hx0, hx1, hn0, hn1, hin9⟩ := hinv6
 refine wsk fun K7 hK7 => wsk fun K8 hK8 => wrl (sdm A λa A↦?_)
 rcases tf (decide (0 ≤ x)) with hb9 | hb9
 ·
  have hb9' := of_decide_eq_true hb9
  refine sdc A jl hb9 λa A↦?_
  refine qa (hK8 _ _ (wp_cond_true (A.ev rfl) ?_))
  refine wp_skip (hK7 _ _ (wp_block (wsk fun K10 hK10 => wsk fun K11 hK11 => wrl (sdm A λa A↦?_))))
  refine qa (hK11 _ _ (wp_block (wsk fun K12 hK12 => wsk fun K13 hK13 => wrl ?_)))
  rcases tf ((x == 1)) with hb14 | hb14
  ·
   have hb14' := eq_of_beq hb14
   refine sdc A qi hb14 λa A↦?_
   refine sda A λa A↦?_
   refine qa (hK13 _ _ (wp_cond_true (A.ev rfl) ?_))
   refine wp_skip (hK12 _ _ (wp_cond_true (A.ev rfl) ?_))
   refine wrl (sdm A λa A↦?_)
   refine sdo (v := .int .i64 (n + 1)) A (qf rfl rfl (zw (jn (by omega) (by omega)))) λa A↦?_
   refine sda A λa A↦?_
   refine qa (hK10 _ _ (wrl (sdm A λa A↦?_)))
   have hx : okT 20 x = true := kj (by omega) (by omega)
   have hpr := ye hx
   have hst := kv hx
   have how : (kat x).own = 1 := by rw [qfi hx]; rw [if_pos (by omega)]
   refine gcl A M (ef rfl rfl) ((qbj hx ▸ xn)) fun w16 hb15 M a A => ?_
   refine sda A λa A↦?_
   refine qa ?_
   replace M : Mg w w16 ([]) := by
    have h9 := M.sub (.refl _)
    exact h9
   refine hK5 _ _ _ (by omega) ⟨(kat x).par, n + 1, rfl, ⟨by omega, by omega, by omega, by omega, by omega⟩, A.keep _ ⟨rfl, rfl, rfl, trivial⟩, M⟩
  ·
   have hb14' := ne_of_beq_false hb14
   refine sdc A qi hb14 λa A↦?_
   refine sda A λa A↦?_
   refine qa (hK13 _ _ (wp_cond_false (A.ev rfl) ?_))
   refine wsk fun K17 hK17 => wrl ?_
   rcases tf ((x == 7)) with hb18 | hb18
   ·
    have hb18' := eq_of_beq hb18
    refine sdc A qi hb18 λa A↦?_
    refine sda A λa A↦?_
    refine qa (hK17 _ _ (wp_cond_true (A.ev rfl) ?_))
    refine wp_skip (hK12 _ _ (wp_cond_true (A.ev rfl) ?_))
    refine wrl (sdm A λa A↦?_)
    refine sdo (v := .int .i64 (n + 1)) A (qf rfl rfl (zw (jn (by omega) (by omega)))) λa A↦?_
    refine sda A λa A↦?_
    refine qa (hK10 _ _ (wrl (sdm A λa A↦?_)))
    have hx : okT 20 x = true := kj (by omega) (by omega)
    have hpr := ye hx
    have hst := kv hx
    have how : (kat x).own = 1 := by rw [qfi hx]; rw [if_pos (by omega)]
    refine gcl A M (ef rfl rfl) ((qbj hx ▸ xn)) fun w20 hb19 M a A => ?_
    refine sda A λa A↦?_
    refine qa ?_
    replace M : Mg w w20 ([]) := by
     have h9 := M.sub (.refl _)
     exact h9
    refine hK5 _ _ _ (by omega) ⟨(kat x).par, n + 1, rfl, ⟨by omega, by omega, by omega, by omega, by omega⟩, A.keep _ ⟨rfl, rfl, rfl, trivial⟩, M⟩
   ·
    have hb18' := ne_of_beq_false hb18
    refine sdc A qi hb18 λa A↦?_
    refine sda A λa A↦?_
    refine qa (hK17 _ _ (wp_cond_false (A.ev rfl) ?_))
    refine wsk fun K21 hK21 => wrl ?_
    rcases tf ((x == 8)) with hb22 | hb22
    ·
     have hb22' := eq_of_beq hb22
     refine sdc A qi hb22 λa A↦?_
     refine sda A λa A↦?_
     refine qa (hK21 _ _ (wp_cond_true (A.ev rfl) ?_))
     refine wp_skip (hK12 _ _ (wp_cond_true (A.ev rfl) ?_))
     refine wrl (sdm A λa A↦?_)
     refine sdo (v := .int .i64 (n + 1)) A (qf rfl rfl (zw (jn (by omega) (by omega)))) λa A↦?_
     refine sda A λa A↦?_
     refine qa (hK10 _ _ (wrl (sdm A λa A↦?_)))
     have hx : okT 20 x = true := kj (by omega) (by omega)
     have hpr := ye hx
     have hst := kv hx
     have how : (kat x).own = 1 := by rw [qfi hx]; rw [if_pos (by omega)]
     refine gcl A M (ef rfl rfl) ((qbj hx ▸ xn)) fun w24 hb23 M a A => ?_
     refine sda A λa A↦?_
     refine qa ?_
     replace M : Mg w w24 ([]) := by
      have h9 := M.sub (.refl _)
      exact h9
     refine hK5 _ _ _ (by omega) ⟨(kat x).par, n + 1, rfl, ⟨by omega, by omega, by omega, by omega, by omega⟩, A.keep _ ⟨rfl, rfl, rfl, trivial⟩, M⟩
    ·
     have hb22' := ne_of_beq_false hb22
     refine sdc A qi hb22 λa A↦?_
     refine sda A λa A↦?_
     refine qa (hK21 _ _ (wp_cond_false (A.ev rfl) ?_))
     refine wrl ?_
     rcases tf ((x == 17)) with hb25 | hb25
     ·
      have hb25' := eq_of_beq hb25
      refine sdc A qi hb25 λa A↦?_
      refine sda A λa A↦?_
      refine qa (hK12 _ _ (wp_cond_true (A.ev rfl) ?_))
      refine wrl (sdm A λa A↦?_)
      refine sdo (v := .int .i64 (n + 1)) A (qf rfl rfl (zw (jn (by omega) (by omega)))) λa A↦?_
      refine sda A λa A↦?_
      refine qa (hK10 _ _ (wrl (sdm A λa A↦?_)))
      have hx : okT 20 x = true := kj (by omega) (by omega)
      have hpr := ye hx
      have hst := kv hx
      have how : (kat x).own = 1 := by rw [qfi hx]; rw [if_pos (by omega)]
      refine gcl A M (ef rfl rfl) ((qbj hx ▸ xn)) fun w27 hb26 M a A => ?_
      refine sda A λa A↦?_
      refine qa ?_
      replace M : Mg w w27 ([]) := by
       have h9 := M.sub (.refl _)
       exact h9
      refine hK5 _ _ _ (by omega) ⟨(kat x).par, n + 1, rfl, ⟨by omega, by omega, by omega, by omega, by omega⟩, A.keep _ ⟨rfl, rfl, rfl, trivial⟩, M⟩
     ·
      have hb25' := ne_of_beq_false hb25
      refine sdc A qi hb25 λa A↦?_
      refine sda A λa A↦?_
      refine qa (hK12 _ _ (wp_cond_false (A.ev rfl) ?_))
      refine wsk fun K28 hK28 => wrl ?_
      rcases tf ((x == 12)) with hb29 | hb29
      ·
       have hb29' := eq_of_beq hb29
       refine sdc A qi hb29 λa A↦?_
       refine sda A λa A↦?_
       refine qa (hK28 _ _ (wp_cond_true (A.ev rfl) ?_))
       refine wrl (sdm A λa A↦?_)
       refine sdo (v := .int .i64 (n + 2)) A (qf rfl rfl (zw (jn (by omega) (by omega)))) λa A↦?_
       refine sda A λa A↦?_
       refine qa (hK10 _ _ (wrl (sdm A λa A↦?_)))
       have hx : okT 20 x = true := kj (by omega) (by omega)
       have hpr := ye hx
       have hst := kv hx
       have how : (kat x).own = 2 := by rw [qfi hx]; rw [if_neg (by omega), if_pos (by omega)]
       refine gcl A M (ef rfl rfl) ((qbj hx ▸ xn)) fun w31 hb30 M a A => ?_
       refine sda A λa A↦?_
       refine qa ?_
       replace M : Mg w w31 ([]) := by
        have h9 := M.sub (.refl _)
        exact h9
       refine hK5 _ _ _ (by omega) ⟨(kat x).par, n + 2, rfl, ⟨by omega, by omega, by omega, by omega, by omega⟩, A.keep _ ⟨rfl, rfl, rfl, trivial⟩, M⟩
      ·
       have hb29' := ne_of_beq_false hb29
       refine sdc A qi hb29 λa A↦?_
       refine sda A λa A↦?_
       refine qa (hK28 _ _ (wp_cond_false (A.ev rfl) ?_))
       refine wp_skip (hK10 _ _ (wrl (sdm A λa A↦?_)))
       have hx : okT 20 x = true := kj (by omega) (by omega)
       have hpr := ye hx
       have hst := kv hx
       have how : (kat x).own = 0 := by rw [qfi hx]; rw [if_neg (by omega), if_neg (by omega)]
       refine gcl A M (ef rfl rfl) ((qbj hx ▸ xn)) fun w33 hb32 M a A => ?_
       refine sda A λa A↦?_
       refine qa ?_
       replace M : Mg w w33 ([]) := by
        have h9 := M.sub (.refl _)
        exact h9
       refine hK5 _ _ _ (by omega) ⟨(kat x).par, n, rfl, ⟨by omega, by omega, by omega, by omega, by omega⟩, A.keep _ ⟨rfl, rfl, rfl, trivial⟩, M⟩
 ·
  have hb9' := of_decide_eq_false hb9
  refine sdc A jl hb9 λa A↦?_
  refine qa (hK8 _ _ (wp_cond_false (A.ev rfl) ?_))
  refine wp_exit (hK3 _ _ (wsk fun K34 hK34 => wrl (sdm A λa A↦?_)))
  refine sda A λa A↦?_
  refine qa (hK34 _ _ (wp_ret (hret _ _ (en1 A rfl (qe rfl) ?_))))
  have hx1 : x = -1 := by omega
  subst hx1
  rw [cnt_endC] at hin9
  exact ⟨by rw [show n = vv t by omega], M.bel⟩
set_option maxHeartbeats 1000000 in
theorem qcb {w : World} {so : Option Addr} {ca : Nat} {ps : List Sp} (hPs : PR w so ps) (hB4 : ∀ p ∈ ps, Tr.bulks (p.vs.map Dt.tr) ≤ 1048576) (hl : ps.length ≤ 1000000000) : Calls Tryz.prog 21 #[.slice so ps.length ca] w fun e w' => e = .returned (.int .i64 (ckC (ps.map Sp.k))) ∧ Below w.heap.size w w' := by
 have M : Mg w w ([]) := Mg.start w
 refine qm (l := [(0, .slice so ps.length ca)]) Tryz.func21 rfl Tryz.ntmps21 rfl rfl ?_
 intro Q hret hnorm hP a A
 refine wsk fun K1 hK1 => wrl (sda A λa A↦?_)
 refine qa (hK1 _ _ (wsk fun K2 hK2 => wsk fun K3 hK3 => wrl (sdm A λa A↦?_)))
 refine sdo A (qw Tryz.underlying34 rfl) λa A↦?_
 rcases tf (decide (16 < ((ps.length : Nat) : Int))) with hb4 | hb4
 ·
  have hb4' := of_decide_eq_true hb4
  refine sdc A jd hb4 λa A↦?_
  refine qa (hK3 _ _ (wp_cond_true (A.ev rfl) ?_))
  refine wsk fun K5 hK5 => wrl (sda A λa A↦?_)
  refine qa (hK5 _ _ (wp_ret (hret _ _ (en1 A rfl (qe rfl) ?_))))
  exact ⟨by rw [qfb (by rw [List.length_map]; omega)], M.bel⟩
 ·
  have hb4' := of_decide_eq_false hb4
  refine sdc A jd hb4 λa A↦?_
  refine qa (hK3 _ _ (wp_cond_false (A.ev rfl) ?_))
  refine wp_skip (hK2 _ _ (wsk fun K6 hK6 => wsk fun K7 hK7 => wrl (sda A λa A↦?_)))
  refine qa (hK7 _ _ (wp_block (zq (fun m_ a w1 => ∃ (i : Nat), m_ = 1 + (ps.length - i) ∧ (i ≤ ps.length ∧ ckA ((ps.map Sp.k).drop i) = ckA (ps.map Sp.k)) ∧ Sl a 54 [(0, .slice so ps.length ca), (3, .int .i64 (((i : Nat) : Int))), (5, .slice so ps.length ca), (6, .int .i64 (((ps.length : Nat) : Int))), (7, .bool false)] ∧ Mg w w1 ([])) _ ⟨0, rfl, ⟨Nat.zero_le _, rfl⟩, A.keep _ ⟨rfl, rfl, rfl, rfl, rfl, trivial⟩, M⟩ ?_)))
  clear M A
  rintro m_ a w8 ⟨i, rfl, hinv10, A, M⟩ K9 hK9
  obtain ⟨hi0, hin9⟩ := hinv10
  refine wsk fun K11 hK11 => wsk fun K12 hK12 => wrl ?_
  iterate 2 refine sdm A λa A↦?_
  refine sdo A (qw Tryz.underlying34 rfl) λa A↦?_
  rcases tf (decide (((i : Nat) : Int) < ((ps.length : Nat) : Int))) with hb13 | hb13
  ·
   have hb13' := of_decide_eq_true hb13
   refine sdc A qx hb13 λa A↦?_
   refine qa (hK12 _ _ (wp_cond_true (A.ev rfl) ?_))
   refine wp_skip (hK11 _ _ (wsk fun K14 hK14 => wp_block (wsk fun K15 hK15 => wsk fun K16 hK16 => wrl ?_)))
   iterate 2 refine sdm A λa A↦?_
   obtain ⟨sp17, bs18, os19, is20, ms21, rs22, ls23, Hs24⟩ := hPs.at_ (i := i) (by omega)
   refine sdo (v := .pointer (some ⟨bs18, os19 + i * 2, none⟩)) A (qy (k := i) Tryz.underlying34 (by kernel_rfl) rfl rfl (by first | rfl | omega) ls23 (by omega)) λa A↦?_
   refine sdo (v := .pointer (some ⟨bs18, os19 + i * 2, none⟩)) A (qb KcL_fld_41_0 rfl rfl) λa A↦?_
   refine sdo A (jp (j := 0) M Hs24 KcL_is1_3 rfl rfl rfl) λa A↦?_
   rcases tf (okT 20 sp17.ty) with hb25 | hb25
   ·
    have hn27 : decide ((kat sp17.ty).nm = ⟨#[]⟩) = false := decide_eq_false (nm_ne hb25)
    refine gcl A M (ef rfl rfl) (qfg) fun w28 hb26 M a A => ?_
    refine sdo (v := .bool false) A (qf rfl rfl (fun w => (ka Tryz.underlying9 w).trans (by rw [hn27] <;> rfl))) λa A↦?_
    refine qa (hK16 _ _ (wp_cond_false (A.ev rfl) ?_))
    refine wp_skip (hK15 _ _ (wsk fun K30 hK30 => wsk fun K31 hK31 => xj (S := fun w1 => Mg w w1 ([])) (by kernel_rfl) ?_))
    replace M := M.drew
    refine qg A 0 rfl rfl rfl rfl hP (M.sub (List.nil_sublist _)) (fun w1 M => qz rfl) λa A↦?_
    refine qg A 1 rfl rfl rfl rfl hP (M.sub (List.nil_sublist _)) (fun w1 M => qz rfl) λa A↦?_
    refine qg (v := .pointer (some ⟨bs18, os19 + i * 2, none⟩)) A 2 rfl rfl rfl rfl hP (M.sub (List.nil_sublist _)) (fun w1 M => qy (k := i) Tryz.underlying34 (by kernel_rfl) rfl rfl (by first | rfl | omega) ls23 (by omega)) λa A↦?_
    refine qg (v := .pointer (some ⟨bs18, os19 + i * 2 + 1, none⟩)) A 3 rfl rfl rfl rfl hP (M.sub (List.nil_sublist _)) (fun w1 M => qb KcL_fld_41_1 rfl rfl) λa A↦?_
    refine qg A 4 rfl rfl rfl rfl hP (M.sub (List.nil_sublist _)) (fun w1 M => jp (j := 1) M Hs24 KcL_is1_39 rfl rfl rfl) λa A↦?_
    refine qg (v := .int .i64 (((sp17.vs.length : Nat) : Int))) A 5 rfl rfl rfl rfl hP (M.sub (List.nil_sublist _)) (fun w1 M => qw Tryz.underlying39 rfl) λa A↦?_
    refine qg A 6 rfl rfl rfl rfl hP (M.sub (List.nil_sublist _)) (fun w1 M => qz rfl) λa A↦?_
    refine qg A 7 rfl rfl rfl rfl hP (M.sub (List.nil_sublist _)) (fun w1 M => qz rfl) λa A↦?_
    refine qg (v := .pointer (some ⟨bs18, os19 + i * 2, none⟩)) A 8 rfl rfl rfl rfl hP (M.sub (List.nil_sublist _)) (fun w1 M => qy (k := i) Tryz.underlying34 (by kernel_rfl) rfl rfl (by first | rfl | omega) ls23 (by omega)) λa A↦?_
    refine qg (v := .pointer (some ⟨bs18, os19 + i * 2, none⟩)) A 9 rfl rfl rfl rfl hP (M.sub (List.nil_sublist _)) (fun w1 M => qb KcL_fld_41_0 rfl rfl) λa A↦?_
    refine qg A 10 rfl rfl rfl rfl hP (M.sub (List.nil_sublist _)) (fun w1 M => jp (j := 0) M Hs24 KcL_is1_3 rfl rfl rfl) λa A↦?_
    refine zx (by kernel_rfl) (jc A 11 rfl rfl rfl rfl (zk rfl rfl (fun w => by kernel_rfl)) (rfields_any hb25) ?_)
    rintro _ w33 ⟨rfl, hb32⟩
    replace M := M.call hb32
    refine ⟨_, rfl, (M.sub (List.nil_sublist _)), ?_⟩
    intro a A
    rcases tf ((((sp17.vs.length : Nat) : Int) != vv sp17.ty)) with hb34 | hb34
    ·
     have hb34' := bne_iff_ne.1 hb34
     refine qg (v := .bool true) A 12 rfl rfl rfl rfl hP (M.sub (List.nil_sublist _)) (fun w1 M => qf rfl rfl (fun w => (zl w).trans (by rw [hb34]))) λa A↦?_
     refine ju (by kernel_rfl) ?_
     refine hK31 _ _ (wp_cond_true (A.ev rfl) ?_)
     refine wsk fun K35 hK35 => wrl (sda A λa A↦?_)
     refine qa (hK35 _ _ (wp_ret (hret _ _ (en1 A rfl (qe rfl) ?_))))
     exact ⟨by rw [kr (by rw [List.length_map]; omega), ← hin9, yp (ve is20), ckP_cnt hb25 hb34', if_neg (by decide)], M.bel⟩
    ·
     have hb34' := bne_eq_false_iff_eq.1 hb34
     refine qg (v := .bool false) A 12 rfl rfl rfl rfl hP (M.sub (List.nil_sublist _)) (fun w1 M => qf rfl rfl (fun w => (zl w).trans (by rw [hb34]))) λa A↦?_
     refine ju (by kernel_rfl) ?_
     refine hK31 _ _ (wp_cond_false (A.ev rfl) ?_)
     refine wp_skip (hK30 _ _ (wsk fun K36 hK36 => wrl (sda A λa A↦?_)))
     refine qa (hK36 _ _ (wp_block ?_))
     obtain ⟨vl, hvl⟩ : ∃ q, q = sp17.vs.length := ⟨_, rfl⟩
     have hvb := vu sp17.vs
     have hv4 := hB4 _ ms21
     refine zq (fun m_ a w1 => ∃ (k : Nat), m_ = 1 + (vl - k) ∧ (k ≤ sp17.vs.length ∧ ((sp17.vs.take k).map Dt.tr).all (ze ql) = true) ∧ Sl a 54 [(0, .slice so ps.length ca), (3, .int .i64 (((i : Nat) : Int))), (4, .int .i64 (((k : Nat) : Int))), (5, .slice so ps.length ca), (6, .int .i64 (((ps.length : Nat) : Int))), (7, .bool false), (8, .int .i64 (((i : Nat) : Int))), (9, .slice so ps.length ca), (10, .int .i64 (((ps.length : Nat) : Int))), (11, .bool true), (14, .slice so ps.length ca), (15, .int .i64 (((i : Nat) : Int))), (16, .pointer (some ⟨bs18, os19 + i * 2, none⟩)), (17, .pointer (some ⟨bs18, os19 + i * 2, none⟩)), (18, .int .i64 sp17.ty), (19, .string ((kat sp17.ty).nm)), (20, .bool false), (21, .slice so ps.length ca), (22, .int .i64 (((i : Nat) : Int))), (23, .pointer (some ⟨bs18, os19 + i * 2, none⟩)), (24, .pointer (some ⟨bs18, os19 + i * 2 + 1, none⟩)), (25, .slice sp17.vo sp17.vs.length sp17.vc), (26, .int .i64 (((sp17.vs.length : Nat) : Int))), (27, .slice so ps.length ca), (28, .int .i64 (((i : Nat) : Int))), (29, .pointer (some ⟨bs18, os19 + i * 2, none⟩)), (30, .pointer (some ⟨bs18, os19 + i * 2, none⟩)), (31, .int .i64 sp17.ty), (32, .int .i64 (vv sp17.ty)), (33, .bool false)] ∧ Mg w w1 ([])) _ ⟨0, rfl, ⟨Nat.zero_le _, rfl⟩, A.keep _ (by repeat' constructor), M⟩ ?_
     clear M A
     rintro m_ a w37 ⟨k, rfl, hinv39, A, M⟩ K38 hK38
     obtain ⟨hk0, hin8⟩ := hinv39
     refine wsk fun K40 hK40 => wsk fun K41 hK41 => wrl ?_
     iterate 3 refine sdm A λa A↦?_
     refine sdo (v := .pointer (some ⟨bs18, os19 + i * 2, none⟩)) A (qy (k := i) Tryz.underlying34 (by kernel_rfl) rfl rfl (by first | rfl | omega) ls23 (by omega)) λa A↦?_
     refine sdo (v := .pointer (some ⟨bs18, os19 + i * 2 + 1, none⟩)) A (qb KcL_fld_41_1 rfl rfl) λa A↦?_
     refine sdo A (jp (j := 1) M Hs24 KcL_is1_39 rfl rfl rfl) λa A↦?_
     refine sdo A (qw Tryz.underlying39 rfl) λa A↦?_
     rcases tf (decide (((k : Nat) : Int) < ((sp17.vs.length : Nat) : Int))) with hb42 | hb42
     ·
      have hb42' := of_decide_eq_true hb42
      refine sdc A qx hb42 λa A↦?_
      refine qa (hK41 _ _ (wp_cond_true (A.ev rfl) ?_))
      refine wp_skip (hK40 _ _ (wsk fun K43 hK43 => wp_block (wsk fun K44 hK44 => wrl ?_)))
      iterate 2 refine sdm A λa A↦?_
      refine sdo (v := .pointer (some ⟨bs18, os19 + i * 2, none⟩)) A (qy (k := i) Tryz.underlying34 (by kernel_rfl) rfl rfl (by first | rfl | omega) ls23 (by omega)) λa A↦?_
      refine sdo (v := .pointer (some ⟨bs18, os19 + i * 2 + 1, none⟩)) A (qb KcL_fld_41_1 rfl rfl) λa A↦?_
      refine sdo A (jp (j := 1) M Hs24 KcL_is1_39 rfl rfl rfl) λa A↦?_
      refine sdm A λa A↦?_
      obtain ⟨tk45, btk45, otk45, itk45, mtk45, rtk45_, ltk45, Htk45⟩ := kidL rs22.v rs22.d (i := k) (by omega)
      refine sdo (v := .pointer (some ⟨btk45, otk45 + k * 11, none⟩)) A (qy (k := k) Tryz.underlying39 (by kernel_rfl) rfl rfl (by first | rfl | omega) ltk45 (by omega)) λa A↦?_
      refine sdo A (jr M Htk45 KcL_isS_53 rfl rfl) λa A↦?_
      rcases tf (ze ql tk45.tr) with hb46 | hb46
      ·
       refine gcl A M (ef rfl rfl) ((hb46 ▸ rsound_any (t := tk45) (Dt.keep M.bel _ rtk45_) (by have h8 := ub mtk45; have h9 := hB4 _ ms21; omega))) fun w48 hb47 M a A => ?_
       refine sdo (v := .bool false) A (za rfl zj) λa A↦?_
       refine qa (hK44 _ _ (wp_cond_false (A.ev rfl) ?_))
       refine wp_skip (hK43 _ _ (wrl (sdm A λa A↦?_)))
       refine sdo (v := .int .i64 (((k + 1 : Nat) : Int))) A (qf rfl rfl (fun w => (zw (jn (by omega) (by omega)) w).trans (by rw [show (((k : Nat) : Int) + 1 : Int) = ((k + 1 : Nat) : Int) from by omega]))) λa A↦?_
       refine sda A λa A↦?_
       refine qa ?_
       replace M : Mg w w48 ([]) := by
        have h9 := M.sub (.refl _)
        exact h9
       refine hK38 _ _ _ (by omega) ⟨k + 1, rfl, ⟨by omega, all_next hin8 itk45 hb46⟩, A.keep _ (by repeat' constructor), M⟩
      ·
       refine gcl A M (ef rfl rfl) ((hb46 ▸ rsound_any (t := tk45) (Dt.keep M.bel _ rtk45_) (by have h8 := ub mtk45; have h9 := hB4 _ ms21; omega))) fun w50 hb49 M a A => ?_
       refine sdo (v := .bool true) A (za rfl zj) λa A↦?_
       refine qa (hK44 _ _ (wp_cond_true (A.ev rfl) ?_))
       refine wsk fun K51 hK51 => wrl (sda A λa A↦?_)
       refine qa (hK51 _ _ (wp_ret (hret _ _ (en1 A rfl (qe rfl) ?_))))
       exact ⟨by rw [kr (by rw [List.length_map]; omega), ← hin9, yp (ve is20), qic hb25 hb34' (all_bad mtk45 hb46)] <;> rfl, M.bel⟩
     ·
      have hb42' := of_decide_eq_false hb42
      refine sdc A qx hb42 λa A↦?_
      refine qa (hK41 _ _ (wp_cond_false (A.ev rfl) ?_))
      refine wp_exit (hK14 _ _ (wrl (sdm A λa A↦?_)))
      refine sdo (v := .int .i64 (((i + 1 : Nat) : Int))) A (qf rfl rfl (fun w => (zw (jn (by omega) (by omega)) w).trans (by rw [show (((i : Nat) : Int) + 1 : Int) = ((i + 1 : Nat) : Int) from by omega]))) λa A↦?_
      refine sda A λa A↦?_
      refine qa ?_
      replace M : Mg w w37 ([]) := by
       have h9 := M.sub (.refl _)
       exact h9
      refine hK9 _ _ _ (by omega) ⟨i + 1, rfl, ⟨by omega, by rw [← hin9, yp (i := i) (ve is20), qic hb25 hb34' (b := true) (by rw [← hin8, List.take_of_length_le (by omega)])]; rfl⟩, A.keep _ ⟨rfl, rfl, rfl, rfl, rfl, trivial⟩, M⟩
   ·
    refine gcl A M (ef rfl rfl) (rname_f hb25) fun w53 hb52 M a A => ?_
    refine sdo (v := .bool true) A (qf rfl rfl (fun w => (ka Tryz.underlying9 w).trans (by rw [decide_eq_true rfl] <;> rfl))) λa A↦?_
    refine qa (hK16 _ _ (wp_cond_true (A.ev rfl) ?_))
    refine wsk fun K54 hK54 => wrl (sda A λa A↦?_)
    refine qa (hK54 _ _ (wp_ret (hret _ _ (en1 A rfl (qe rfl) ?_))))
    exact ⟨by rw [kr (by rw [List.length_map]; omega), ← hin9, yp (ve is20), ckP_type hb25, if_neg (by decide)], M.bel⟩
  ·
   have hb13' := of_decide_eq_false hb13
   refine sdc A qx hb13 λa A↦?_
   refine qa (hK12 _ _ (wp_cond_false (A.ev rfl) ?_))
   refine wp_exit (hK6 _ _ (wsk fun K55 hK55 => wrl (sda A λa A↦?_)))
   refine qa (hK55 _ _ (wp_ret (hret _ _ (en1 A rfl (qe rfl) ?_))))
   exact ⟨by rw [kr (by rw [List.length_map]; omega), ← hin9, List.drop_of_length_le (by rw [List.length_map]; omega)] <;> rfl, M.bel⟩
theorem rjoin_any {w : World} {lo : Option Addr} {lc : Nat} {ls : List Cn} (hC : CR w lo ls) (hB4 : ∀ p ∈ zu ls, Tr.bulks (p.vs.map Dt.tr) ≤ 1048576) (hl : ls.length ≤ 1000000000) (hal : (zu ls).length ≤ 1048576) (hln : ∀ c ∈ ls, c.ps.length ≤ 900000000) : Calls Tryz.prog 16 #[.slice lo ls.length lc] w fun e w' => ∃ (so' : Option Addr) (ca' : Nat) (cs : List Sp) (ev : Int), e = .returned (.tuple #[.slice so' cs.length ca', .int .i64 ev]) ∧ (ev = ckC ((zu ls).map Sp.k) ∧ cs.map Sp.k = (if ckC ((zu ls).map Sp.k) = 0 then ((zu ls).map Sp.k) else []) ∧ Rc w' so' (zp Sp.c cs) ∧ In (w.heap.size ≤ ·) so' cs ∧ ∀ p ∈ cs, p ∈ zu ls) ∧ Below w.heap.size w w' := by
 have hW : ∀ p ∈ zu ls, SpR w p := fun p hp => (by obtain ⟨c, hc, hp⟩ := uu hp; exact (hC.own c hc).own p hp)
 have M : Mg w w ([]) := Mg.start w
 refine qm (l := [(0, .slice lo ls.length lc)]) Tryz.func16 rfl Tryz.ntmps16 rfl rfl ?_
 intro Q hret hnorm hP a A
 refine wsk fun K1 hK1 => wrl ?_
 iterate 2 refine sda A λa A↦?_
 refine qa (hK1 _ _ (wsk fun K2 hK2 => wrl (ki (e := 41) (sz := 2) (m := 0) (vs := zp Sp.c []) A M rfl rfl rfl (zg rfl (by kernel_rfl)) rfl rfl (.inl (by decide)) ?_)))
 intro g3 w4 M a A
 refine sda A λa A↦?_
 refine qa (hK2 _ _ (wsk fun K5 hK5 => wsk fun K6 hK6 => wrl (sda A λa A↦?_)))
 refine qa (hK6 _ _ (wp_block (zq (fun m_ a w1 => ∃ (i : Nat) (so9 : Option Addr) (ca9 : Nat), m_ = 1 + (ls.length - i) ∧ (i ≤ ls.length) ∧ Sl a 26 [(0, .slice lo ls.length lc), (2, .slice none 0 0), (3, .int .i64 0), (4, .slice so9 ((zu (ls.take i)).length) ca9), (5, .int .i64 (((i : Nat) : Int))), (7, .slice (some ⟨g3, 0, none⟩) 0 0)] ∧ Mg w w1 (.row 41 2 (.slice so9 ((zu (ls.take i)).length) ca9) ((zu (ls.take i)).length) (zp Sp.c (zu (ls.take i))) :: [])) _ ⟨0, some ⟨g3, 0, none⟩, 0, rfl, Nat.zero_le _, A.keep _ (by repeat' constructor), M⟩ ?_)))
 clear M A
 rintro m_ a w7 ⟨i, so9, ca9, rfl, hinv9, A, M⟩ K8 hK8
 have hi0 := hinv9
 refine wsk fun K10 hK10 => wsk fun K11 hK11 => wrl ?_
 iterate 2 refine sdm A λa A↦?_
 refine sdo A (qw Tryz.underlying33 rfl) λa A↦?_
 rcases tf (decide (((i : Nat) : Int) < ((ls.length : Nat) : Int))) with hb12 | hb12
 ·
  have hb12' := of_decide_eq_true hb12
  refine sdc A qx hb12 λa A↦?_
  refine qa (hK11 _ _ (wp_cond_true (A.ev rfl) ?_))
  refine wp_skip (hK10 _ _ (wsk fun K13 hK13 => wp_block (wrl ?_)))
  iterate 3 refine sdm A λa A↦?_
  obtain ⟨cn14, bc15, oc16, ic17, mc18, rc19, lc20, Hc21⟩ := hC.at_ (i := i) (by omega)
  have hcl := hln cn14 mc18
  refine sdo (v := .pointer (some ⟨bc15, oc16 + i * 1, none⟩)) A (qy (k := i) Tryz.underlying33 (by kernel_rfl) rfl rfl (by first | rfl | omega) lc20 (by omega)) λa A↦?_
  refine sdo A (jp (j := 0) M Hc21 KcL_is1_34 rfl rfl rfl) λa A↦?_
  have hat := qfc ls i
  refine xi (e := 41) (sz := 2) (k := 0) (q := (zu (ls.take i)).length) (m := cn14.ps.length) (xs := zp Sp.c (zu (ls.take i))) (news := zp Sp.c cn14.ps) (L' := fun v22 => (.row 41 2 (v22) ((zu (ls.take i)).length + cn14.ps.length) (zp Sp.c (zu (ls.take i)) ++ zp Sp.c cn14.ps) :: [])) A rfl rfl rfl (kz (z := .agg #[.int .i64 0, .slice none 0 0]) (sz := 2) (by_ := 32) Tryz.underlying34 (by kernel_rfl) rfl rfl rfl M 0 rfl rfl rfl (yn qfa cn14.ps) (rc19.row.below M.bel) (qkb cn14.ps) (by omega)) (fun _ => rfl) ?_
  intro v22 w23 M a A
  replace M : Mg w w23 (.row 41 2 (v22) ((zu (ls.take (i + 1))).length) (zp Sp.c (zu (ls.take (i + 1)))) :: []) := by
   rw [allP_snoc ic17, xm, List.length_append]; exact M
  obtain ⟨so24, ca25, rfl⟩ := xg (M.has 0 rfl)
  refine sda A λa A↦?_
  refine qa (hK13 _ _ (wrl (sdm A λa A↦?_)))
  refine sdo (v := .int .i64 (((i + 1 : Nat) : Int))) A (qf rfl rfl (fun w => (zw (jn (by omega) (by omega)) w).trans (by rw [show (((i : Nat) : Int) + 1 : Int) = ((i + 1 : Nat) : Int) from by omega]))) λa A↦?_
  refine sda A λa A↦?_
  refine qa ?_
  replace M : Mg w w23 (.row 41 2 (.slice so24 ((zu (ls.take (i + 1))).length) ca25) ((zu (ls.take (i + 1))).length) (zp Sp.c (zu (ls.take (i + 1)))) :: []) := by
   have h9 := M.sub (cc (.refl _))
   exact h9
  refine hK8 _ _ _ (by omega) ⟨i + 1, so24, ca25, rfl, by omega, A.keep _ (by repeat' constructor), M⟩
 ·
  have hb12' := of_decide_eq_false hb12
  refine sdc A qx hb12 λa A↦?_
  refine qa (hK11 _ _ (wp_cond_false (A.ev rfl) ?_))
  refine wp_exit (hK5 _ _ (wsk fun K26 hK26 => wrl (sdm A λa A↦?_)))
  refine gcl A M (ef rfl rfl) (qcb (ps := (zu (ls.take i))) ⟨xf (M.has 0 rfl), fun p hp => (hW p (yq hp)).below M.bel⟩ (fun p hp => hB4 p (yq hp)) (by have := qfc ls i; omega)) fun w28 hb27 M a A => ?_
  refine sda A λa A↦?_
  refine qa (hK26 _ _ (wsk fun K29 hK29 => wsk fun K30 hK30 => wrl (sdm A λa A↦?_)))
  rcases tf ((ckC ((zu (ls.take i)).map Sp.k) != 0)) with hb31 | hb31
  ·
   have hb31' := bne_iff_ne.1 hb31
   refine sdc A zl hb31 λa A↦?_
   refine qa (hK30 _ _ (wp_cond_true (A.ev rfl) ?_))
   refine wsk fun K32 hK32 => wrl (sdm A λa A↦?_)
   iterate 2 refine sda A λa A↦?_
   refine qa (hK32 _ _ (wp_ret (hret _ _ (en2 A rfl (qe rfl) (qe rfl) ?_))))
   have e8 : ls.take i = ls := List.take_of_length_le (by omega)
   rw [e8] at hb31'
   exact ⟨none, 0, [], _, rfl, ⟨by rw [e8], by rw [if_neg hb31']; rfl, (fun h => absurd rfl h), (fun h => absurd rfl h), fun p h => by cases h⟩, M.bel⟩
  ·
   have hb31' := bne_eq_false_iff_eq.1 hb31
   refine sdc A zl hb31 λa A↦?_
   refine qa (hK30 _ _ (wp_cond_false (A.ev rfl) ?_))
   refine wp_skip (hK29 _ _ (wsk fun K33 hK33 => wrl (sdm A λa A↦?_)))
   iterate 2 refine sda A λa A↦?_
   refine qa (hK33 _ _ (wp_ret (hret _ _ (en2 A rfl (qe rfl) (qe rfl) ?_))))
   have e8 : ls.take i = ls := List.take_of_length_le (by omega)
   rw [e8] at hb31'
   rw [e8] at M ⊢
   exact ⟨_, _, zu ls, 0, rfl, ⟨hb31'.symm, by rw [if_pos hb31'], xf (M.has 0 rfl), qbe (M.has 0 rfl) _, fun p hp => hp⟩, M.bel⟩
theorem rfirst_any {w : World} {so : Option Addr} {ca : Nat} {ps : List Sp} (hPs : PR w so ps) (hl : ps.length ≤ 1000000000) (hO : ∀ p ∈ ps, okT 20 p.ty = true) {t : Int} : Calls Tryz.prog 32 #[.slice so ps.length ca, .int .i64 t] w fun e w' => e = .returned (.int .i64 (fdI (ps.map Sp.k) t)) ∧ Below w.heap.size w w' := by
 have M : Mg w w ([]) := Mg.start w
 refine qm (l := [(0, .slice so ps.length ca), (1, .int .i64 t)]) Tryz.func32 rfl Tryz.ntmps32 rfl rfl ?_
 intro Q hret hnorm hP a A
 refine wsk fun K1 hK1 => wrl (sda A λa A↦?_)
 refine qa (hK1 _ _ (wsk fun K2 hK2 => wsk fun K3 hK3 => wrl (sda A λa A↦?_)))
 refine qa (hK3 _ _ (wp_block (zq (fun m_ a w1 => ∃ (i : Nat), m_ = 1 + (ps.length - i) ∧ (i ≤ ps.length ∧ ∀ (j : Nat) u, j < i → ps[j]? = some u → (fun p : Sp => kg p.ty t) u = false) ∧ Sl a 20 [(0, .slice so ps.length ca), (1, .int .i64 t), (5, .int .i64 (((i : Nat) : Int)))] ∧ Mg w w1 ([])) _ ⟨0, rfl, ⟨Nat.zero_le _, fun j u h => absurd h (Nat.not_lt_zero _)⟩, A.keep _ ⟨rfl, rfl, rfl, trivial⟩, M⟩ ?_)))
 clear M A
 rintro m_ a w4 ⟨i, rfl, hinv6, A, M⟩ K5 hK5
 obtain ⟨hi0, hin9⟩ := hinv6
 refine wsk fun K7 hK7 => wsk fun K8 hK8 => wrl ?_
 iterate 2 refine sdm A λa A↦?_
 refine sdo A (qw Tryz.underlying34 rfl) λa A↦?_
 rcases tf (decide (((i : Nat) : Int) < ((ps.length : Nat) : Int))) with hb9 | hb9
 ·
  have hb9' := of_decide_eq_true hb9
  refine sdc A qx hb9 λa A↦?_
  refine qa (hK8 _ _ (wp_cond_true (A.ev rfl) ?_))
  refine wp_skip (hK7 _ _ (wsk fun K10 hK10 => wp_block (wsk fun K11 hK11 => wrl ?_)))
  iterate 2 refine sdm A λa A↦?_
  obtain ⟨sp12, bs13, os14, is15, ms16, rs17, ls18, Hs19⟩ := hPs.at_ (i := i) (by omega)
  refine sdo (v := .pointer (some ⟨bs13, os14 + i * 2, none⟩)) A (qy (k := i) Tryz.underlying34 (by kernel_rfl) rfl rfl (by first | rfl | omega) ls18 (by omega)) λa A↦?_
  refine sdo (v := .pointer (some ⟨bs13, os14 + i * 2, none⟩)) A (qb KcL_fld_41_0 rfl rfl) λa A↦?_
  refine sdo A (jp (j := 0) M Hs19 KcL_is1_3 rfl rfl rfl) λa A↦?_
  refine sdm A λa A↦?_
  rcases tf (kg sp12.ty t) with hb20 | hb20
  ·
   refine gcl A M (ef rfl rfl) ((hb20 ▸ qle (hO _ ms16))) fun w22 hb21 M a A => ?_
   refine qa (hK11 _ _ (wp_cond_true (A.ev rfl) ?_))
   refine wsk fun K23 hK23 => wrl (sdm A λa A↦?_)
   refine sda A λa A↦?_
   refine qa (hK23 _ _ (wp_ret (hret _ _ (en1 A rfl (qe rfl) ?_))))
   exact ⟨by rw [fdI_ps, ixG_hit (p := fun p : Sp => kg p.ty t) hin9 is15 hb20], M.bel⟩
  ·
   refine gcl A M (ef rfl rfl) ((hb20 ▸ qle (hO _ ms16))) fun w25 hb24 M a A => ?_
   refine qa (hK11 _ _ (wp_cond_false (A.ev rfl) ?_))
   refine wp_skip (hK10 _ _ (wrl (sdm A λa A↦?_)))
   refine sdo (v := .int .i64 (((i + 1 : Nat) : Int))) A (qf rfl rfl (fun w => (zw (jn (by omega) (by omega)) w).trans (by rw [show (((i : Nat) : Int) + 1 : Int) = ((i + 1 : Nat) : Int) from by omega]))) λa A↦?_
   refine sda A λa A↦?_
   refine qa ?_
   replace M : Mg w w25 ([]) := by
    have h9 := M.sub (.refl _)
    exact h9
   refine hK5 _ _ _ (by omega) ⟨i + 1, rfl, ⟨by omega, fun j u hj hu => if h9 : j < i then hin9 j u h9 hu else by have h8 : j = i := (by omega); subst h8; rw [is15] at hu; rw [← Option.some.inj hu]; exact hb20⟩, A.keep _ ⟨rfl, rfl, rfl, trivial⟩, M⟩
 ·
  have hb9' := of_decide_eq_false hb9
  refine sdc A qx hb9 λa A↦?_
  refine qa (hK8 _ _ (wp_cond_false (A.ev rfl) ?_))
  refine wp_exit (hK2 _ _ (wsk fun K26 hK26 => wrl (sda A λa A↦?_)))
  refine qa (hK26 _ _ (wp_ret (hret _ _ (en1 A rfl (qe rfl) ?_))))
  exact ⟨by rw [fdI_ps, qji (p := fun p : Sp => kg p.ty t) (fun j u hj => hin9 j u (by omega))], M.bel⟩
theorem rfind_any {w : World} {so : Option Addr} {ca : Nat} {ps : List Sp} (hPs : PR w so ps) (hB4 : ∀ p ∈ ps, Tr.bulks (p.vs.map Dt.tr) ≤ 1048576) (hl : ps.length ≤ 1000000000) {t : Int} : Calls Tryz.prog 19 #[.slice so ps.length ca, .int .i64 t] w fun e w' => ∃ p2 : Sp, e = .returned (.tuple #[.agg p2.c.toArray, .int .i64 (fdS (ps.map Sp.k) t).2]) ∧ (p2.k = (fdS (ps.map Sp.k) t).1 ∧ (p2 ∈ ps ∨ p2 = zm)) ∧ Below w.heap.size w w' := by
 have M : Mg w w ([]) := Mg.start w
 refine qm (l := [(0, .slice so ps.length ca), (1, .int .i64 t)]) Tryz.func19 rfl Tryz.ntmps19 rfl rfl ?_
 intro Q hret hnorm hP a A
 refine wsk fun K1 hK1 => wrl (zn (vs := zm.c) (t := 41) A M rfl rfl rfl pg (qr (z := .agg zm.c.toArray) (by kernel_rfl) rfl) (by decide) ?_)
 intro g2 w3 M a A
 refine sda A λa A↦?_
 refine qa (hK1 _ _ (wsk fun K4 hK4 => wrl (sdm A λa A↦?_)))
 refine gcl A M (ef rfl rfl) (qcb (hPs.below M.bel) hB4 hl) fun w6 hb5 M a A => ?_
 refine sda A λa A↦?_
 refine qa (hK4 _ _ (wsk fun K7 hK7 => wsk fun K8 hK8 => wrl (sdm A λa A↦?_)))
 rcases tf ((ckC (ps.map Sp.k) != 0)) with hb9 | hb9
 ·
  have hb9' := bne_iff_ne.1 hb9
  refine sdc A zl hb9 λa A↦?_
  refine qa (hK8 _ _ (wp_cond_true (A.ev rfl) ?_))
  refine wsk fun K10 hK10 => wrl (sdo (v := .agg zm.c.toArray) A (qp rfl (fun w => by kernel_rfl)) λa A↦?_)
  refine sdm A λa A↦?_
  refine zf (us := zm.c) (L' := (.obj g2 (.cells zm.c.toArray 41) :: [])) A M rfl rfl (qn rfl rfl rfl (by kernel_rfl) M 0 rfl rfl rfl) 0 rfl rfl rfl ?_
  intro w11 M
  refine sda A λa A↦?_
  refine qa (hK10 _ _ (wp_ret (hret _ _ (en2 A rfl (zv M KcL_isS_41 rfl 0 rfl (cs := [.int .i64 0, .slice none 0 0]) rfl rfl) (qe rfl) ?_))))
  exact ⟨zm, by rw [qkc hb9'] <;> rfl, ⟨by rw [qkc hb9'] <;> rfl, .inr rfl⟩, M.bel⟩
 ·
  have hb9' := bne_eq_false_iff_eq.1 hb9
  refine sdc A zl hb9 λa A↦?_
  refine qa (hK8 _ _ (wp_cond_false (A.ev rfl) ?_))
  refine wp_skip (hK7 _ _ (wsk fun K12 hK12 => wsk fun K13 hK13 => wrl (sdm A λa A↦?_)))
  rcases tf (okT 20 t) with hb14 | hb14
  ·
   have hn16 : decide ((kat t).nm = ⟨#[]⟩) = false := decide_eq_false (nm_ne hb14)
   refine gcl A M (ef rfl rfl) (qfg) fun w17 hb15 M a A => ?_
   refine sdo (v := .bool false) A (qf rfl rfl (fun w => (ka Tryz.underlying9 w).trans (by rw [hn16] <;> rfl))) λa A↦?_
   refine qa (hK13 _ _ (wp_cond_false (A.ev rfl) ?_))
   refine wp_skip (hK12 _ _ (wsk fun K19 hK19 => wrl ?_))
   iterate 2 refine sdm A λa A↦?_
   refine gcl A M (ef rfl rfl) (rfirst_any (hPs.below M.bel) hl (qgc (show ckC (ps.map Sp.k) = 0 by omega))) fun w21 hb20 M a A => ?_
   refine sda A λa A↦?_
   refine qa (hK19 _ _ (wsk fun K22 hK22 => wsk fun K23 hK23 => wrl (sdm A λa A↦?_)))
   rcases tf (decide (fdI (ps.map Sp.k) t < 0)) with hb24 | hb24
   ·
    have hb24' := of_decide_eq_true hb24
    refine sdc A qx hb24 λa A↦?_
    refine qa (hK23 _ _ (wp_cond_true (A.ev rfl) ?_))
    refine wsk fun K25 hK25 => wrl (sdo (v := .agg zm.c.toArray) A (qp rfl (fun w => by kernel_rfl)) λa A↦?_)
    refine zf (us := zm.c) (L' := (.obj g2 (.cells zm.c.toArray 41) :: [])) A M rfl rfl (qn rfl rfl rfl (by kernel_rfl) M 0 rfl rfl rfl) 0 rfl rfl rfl ?_
    intro w26 M
    refine sda A λa A↦?_
    refine qa (hK25 _ _ (wp_ret (hret _ _ (en2 A rfl (zv M KcL_isS_41 rfl 0 rfl (cs := [.int .i64 0, .slice none 0 0]) rfl rfl) (qe rfl) ?_))))
    exact ⟨zm, by rw [ut (show ckC (ps.map Sp.k) = 0 by omega) hb14 (by omega)] <;> rfl, ⟨by rw [ut (show ckC (ps.map Sp.k) = 0 by omega) hb14 (by omega)] <;> rfl, .inr rfl⟩, M.bel⟩
   ·
    have hb24' := of_decide_eq_false hb24
    refine sdc A qx hb24 λa A↦?_
    refine qa (hK23 _ _ (wp_cond_false (A.ev rfl) ?_))
    refine wp_skip (hK22 _ _ (wsk fun K27 hK27 => wrl ?_))
    iterate 2 refine sdm A λa A↦?_
    have hlt9 := ixG_lt (fun k : Int × List Tr => kg k.1 t) (ps.map Sp.k)
    rw [List.length_map] at hlt9
    replace hlt9 : -1 ≤ fdI (ps.map Sp.k) t ∧ fdI (ps.map Sp.k) t < ((ps.length : Nat) : Int) := hlt9
    obtain ⟨x9, bx9, ox9, ix9, mx9, rx9, lx9, Hx9⟩ := hPs.at_ (i := (fdI (ps.map Sp.k) t).toNat) (by omega)
    refine sdo (v := .pointer (some ⟨bx9, ox9 + (fdI (ps.map Sp.k) t).toNat * 2, none⟩)) A (qy (k := (fdI (ps.map Sp.k) t).toNat) Tryz.underlying34 (by kernel_rfl) rfl rfl (by first | rfl | omega) lx9 (by omega)) λa A↦?_
    refine sdo (v := .agg x9.c.toArray) A (jr M Hx9 KcL_isS_41 rfl rfl) λa A↦?_
    refine zf (us := x9.c) (L' := (.obj g2 (.cells x9.c.toArray 41) :: [])) A M rfl rfl (qn rfl rfl rfl (by kernel_rfl) M 0 rfl rfl rfl) 0 rfl rfl rfl ?_
    intro w28 M
    refine sda A λa A↦?_
    refine qa (hK27 _ _ (wp_ret (hret _ _ (en2 A rfl (zv M KcL_isS_41 rfl 0 rfl (cs := [.int .i64 x9.ty, .slice x9.vo x9.vs.length x9.vc]) rfl rfl) (qe rfl) ?_))))
    exact ⟨x9, by rw [qdc (show ckC (ps.map Sp.k) = 0 by omega) hb14 (by omega) (ve ix9)] <;> rfl, ⟨by rw [qdc (show ckC (ps.map Sp.k) = 0 by omega) hb14 (by omega) (ve ix9)], .inl mx9⟩, M.bel⟩
  ·
   refine gcl A M (ef rfl rfl) (rname_f hb14) fun w30 hb29 M a A => ?_
   refine sdo (v := .bool true) A (qf rfl rfl (fun w => (ka Tryz.underlying9 w).trans (by rw [decide_eq_true rfl] <;> rfl))) λa A↦?_
   refine qa (hK13 _ _ (wp_cond_true (A.ev rfl) ?_))
   refine wsk fun K31 hK31 => wrl (sdo (v := .agg zm.c.toArray) A (qp rfl (fun w => by kernel_rfl)) λa A↦?_)
   refine zf (us := zm.c) (L' := (.obj g2 (.cells zm.c.toArray 41) :: [])) A M rfl rfl (qn rfl rfl rfl (by kernel_rfl) M 0 rfl rfl rfl) 0 rfl rfl rfl ?_
   intro w32 M
   refine sda A λa A↦?_
   refine qa (hK31 _ _ (wp_ret (hret _ _ (en2 A rfl (zv M KcL_isS_41 rfl 0 rfl (cs := [.int .i64 0, .slice none 0 0]) rfl rfl) (qe rfl) ?_))))
   exact ⟨zm, by rw [fdS_t (show ckC (ps.map Sp.k) = 0 by omega) hb14] <;> rfl, ⟨by rw [fdS_t (show ckC (ps.map Sp.k) = 0 by omega) hb14] <;> rfl, .inr rfl⟩, M.bel⟩
theorem key_at {xs ys : List Sp} (h : xs.map Sp.k = ys.map Sp.k) {i : Nat} {p q : Sp} (hp : xs[i]? = some p) (hq : ys[i]? = some q) : p.k = q.k := by
 have h1 := ve hp
 rw [h, ve hq] at h1
 exact (Option.some.inj h1).symm
theorem yj {w : World} {sa sb : Option Addr} {ca cb : Nat} {xs ys : List Sp} (hPa : PR w sa xs) (hPb : PR w sb ys) (he : xs.map Sp.k = ys.map Sp.k) (hBl : ∀ p ∈ xs, p.vs.length ≤ 1000000000) (hl : xs.length ≤ 1000000000) : Calls Tryz.prog 17 #[.slice sa xs.length ca, .slice sb ys.length cb] w fun e w' => e = .returned (.bool true) ∧ Below w.heap.size w w' := by
 have hel : xs.length = ys.length := by have := congrArg List.length he; simpa using this
 have M : Mg w w ([]) := Mg.start w
 refine qm (l := [(0, .slice sa xs.length ca), (1, .slice sb ys.length cb)]) Tryz.func17 rfl Tryz.ntmps17 rfl rfl ?_
 intro Q hret hnorm hP a A
 refine wsk fun K1 hK1 => wrl (sda A λa A↦?_)
 refine qa (hK1 _ _ (wsk fun K2 hK2 => wsk fun K3 hK3 => wrl (sdm A λa A↦?_)))
 refine sdo A (qw Tryz.underlying34 rfl) λa A↦?_
 refine sdm A λa A↦?_
 refine sdo A (qw Tryz.underlying34 rfl) λa A↦?_
 refine sdo (v := .bool false) A (qf rfl rfl (fun w => (zl w).trans (by rw [show ((((xs.length : Nat) : Int) != ((ys.length : Nat) : Int))) = false from (bne_eq_false_iff_eq.2 (by omega))]))) λa A↦?_
 refine qa (hK3 _ _ (wp_cond_false (A.ev rfl) ?_))
 refine wp_skip (hK2 _ _ (wsk fun K4 hK4 => wsk fun K5 hK5 => wrl (sda A λa A↦?_)))
 refine qa (hK5 _ _ (wp_block (zq (fun m_ a w1 => ∃ (i : Nat), m_ = 1 + (xs.length - i) ∧ (i ≤ xs.length) ∧ Sl a 42 [(0, .slice sa xs.length ca), (1, .slice sb ys.length cb), (5, .int .i64 (((i : Nat) : Int))), (6, .slice sa xs.length ca), (7, .int .i64 (((xs.length : Nat) : Int))), (8, .slice sb ys.length cb), (9, .int .i64 (((ys.length : Nat) : Int))), (10, .bool false)] ∧ Mg w w1 ([])) _ ⟨0, rfl, Nat.zero_le _, A.keep _ (by repeat' constructor), M⟩ ?_)))
 clear M A
 rintro m_ a w6 ⟨i, rfl, hinv8, A, M⟩ K7 hK7
 have hi0 := hinv8
 refine wsk fun K9 hK9 => wsk fun K10 hK10 => wrl ?_
 iterate 2 refine sdm A λa A↦?_
 refine sdo A (qw Tryz.underlying34 rfl) λa A↦?_
 rcases tf (decide (((i : Nat) : Int) < ((xs.length : Nat) : Int))) with hb11 | hb11
 ·
  have hb11' := of_decide_eq_true hb11
  refine sdc A qx hb11 λa A↦?_
  refine qa (hK10 _ _ (wp_cond_true (A.ev rfl) ?_))
  refine wp_skip (hK9 _ _ (wsk fun K12 hK12 => wp_block (wsk fun K13 hK13 => xj (S := fun w1 => Mg w w1 ([])) (by kernel_rfl) ?_)))
  replace M := M.drew
  refine qg A 0 rfl rfl rfl rfl hP (M.sub (List.nil_sublist _)) (fun w1 M => qz rfl) λa A↦?_
  refine qg A 1 rfl rfl rfl rfl hP (M.sub (List.nil_sublist _)) (fun w1 M => qz rfl) λa A↦?_
  obtain ⟨sp14, bs15, os16, is17, ms18, rs19, ls20, Hs21⟩ := hPa.at_ (i := i) (by omega)
  refine qg (v := .pointer (some ⟨bs15, os16 + i * 2, none⟩)) A 2 rfl rfl rfl rfl hP (M.sub (List.nil_sublist _)) (fun w1 M => qy (k := i) Tryz.underlying34 (by kernel_rfl) rfl rfl (by first | rfl | omega) ls20 (by omega)) λa A↦?_
  refine qg (v := .pointer (some ⟨bs15, os16 + i * 2, none⟩)) A 3 rfl rfl rfl rfl hP (M.sub (List.nil_sublist _)) (fun w1 M => qb KcL_fld_41_0 rfl rfl) λa A↦?_
  refine qg A 4 rfl rfl rfl rfl hP (M.sub (List.nil_sublist _)) (fun w1 M => jp (j := 0) M Hs21 KcL_is1_3 rfl rfl rfl) λa A↦?_
  refine qg A 5 rfl rfl rfl rfl hP (M.sub (List.nil_sublist _)) (fun w1 M => qz rfl) λa A↦?_
  refine qg A 6 rfl rfl rfl rfl hP (M.sub (List.nil_sublist _)) (fun w1 M => qz rfl) λa A↦?_
  obtain ⟨sp22, bs23, os24, is25, ms26, rs27, ls28, Hs29⟩ := hPb.at_ (i := i) (by omega)
  refine qg (v := .pointer (some ⟨bs23, os24 + i * 2, none⟩)) A 7 rfl rfl rfl rfl hP (M.sub (List.nil_sublist _)) (fun w1 M => qy (k := i) Tryz.underlying34 (by kernel_rfl) rfl rfl (by first | rfl | omega) ls28 (by omega)) λa A↦?_
  refine qg (v := .pointer (some ⟨bs23, os24 + i * 2, none⟩)) A 8 rfl rfl rfl rfl hP (M.sub (List.nil_sublist _)) (fun w1 M => qb KcL_fld_41_0 rfl rfl) λa A↦?_
  refine qg A 9 rfl rfl rfl rfl hP (M.sub (List.nil_sublist _)) (fun w1 M => jp (j := 0) M Hs29 KcL_is1_3 rfl rfl rfl) λa A↦?_
  refine qg (v := .bool false) A 10 rfl rfl rfl rfl hP (M.sub (List.nil_sublist _)) (fun w1 M => qf rfl rfl (fun w => (zl w).trans (by rw [show ((sp14.ty != sp22.ty)) = false from (bne_eq_false_iff_eq.2 (congrArg Prod.fst (key_at he is17 is25)))]))) λa A↦?_
  refine qg A 11 rfl rfl rfl rfl hP (M.sub (List.nil_sublist _)) (fun w1 M => qz rfl) λa A↦?_
  refine qg A 12 rfl rfl rfl rfl hP (M.sub (List.nil_sublist _)) (fun w1 M => qz rfl) λa A↦?_
  refine qg A 13 rfl rfl rfl rfl hP (M.sub (List.nil_sublist _)) (fun w1 M => qz rfl) λa A↦?_
  refine qg (v := .pointer (some ⟨bs15, os16 + i * 2, none⟩)) A 14 rfl rfl rfl rfl hP (M.sub (List.nil_sublist _)) (fun w1 M => qy (k := i) Tryz.underlying34 (by kernel_rfl) rfl rfl (by first | rfl | omega) ls20 (by omega)) λa A↦?_
  refine qg (v := .pointer (some ⟨bs15, os16 + i * 2 + 1, none⟩)) A 15 rfl rfl rfl rfl hP (M.sub (List.nil_sublist _)) (fun w1 M => qb KcL_fld_41_1 rfl rfl) λa A↦?_
  refine qg A 16 rfl rfl rfl rfl hP (M.sub (List.nil_sublist _)) (fun w1 M => jp (j := 1) M Hs21 KcL_is1_39 rfl rfl rfl) λa A↦?_
  refine qg A 17 rfl rfl rfl rfl hP (M.sub (List.nil_sublist _)) (fun w1 M => qz rfl) λa A↦?_
  refine qg A 18 rfl rfl rfl rfl hP (M.sub (List.nil_sublist _)) (fun w1 M => qz rfl) λa A↦?_
  refine qg (v := .pointer (some ⟨bs23, os24 + i * 2, none⟩)) A 19 rfl rfl rfl rfl hP (M.sub (List.nil_sublist _)) (fun w1 M => qy (k := i) Tryz.underlying34 (by kernel_rfl) rfl rfl (by first | rfl | omega) ls28 (by omega)) λa A↦?_
  refine qg (v := .pointer (some ⟨bs23, os24 + i * 2 + 1, none⟩)) A 20 rfl rfl rfl rfl hP (M.sub (List.nil_sublist _)) (fun w1 M => qb KcL_fld_41_1 rfl rfl) λa A↦?_
  refine qg A 21 rfl rfl rfl rfl hP (M.sub (List.nil_sublist _)) (fun w1 M => jp (j := 1) M Hs29 KcL_is1_39 rfl rfl rfl) λa A↦?_
  refine zx (by kernel_rfl) (jc A 22 rfl rfl rfl rfl (zk rfl rfl (fun w => by kernel_rfl)) (sameAll_any (rs19.v.below M.bel) (fun t ht => Dt.keep M.bel _ (rs19.d t ht)) (rs27.v.below M.bel) (fun t ht => Dt.keep M.bel _ (rs27.d t ht)) (congrArg Prod.snd (key_at he is17 is25)) (hBl _ ms18)) ?_)
  rintro _ w31 ⟨rfl, hb30⟩
  replace M := M.call hb30
  refine ⟨_, rfl, (M.sub (List.nil_sublist _)), ?_⟩
  intro a A
  refine qg (v := .bool false) A 23 rfl rfl rfl rfl hP (M.sub (List.nil_sublist _)) (fun w1 M => za rfl zj) λa A↦?_
  refine qg (v := .bool false) A 24 rfl rfl rfl rfl hP (M.sub (List.nil_sublist _)) (fun w1 M => xt rfl rfl rfl rfl) λa A↦?_
  refine ju (by kernel_rfl) ?_
  refine hK13 _ _ (wp_cond_false (A.ev rfl) ?_)
  refine wp_skip (hK12 _ _ (wrl (sdm A λa A↦?_)))
  refine sdo (v := .int .i64 (((i + 1 : Nat) : Int))) A (qf rfl rfl (fun w => (zw (jn (by omega) (by omega)) w).trans (by rw [show (((i : Nat) : Int) + 1 : Int) = ((i + 1 : Nat) : Int) from by omega]))) λa A↦?_
  refine sda A λa A↦?_
  refine qa ?_
  replace M : Mg w w31 ([]) := by
   have h9 := M.sub (.refl _)
   exact h9
  refine hK7 _ _ _ (by omega) ⟨i + 1, rfl, by omega, A.keep _ (by repeat' constructor), M⟩
 ·
  have hb11' := of_decide_eq_false hb11
  refine sdc A qx hb11 λa A↦?_
  refine qa (hK10 _ _ (wp_cond_false (A.ev rfl) ?_))
  refine wp_exit (hK4 _ _ (wsk fun K32 hK32 => wrl (sda A λa A↦?_)))
  refine qa (hK32 _ _ (wp_ret (hret _ _ (en1 A rfl (qe rfl) ?_))))
  exact ⟨rfl, M.bel⟩
theorem KcM_is1_34 : Is1 Tryz.prog 34 := ⟨⟨_, Tryz.underlying34, rfl⟩, by kernel_rfl⟩
theorem KcM_isS_41 : IsS Tryz.prog 41 2 := ⟨⟨_, Tryz.underlying41⟩, by kernel_rfl⟩
theorem rc_made {w w' : World} {so : Option Addr} {ps : List Sp} (h : Rc w' so (zp Sp.c ps)) (hi : In (w.heap.size ≤ ·) so ps) : ∀ w1 w2, Mg w1 w2 (made w w') → Rc w2 so (zp Sp.c ps) := fun w1 w2 M => rc_seen h (fun hne => hi (fun e => hne (by rw [e]; rfl))) (kt M)
theorem allP_one {ls : List Cn} {c : Cn} (h : c ∈ ls) : c.ps.length ≤ (zu ls).length := by
 obtain ⟨a, b, rfl⟩ := List.append_of_mem h
 unfold zu
 rw [List.flatMap_append, List.flatMap_cons, List.length_append, List.length_append]
 omega
theorem keys_in {ps : List Sp} {K : List (Int × List Tr)} (h : ps.map Sp.k = if ckC K = 0 then K else []) {p : Sp} (hp : p ∈ ps) : p.k ∈ K := by
 have h9 : p.k ∈ ps.map Sp.k := List.mem_map_of_mem hp
 rw [h] at h9
 split at h9
 ·
  exact h9
 ·
  cases h9
theorem keys_len {ps : List Sp} {K : List (Int × List Tr)} (h : ps.map Sp.k = if ckC K = 0 then K else []) : ps.length ≤ K.length := by
 have h9 := congrArg List.length h
 rw [List.length_map] at h9
 rw [h9]
 split
 ·
  exact Nat.le_refl _
 ·
  exact Nat.zero_le _
set_option maxHeartbeats 2000000 in
theorem condParts_any {w : World} {lo : Option Addr} {lc : Nat} {ls : List Cn} (hC : CR w lo ls) (hB4 : ∀ p ∈ zu ls, Tr.bulks (p.vs.map Dt.tr) ≤ 1048576) (hll : ls.length ≤ 1048576) (hal : (zu ls).length ≤ 1048576) (hT : Tabs8 w) {t : Int} : Calls Tryz.prog 4 #[.slice lo ls.length lc, .int .i64 t] w fun e w' => e = .returned (.bool true) ∧ Below w.heap.size w w' := by
 have hW : ∀ p ∈ zu ls, SpR w p := fun p hp => (by obtain ⟨c, hc, hp⟩ := uu hp; exact (hC.own c hc).own p hp)
 have hln : ∀ c ∈ ls, c.ps.length ≤ 900000000 := fun c hc => Nat.le_trans (allP_one hc) (by omega)
 have M : Mg w w ([]) := Mg.start w
 refine qm (l := [(0, .slice lo ls.length lc), (1, .int .i64 t)]) Tryz.func4 rfl Tryz.ntmps4 rfl rfl ?_
 intro Q hret hnorm hP a A
 refine wsk fun K1 hK1 => wrl (sda A λa A↦?_)
 refine qa (hK1 _ _ (wsk fun K2 hK2 => wrl (sdm A λa A↦?_)))
 refine sct A (ef rfl rfl) (join_any (hC.below M.bel) (fun p hp => Nat.le_trans (hB4 p hp) (by decide)) (by omega) hln (hT.below M.bel)) ?_
 rintro _ w4 ⟨so5, ca5, cs, ev5, rfl, ⟨hev, hck, hPc, hIc, hAc⟩, hb3⟩
 have hLcs := pr_made hPc hIc hAc
 replace M : Mg w w4 ((made w w4 ++ [])) := M.freezeAt 0 (qs zd) hb3
 refine ⟨_, rfl, ?_⟩
 intro a A
 refine sdm A λa A↦?_
 iterate 2 refine sdo A (qt (vs := [.slice so5 cs.length ca5, .int .i64 ev5]) rfl rfl) λa A↦?_
 iterate 2 refine sda A λa A↦?_
 refine qa (hK2 _ _ (wsk fun K5 hK5 => wrl (sdm A λa A↦?_)))
 refine sct A (ef rfl rfl) (rjoin_any (hC.below M.bel) hB4 (by omega) hal hln) ?_
 rintro _ w7 ⟨so6, ca6, ds, ev6, rfl, ⟨hev6, hck6, hRd, hId, hDd⟩, hb6⟩
 have hLds := rc_made hRd hId
 replace M : Mg w w7 ((made w4 w7 ++ (made w w4 ++ []))) := M.freezeAt 0 (jg js (qs zd)) hb6
 refine ⟨_, rfl, ?_⟩
 intro a A
 refine sdm A λa A↦?_
 iterate 2 refine sdo A (qt (vs := [.slice so6 ds.length ca6, .int .i64 ev6]) rfl rfl) λa A↦?_
 iterate 2 refine sda A λa A↦?_
 refine qa (hK5 _ _ (wsk fun K8 hK8 => wsk fun K9 hK9 => wrl (sct A (ef rfl rfl) (awake_any (hT.below M.bel)) ?_)))
 rintro _ w11 ⟨rfl, hb10⟩
 replace M := M.call hb10
 refine ⟨_, rfl, ?_⟩
 intro a A
 refine sdo (v := .bool false) A (za rfl zj) λa A↦?_
 iterate 3 refine sdm A λa A↦?_
 have hkb : ∀ p ∈ cs, p.vs.length ≤ 1000000000 := fun p hp => by
  obtain ⟨q, hq, e⟩ := List.mem_map.1 (keys_in hck hp)
  have h8 := hB4 q hq
  have h7 := vu p.vs
  have h6 : p.vs.map Dt.tr = q.vs.map Dt.tr := (congrArg Prod.snd e).symm
  rw [h6] at h7
  omega
 have hkl := keys_len hck
 rw [List.length_map] at hkl
 refine gcl A M (ef rfl rfl) (yj (hLcs _ _ ((M.dropn 0).sub ((List.sublist_append_left _ _).trans (List.sublist_append_right _ _)))) ⟨hLds _ _ ((M.dropn 0).sub (List.sublist_append_left _ _)), fun p hp => (hW p (hDd p hp)).below M.bel⟩ (hck.trans hck6.symm) hkb (by omega)) fun w13 hb12 M a A => ?_
 refine sdo (v := .bool false) A (za rfl zj) λa A↦?_
 refine sdk (v := .bool false) A λa A↦?_
 iterate 3 refine sdm A λa A↦?_
 refine sdo (v := .bool false) A (qf rfl rfl (fun w => (zl w).trans (by rw [show ((ev5 != ev6)) = false from (bne_eq_false_iff_eq.2 (hev.trans hev6.symm))]))) λa A↦?_
 refine sdk (v := .bool false) A λa A↦?_
 refine qa (hK9 _ _ (wp_cond_false (A.ev rfl) ?_))
 refine wp_skip (hK8 _ _ (wsk fun K14 hK14 => wsk fun K15 hK15 => wrl (sda A λa A↦?_)))
 refine qa (hK15 _ _ (wp_block ?_))
 replace M : Mg w w13 [] := M.sub (List.nil_sublist _)
 refine zq (fun m_ a w1 => ∃ (i : Nat), m_ = 1 + (ls.length - i) ∧ (i ≤ ls.length) ∧ Sl a 85 [(0, .slice lo ls.length lc), (1, .int .i64 t), (5, .slice so5 cs.length ca5), (6, .int .i64 ev5), (7, .slice so6 ds.length ca6), (8, .int .i64 ev6), (9, .int .i64 (((i : Nat) : Int))), (14, .tuple #[.slice so5 cs.length ca5, .int .i64 ev5]), (15, .slice lo ls.length lc), (16, .tuple #[.slice so5 cs.length ca5, .int .i64 ev5]), (17, .slice so5 cs.length ca5), (18, .int .i64 ev5), (19, .tuple #[.slice so6 ds.length ca6, .int .i64 ev6]), (20, .slice lo ls.length lc), (21, .tuple #[.slice so6 ds.length ca6, .int .i64 ev6]), (22, .slice so6 ds.length ca6), (23, .int .i64 ev6), (24, .bool true), (25, .bool false), (26, .bool false), (27, .slice so5 cs.length ca5), (28, .slice so6 ds.length ca6), (29, .bool true), (30, .bool false), (31, .bool false), (32, .bool false), (33, .int .i64 ev5), (34, .int .i64 ev6), (35, .bool false), (36, .bool false)] ∧ Mg w w1 ([])) _ ⟨0, rfl, Nat.zero_le _, A.keep _ (by repeat' constructor), M⟩ ?_
 clear M A
 rintro m_ a w16 ⟨i, rfl, hinv18, A, M⟩ K17 hK17
 have hi0 := hinv18
 refine wsk fun K19 hK19 => wsk fun K20 hK20 => wrl ?_
 iterate 2 refine sdm A λa A↦?_
 refine sdo A (qw Tryz.underlying33 rfl) λa A↦?_
 rcases tf (decide (((i : Nat) : Int) < ((ls.length : Nat) : Int))) with hb21 | hb21
 ·
  have hb21' := of_decide_eq_true hb21
  refine sdc A qx hb21 λa A↦?_
  refine qa (hK20 _ _ (wp_cond_true (A.ev rfl) ?_))
  refine wp_skip (hK19 _ _ (wsk fun K22 hK22 => wp_block (wsk fun K23 hK23 => wrl ?_)))
  iterate 2 refine sdm A λa A↦?_
  obtain ⟨cn24, bc25, oc26, ic27, mc28, rc29, lc30, Hc31⟩ := hC.at_ (i := i) (by omega)
  have hcl := hln cn24 mc28
  have hB4c : ∀ p ∈ cn24.ps, Tr.bulks (p.vs.map Dt.tr) ≤ 1048576 := fun p hp => hB4 p (List.mem_flatMap.2 ⟨_, mc28, hp⟩)
  refine sdo (v := .pointer (some ⟨bc25, oc26 + i * 1, none⟩)) A (qy (k := i) Tryz.underlying33 (by kernel_rfl) rfl rfl (by first | rfl | omega) lc30 (by omega)) λa A↦?_
  refine sdo A (jp (j := 0) M Hc31 KcM_is1_34 rfl rfl rfl) λa A↦?_
  refine sdm A λa A↦?_
  refine sct A (ef rfl rfl) (find_any (ps := cn24.ps) (rc29.below M.bel) (fun p hp => Nat.le_trans (hB4c p hp) (by decide)) (by omega) (hT.below M.bel)) ?_
  rintro _ w33 ⟨x1, rfl, ⟨hkx1, hrx1, hax1⟩, hb32⟩
  have hLx1 := sp_made hrx1 hax1
  replace M : Mg w w33 ((made w16 w33 ++ [])) := M.freezeAt 0 (qs zd) hb32
  refine ⟨_, rfl, ?_⟩
  intro a A
  refine sdm A λa A↦?_
  iterate 2 refine sdo A (qt (vs := [.agg x1.c.toArray, .int .i64 ((fdS (cn24.ps.map Sp.k) t).2)]) rfl rfl) λa A↦?_
  refine zn (vs := zm.c) (t := 41) A M rfl rfl rfl pg (qr (z := .agg zm.c.toArray) (by kernel_rfl) rfl) (by decide) ?_
  intro g34 w35 M a A
  refine zf (us := x1.c) (L' := (.obj g34 (.cells x1.c.toArray 41) :: (made w16 w33 ++ []))) A M rfl rfl (qn rfl rfl rfl (by kernel_rfl) M 0 rfl rfl rfl) 0 rfl rfl rfl ?_
  intro w36 M
  refine sda A λa A↦?_
  refine qa (hK23 _ _ (wsk fun K37 hK37 => wrl ?_))
  iterate 2 refine sdm A λa A↦?_
  refine sdo (v := .pointer (some ⟨bc25, oc26 + i * 1, none⟩)) A (qy (k := i) Tryz.underlying33 (by kernel_rfl) rfl rfl (by first | rfl | omega) lc30 (by omega)) λa A↦?_
  refine sdo A (jp (j := 0) M Hc31 KcM_is1_34 rfl rfl rfl) λa A↦?_
  refine sdm A λa A↦?_
  refine sct A (ef rfl rfl) (rfind_any (ps := cn24.ps) (rc29.below M.bel) hB4c (by omega)) ?_
  rintro _ w39 ⟨y1, rfl, ⟨hky1, hry1⟩, hb38⟩
  replace M := M.call hb38
  refine ⟨_, rfl, ?_⟩
  intro a A
  refine sdm A λa A↦?_
  iterate 2 refine sdo A (qt (vs := [.agg y1.c.toArray, .int .i64 ((fdS (cn24.ps.map Sp.k) t).2)]) rfl rfl) λa A↦?_
  refine zn (vs := zm.c) (t := 41) A M rfl rfl rfl pg (qr (z := .agg zm.c.toArray) (by kernel_rfl) rfl) (by decide) ?_
  intro g40 w41 M a A
  refine zf (us := y1.c) (L' := (.obj g40 (.cells y1.c.toArray 41) :: .obj g34 (.cells x1.c.toArray 41) :: (made w16 w33 ++ []))) A M rfl rfl (qn rfl rfl rfl (by kernel_rfl) M 0 rfl rfl rfl) 0 rfl rfl rfl ?_
  intro w42 M
  refine sda A λa A↦?_
  refine qa (hK37 _ _ (wsk fun K43 hK43 => xj (S := fun w1 => Mg w w1 (.obj g40 (.cells y1.c.toArray 41) :: .obj g34 (.cells x1.c.toArray 41) :: [])) (by kernel_rfl) ?_))
  replace M := M.drew
  refine qg A 0 rfl rfl rfl rfl hP (M.sub (cc (cc (List.nil_sublist _)))) (fun w1 M => qz rfl) λa A↦?_
  refine qg A 1 rfl rfl rfl rfl hP (M.sub (cc (cc (List.nil_sublist _)))) (fun w1 M => qz rfl) λa A↦?_
  refine qg (v := .pointer (some ⟨bc25, oc26 + i * 1, none⟩)) A 2 rfl rfl rfl rfl hP (M.sub (cc (cc (List.nil_sublist _)))) (fun w1 M => qy (k := i) Tryz.underlying33 (by kernel_rfl) rfl rfl (by first | rfl | omega) lc30 (by omega)) λa A↦?_
  refine qg A 3 rfl rfl rfl rfl hP (M.sub (cc (cc (List.nil_sublist _)))) (fun w1 M => jp (j := 0) M Hc31 KcM_is1_34 rfl rfl rfl) λa A↦?_
  refine qg A 5 rfl rfl rfl rfl hP (M.sub (cc (cc (List.nil_sublist _)))) (fun w1 M => qz rfl) λa A↦?_
  refine qg A 6 rfl rfl rfl rfl hP (M.sub (cc (cc (List.nil_sublist _)))) (fun w1 M => qz rfl) λa A↦?_
  refine qg (v := .pointer (some ⟨bc25, oc26 + i * 1, none⟩)) A 7 rfl rfl rfl rfl hP (M.sub (cc (cc (List.nil_sublist _)))) (fun w1 M => qy (k := i) Tryz.underlying33 (by kernel_rfl) rfl rfl (by first | rfl | omega) lc30 (by omega)) λa A↦?_
  refine qg A 8 rfl rfl rfl rfl hP (M.sub (cc (cc (List.nil_sublist _)))) (fun w1 M => jp (j := 0) M Hc31 KcM_is1_34 rfl rfl rfl) λa A↦?_
  refine zx (by kernel_rfl) (jc A 4 rfl rfl rfl rfl (zk rfl rfl (fun w => by kernel_rfl)) (qag (rc29.below M.bel) (fun p hp => Nat.le_trans (hB4c p hp) (by decide)) (by omega) (hT.below M.bel)) ?_)
  rintro _ w45 ⟨rfl, hb44⟩
  replace M := M.call hb44
  refine ⟨_, rfl, (M.sub (cc (cc (List.nil_sublist _)))), ?_⟩
  intro a A
  refine zx (by kernel_rfl) (jc A 9 rfl rfl rfl rfl (zk rfl rfl (fun w => by kernel_rfl)) (qcb (rc29.below M.bel) hB4c (by omega)) ?_)
  rintro _ w47 ⟨rfl, hb46⟩
  replace M := M.call hb46
  refine ⟨_, rfl, (M.sub (cc (cc (List.nil_sublist _)))), ?_⟩
  intro a A
  refine qg (v := .bool false) A 10 rfl rfl rfl rfl hP (M.sub (cc (cc (List.nil_sublist _)))) (fun w1 M => qf rfl rfl (fun w => (zl w).trans (by rw [show ((ckC (cn24.ps.map Sp.k) != ckC (cn24.ps.map Sp.k))) = false from (bne_self_eq_false _)]))) λa A↦?_
  refine qg A 11 rfl rfl rfl rfl hP (M.sub (cc (cc (List.nil_sublist _)))) (fun w1 M => qz rfl) λa A↦?_
  refine qg A 12 rfl rfl rfl rfl hP (M.sub (cc (cc (List.nil_sublist _)))) (fun w1 M => qz rfl) λa A↦?_
  refine qg A 13 rfl rfl rfl rfl hP (M.sub (cc (cc (List.nil_sublist _)))) (fun w1 M => qz rfl) λa A↦?_
  refine qg (v := .bool false) A 14 rfl rfl rfl rfl hP (M.sub (cc (cc (List.nil_sublist _)))) (fun w1 M => qf rfl rfl (fun w => (zl w).trans (by rw [show (((fdS (cn24.ps.map Sp.k) t).2 != (fdS (cn24.ps.map Sp.k) t).2)) = false from (bne_self_eq_false _)]))) λa A↦?_
  refine qg (v := .bool false) A 15 rfl rfl rfl rfl hP (M.sub (cc (cc (List.nil_sublist _)))) (fun w1 M => xt rfl rfl rfl rfl) λa A↦?_
  refine qg A 16 rfl rfl rfl rfl hP (M.sub (cc (cc (List.nil_sublist _)))) (fun w1 M => qz rfl) λa A↦?_
  refine qg A 17 rfl rfl rfl rfl hP (M.sub (cc (cc (List.nil_sublist _)))) (fun w1 M => zi M KcM_isS_41 rfl 1 rfl (cs := x1.c) rfl rfl) λa A↦?_
  refine qg A 19 rfl rfl rfl rfl hP (M.sub (cc (cc (List.nil_sublist _)))) (fun w1 M => zi M KcM_isS_41 rfl 0 rfl (cs := y1.c) rfl rfl) λa A↦?_
  refine any_many (rs := [18, 20]) (by kernel_rfl) (by simp) ⟨?_, ?_, trivial⟩
  ·
   refine g_lit (e := 41) (sz := 2) (m := 1) (vs := zp Sp.c [x1]) A M 18 rfl rfl rfl rfl (zg rfl (by kernel_rfl)) rfl rfl (.inl (by decide)) ?_
   intro g48 w49 M
   refine ⟨(M.sub (cn (cc (cc (List.nil_sublist _))))), ?_⟩
   intro a A
   refine zx (by kernel_rfl) (g_lit (e := 41) (sz := 2) (m := 1) (vs := zp Sp.c [y1]) A M 20 rfl rfl rfl rfl (zg rfl (by kernel_rfl)) rfl rfl (.inl (by decide)) ?_)
   intro g50 w51 M
   refine ⟨(M.sub (cn (cn (cc (cc (List.nil_sublist _)))))), ?_⟩
   intro a A
   refine zx (by kernel_rfl) (jc A 21 rfl rfl rfl rfl (zk rfl rfl (fun w => by kernel_rfl)) (yj (xs := [x1]) (ys := [y1]) ⟨xf (M.has 1 rfl), fun p hp => by rw [List.mem_singleton.1 hp]; exact hLx1 _ _ ((M.dropn 4).sub (List.sublist_append_left _ _))⟩ ⟨xf (M.has 0 rfl), fun p hp => (by rw [List.mem_singleton.1 hp]; rcases hry1 with h9 | h9; exact (rc29.own _ h9).below M.bel; rw [h9]; exact qdd _)⟩ (congrArg (fun k => [k]) (hkx1.trans hky1.symm)) (fun p hp => by rw [List.mem_singleton.1 hp]; have h9 := sp_vs hkx1; have h8 := @fd_len (cn24.ps.map Sp.k) t; omega) (by show 1 ≤ _; decide)) ?_)
   rintro _ w53 ⟨rfl, hb52⟩
   replace M := M.call hb52
   refine ⟨_, rfl, (M.sub (cn (cn (cc (cc (List.nil_sublist _)))))), ?_⟩
   intro a A
   refine qg (v := .bool false) A 22 rfl rfl rfl rfl hP (M.sub (cn (cn (cc (cc (List.nil_sublist _)))))) (fun w1 M => za rfl zj) λa A↦?_
   refine qg (v := .bool false) A 23 rfl rfl rfl rfl hP (M.sub (cn (cn (cc (cc (List.nil_sublist _)))))) (fun w1 M => xt rfl rfl rfl rfl) λa A↦?_
   refine ju (by kernel_rfl) ?_
   refine hK43 _ _ (wp_cond_false (A.ev rfl) ?_)
   refine wp_skip (hK22 _ _ (wrl (sdm A λa A↦?_)))
   refine sdo (v := .int .i64 (((i + 1 : Nat) : Int))) A (qf rfl rfl (fun w => (zw (jn (by omega) (by omega)) w).trans (by rw [show (((i : Nat) : Int) + 1 : Int) = ((i + 1 : Nat) : Int) from by omega]))) λa A↦?_
   refine sda A λa A↦?_
   refine qa ?_
   replace M : Mg w w53 [] := M.sub (List.nil_sublist _)
   refine hK17 _ _ _ (by omega) ⟨i + 1, rfl, by omega, A.keep _ (by repeat' constructor), M⟩
  ·
   refine g_lit (e := 41) (sz := 2) (m := 1) (vs := zp Sp.c [y1]) A M 20 rfl rfl rfl rfl (zg rfl (by kernel_rfl)) rfl rfl (.inl (by decide)) ?_
   intro g54 w55 M
   refine ⟨(M.sub (cn (cc (cc (List.nil_sublist _))))), ?_⟩
   intro a A
   refine zx (by kernel_rfl) (g_lit (e := 41) (sz := 2) (m := 1) (vs := zp Sp.c [x1]) A M 18 rfl rfl rfl rfl (zg rfl (by kernel_rfl)) rfl rfl (.inl (by decide)) ?_)
   intro g56 w57 M
   refine ⟨(M.sub (cn (cn (cc (cc (List.nil_sublist _)))))), ?_⟩
   intro a A
   refine zx (by kernel_rfl) (jc A 21 rfl rfl rfl rfl (zk rfl rfl (fun w => by kernel_rfl)) (yj (xs := [x1]) (ys := [y1]) ⟨xf (M.has 0 rfl), fun p hp => by rw [List.mem_singleton.1 hp]; exact hLx1 _ _ ((M.dropn 4).sub (List.sublist_append_left _ _))⟩ ⟨xf (M.has 1 rfl), fun p hp => (by rw [List.mem_singleton.1 hp]; rcases hry1 with h9 | h9; exact (rc29.own _ h9).below M.bel; rw [h9]; exact qdd _)⟩ (congrArg (fun k => [k]) (hkx1.trans hky1.symm)) (fun p hp => by rw [List.mem_singleton.1 hp]; have h9 := sp_vs hkx1; have h8 := @fd_len (cn24.ps.map Sp.k) t; omega) (by show 1 ≤ _; decide)) ?_)
   rintro _ w59 ⟨rfl, hb58⟩
   replace M := M.call hb58
   refine ⟨_, rfl, (M.sub (cn (cn (cc (cc (List.nil_sublist _)))))), ?_⟩
   intro a A
   refine qg (v := .bool false) A 22 rfl rfl rfl rfl hP (M.sub (cn (cn (cc (cc (List.nil_sublist _)))))) (fun w1 M => za rfl zj) λa A↦?_
   refine qg (v := .bool false) A 23 rfl rfl rfl rfl hP (M.sub (cn (cn (cc (cc (List.nil_sublist _)))))) (fun w1 M => xt rfl rfl rfl rfl) λa A↦?_
   refine ju (by kernel_rfl) ?_
   refine hK43 _ _ (wp_cond_false (A.ev rfl) ?_)
   refine wp_skip (hK22 _ _ (wrl (sdm A λa A↦?_)))
   refine sdo (v := .int .i64 (((i + 1 : Nat) : Int))) A (qf rfl rfl (fun w => (zw (jn (by omega) (by omega)) w).trans (by rw [show (((i : Nat) : Int) + 1 : Int) = ((i + 1 : Nat) : Int) from by omega]))) λa A↦?_
   refine sda A λa A↦?_
   refine qa ?_
   replace M : Mg w w59 [] := M.sub (List.nil_sublist _)
   refine hK17 _ _ _ (by omega) ⟨i + 1, rfl, by omega, A.keep _ (by repeat' constructor), M⟩
 ·
  have hb21' := of_decide_eq_false hb21
  refine sdc A qx hb21 λa A↦?_
  refine qa (hK20 _ _ (wp_cond_false (A.ev rfl) ?_))
  refine wp_exit (hK14 _ _ (wsk fun K60 hK60 => wrl (sda A λa A↦?_)))
  refine qa (hK60 _ _ (wp_ret (hret _ _ (en1 A rfl (qe rfl) ?_))))
  exact ⟨rfl, M.bel⟩
end Go.Proofs.YtdpakekdbkpdfaaGreatDoor.G
namespace Go.Proofs.YtdpakekdbkpdfaaGreatDoor
set_option linter.unusedVariables false

section
variable {H : Type}
theorem bulk_pos (d : DataW H) : 0 < Rows.uptoBulk d := by
  unfold Rows.uptoBulk
  split <;> omega
theorem bulk_len : ∀ l : List (DataW H), l.length ≤ Rows.uptoBulkAll l
  | [] => by simp
  | d :: l => by
    have h1 := bulk_pos d
    have h2 := bulk_len l
    simp only [Rows.uptoBulkAll, List.length_cons]
    omega
theorem qmd (xs ys : List (DataW H)) : xs.length ≤ Rows.uptoBulk (.slice xs ys) := by
  have := bulk_len xs
  simp only [Rows.uptoBulk]
  omega
theorem ub {d : DataW H} : ∀ {l : List (DataW H)}, d ∈ l → Rows.uptoBulk d ≤ Rows.uptoBulkAll l
  | c :: l, h => by
    simp only [Rows.uptoBulkAll]
    rcases List.mem_cons.1 h with rfl | h
    · omega
    · have := ub h
      omega
theorem bulk_at {l : List (DataW H)} (hk : Rows.uptoSmall H l = true) {j : Nat} {d : DataW H} (hd : l[j]? = some d) : Rows.uptoBulk d ≤ 1048576 :=
  Nat.le_trans (ub (List.mem_of_getElem? hd)) (of_decide_eq_true hk)
end
end Go.Proofs.YtdpakekdbkpdfaaGreatDoor
namespace Go.Proofs.YtdpakekdbkpdfaaGreatDoor.G
open Go.ChangeShapes Go.WideShapes Go.ChangeAt Go.RowKit Go.Joins Go.Deep
set_option linter.unusedVariables false
set_option linter.unusedSimpArgs false
set_option maxRecDepth 100000

section
variable {H : Type} {enc : TypeId × Value → H} {W : World}
end
theorem bytes_row {w : World} {x : Addr} {len cap : Nat} {zs : List Int} (hl : len ≤ cap) (hz : zs.length = cap)
    (hc : ∀ i, i < zs.length → w.cell? (x.add i) = some (.int .u8 (zs.getD i 0))) (hw : ∀ n ∈ zs, (Lit.int .u8 n).wf = true) :
    ∃ l : List UInt8, l.length = len ∧ Rb w (some x) l := by
  have hbd : ∀ n ∈ zs, 0 ≤ n ∧ n < 256 := by
    intro n hn
    have := bounds_u8 (hw n hn)
    omega
  refine ⟨(zs.take len).map b8, by rw [List.length_map, List.length_take]; omega, ⟨fun hne => ?_⟩⟩
  have hlen : ((zs.take len).map b8).length = len := by rw [List.length_map, List.length_take]; omega
  have h0 : 0 < len := by
    apply Classical.byContradiction
    intro h
    have : len = 0 := by omega
    subst this
    simp at hne
  obtain ⟨b, off, spot⟩ := x
  have hspot : spot = none := by
    have := hc 0 (by omega)
    simp only [World.cell?, Addr.add] at this
    split at this
    · cases spot with
      | none => rfl
      | some s => simp at this
    · cases this
  subst hspot
  have hcj : ∀ j, j < len → w.cell? ⟨b, off + j, none⟩ = some (.int .u8 (((((zs.take len).map b8).getD j 0).toNat : Nat) : Int)) := by
    intro j hj
    have h1 := hc j (by omega)
    rw [Addr.add_lit] at h1
    rw [h1]
    have hjz : j < zs.length := by omega
    have h2 := hbd zs[j] (List.getElem_mem hjz)
    have e1 : zs.getD j 0 = zs[j] := by simp [hjz]
    have e2 : ((zs.take len).map b8).getD j 0 = b8 zs[j] := by simp [List.getD_eq_getElem?_getD, hj, hjz]
    rw [e1, e2, b8_val h2.1 h2.2]
  refine ⟨b, off, rfl, ?_, fun j hj => hcj j (by omega)⟩
  have := hcj 0 h0
  apply Classical.byContradiction
  intro h
  simp [World.cell?, Array.getElem?_eq_none (Nat.le_of_not_lt h)] at this
section
variable {H : Type} {enc : TypeId × Value → H} {W : World}
end
theorem Rb.take {w : World} {so : Option Addr} {l : List UInt8} (h : Rb w so l) (n : Nat) : Rb w so (l.take n) := by
  refine ⟨fun hne => ?_⟩
  obtain ⟨b, off, h1, h2, h3⟩ := h.pos (fun k => hne (by rw [k]; simp))
  refine ⟨b, off, h1, h2, fun j hj => ?_⟩
  rw [List.length_take] at hj
  rw [h3 j (by omega), List.getD_eq_getElem?_getD, List.getD_eq_getElem?_getD, List.getElem?_take_of_lt (by omega)]
section
variable {P : Program} {w : World} {l : List (Nat × Value)} {dst : Option Tmp} {ty : TypeId} {pos : String} {after : Array Edge} {guard : Option (Nat × Bool)}
end
def Nu.cells (y : Nu) : List Value := [.bool y.q.b1, .slice y.o1 y.q.t1.length y.c1, .slice y.o2 y.q.q1.length y.c2, .bool y.q.b2, .slice y.o3 y.q.t2.length y.c3, .slice y.o4 y.q.q2.length y.c4]
theorem cellD_lt {w : World} {b o : Nat} {v : Value} (h : w.cell? ⟨b, o, none⟩ = some v) : b < w.heap.size := by
  apply Classical.byContradiction
  intro k
  simp [World.cell?, Array.getElem?_eq_none (Nat.le_of_not_lt k)] at h
section
variable {H : Type} {enc : TypeId × Value → H} {W : World}
theorem qdi (l : List (DataW H)) : Rows.uptoBulk (.agg l) = Rows.uptoBulkAll l + 1 := by simp only [Rows.uptoBulk]
theorem trodU_bytes {fuel : Nat} {v : Value} {x : DataW H × List MemPlace} (h : DataW.trod enc Tryz.prog W 0 (fun _ => true) true fuel 51 [v] = some x) : ∃ so cap l, v = .slice so (l : List UInt8).length cap ∧ Rb W so l ∧ l.length ≤ cap ∧ cap ≤ 9223372036854775807 ∧ l.length ≤ Rows.uptoBulk x.1 := by
  rcases open_ints Tryz.underlying51 Tryz.underlying5 (by kernel_rfl) h with ⟨hcs, _⟩ | ⟨x, l, c, zs, hcs, _, hl, hm, hz, hx, hcell, hwz⟩
  · simp only [List.cons.injEq, and_true] at hcs
    subst hcs
    exact ⟨none, 0, [], rfl, ⟨fun k => absurd rfl k⟩, Nat.le_refl _, by decide, Nat.zero_le _⟩
  · simp only [List.cons.injEq, and_true] at hcs
    subst hcs
    obtain ⟨us, e, ha⟩ := bytes_row hl (by simpa using hz) hcell hwz
    subst e
    subst hx
    refine ⟨_, _, us, rfl, ha, hl, hm, ?_⟩
    simp only [if_true] at hz
    refine Nat.le_trans ?_ (qmd _ _)
    simp only [lits, List.length_map, List.length_take, List.length_drop]
    omega
theorem qhe {fuel : Nat} {v : Value} {x : DataW H × List MemPlace} (h : DataW.trod enc Tryz.prog W 0 (fun _ => true) true fuel 46 [v] = some x) : ∃ ao c l, v = .slice ao (l : List Nat).length c ∧ Arg W ao c l ∧ l.length ≤ Rows.uptoBulk x.1 := by
  rcases open_ints Tryz.underlying46 Tryz.underlying117 (by kernel_rfl) h with ⟨hcs, _⟩ | ⟨x, l, c, zs, hcs, _, hl, hm, hz, hx, hcell, hwz⟩
  · cases hcs
    exact ⟨none, 0, [], rfl, arg_nil W, Nat.zero_le _⟩
  · cases hcs
    obtain ⟨us, e, ha⟩ := arg_row hl hm (by simpa using hz) hcell hwz
    subst e
    subst hx
    refine ⟨_, _, us, rfl, ha, ?_⟩
    simp only [if_true] at hz
    refine Nat.le_trans ?_ (qmd _ _)
    simp only [lits, List.length_map, List.length_take, List.length_drop]
    omega
theorem trodU_rat {fuel : Nat} {v0 v1 v2 : Value} {x : DataW H × List MemPlace} (h : DataW.trod enc Tryz.prog W 0 (fun _ => true) true fuel 48 [v0, v1, v2] = some x) : ∃ b o1 c1 l1 o2 c2 l2, v0 = .bool b ∧ v1 = .slice o1 (l1 : List Nat).length c1 ∧ v2 = .slice o2 (l2 : List Nat).length c2 ∧ Arg W o1 c1 l1 ∧ Arg W o2 c2 l2 ∧ l1.length + l2.length ≤ Rows.uptoBulk x.1 := by
  obtain ⟨y0, y1, y2, n, hx, _, h0, h1, h2⟩ := trod_struct3 Tryz.underlying48 h
  have e0 : Tryz.prog.cellsOf 4 = 1 := by kernel_rfl
  have e1 : Tryz.prog.cellsOf 46 = 1 := by kernel_rfl
  simp only [e0, e1, List.drop_zero, List.take_succ_cons, List.take_zero, List.drop_succ_cons] at h0 h1 h2
  obtain ⟨b, rfl⟩ := trod_bool h0
  obtain ⟨o1, c1, l1, rfl, a1, k1⟩ := qhe h1
  obtain ⟨o2, c2, l2, rfl, a2, k2⟩ := qhe h2
  refine ⟨b, o1, c1, l1, o2, c2, l2, rfl, rfl, rfl, a1, a2, ?_⟩
  rw [hx, qdi]
  simp only [Rows.uptoBulkAll]
  omega
theorem trodU_num {fuel : Nat} {cs : List Value} {x : DataW H × List MemPlace} (hl : cs.length = 6) (h : DataW.trod enc Tryz.prog W 0 (fun _ => true) true fuel 50 cs = some x) :
    ∃ y : Nu, cs = y.cells ∧ y.nm W ∧ LenQ y.q ∧ y.q.t1.length + y.q.q1.length + (y.q.t2.length + y.q.q2.length) ≤ Rows.uptoBulk x.1 := by
  match cs, hl with
  | [v0, v1, v2, v3, v4, v5], _ =>
    obtain ⟨y0, y1, n, hx, _, h0, h1⟩ := trod_struct2 Tryz.underlying50 h
    have e : Tryz.prog.cellsOf 48 = 3 := by kernel_rfl
    simp only [e, List.drop_zero, List.take_succ_cons, List.take_zero, List.drop_succ_cons] at h0 h1
    obtain ⟨b1, o1, c1, l1, o2, c2, l2, rfl, rfl, rfl, a1, a2, k1⟩ := trodU_rat h0
    obtain ⟨b2, o3, c3, l3, o4, c4, l4, rfl, rfl, rfl, a3, a4, k2⟩ := trodU_rat h1
    refine ⟨⟨⟨b1, l1, l2, b2, l3, l4⟩, o1, c1, o2, c2, o3, c3, o4, c4⟩, rfl, ⟨⟨a1.rd, a1.nil, a1.caps⟩, ⟨a2.rd, a2.nil, a2.caps⟩, ⟨a3.rd, a3.nil, a3.caps⟩, ⟨a4.rd, a4.nil, a4.caps⟩⟩, ⟨a1.len, a2.len, a3.len, a4.len⟩, ?_⟩
    rw [hx, qdi]
    simp only [Rows.uptoBulkAll]
    omega
/-- One datum, as it lies in a row of cells; and a list of them. -/
def OpenD (H : Type) (enc : TypeId × Value → H) (W : World) (fuel : Nat) : Prop := ∀ (cs : List Value) (x : DataW H × List MemPlace), DataW.trod enc Tryz.prog W 0 (fun _ => true) true fuel 53 cs = some x → ∃ t : Dt, cs = t.cells ∧ t.rd W ∧ t.tr.bulk ≤ Rows.uptoBulk x.1
theorem qme {fuel : Nat} {v : Value} {x : DataW H × List MemPlace} (ih : ∀ n, n < fuel → OpenD H enc W n) (h : DataW.trod enc Tryz.prog W 0 (fun _ => true) true fuel 39 [v] = some x) :
    ∃ lo lc ts, v = .slice lo (ts : List Dt).length lc ∧ ts.length ≤ lc ∧ lc ≤ 9223372036854775807 ∧ Rt W lo ts ∧ (∀ t ∈ ts, t.rd W) ∧ Tr.bulks (ts.map Dt.tr) ≤ Rows.uptoBulk x.1 := by
  rcases DataW.trod_slice Tryz.underlying39 h with ⟨hcs, _⟩ | ⟨a, len, cap, elems, rest, n, hf, hcs, hx, _, hl, hm, hlen, hel, _, _⟩
  · simp only [List.cons.injEq, and_true] at hcs
    subst hcs
    exact ⟨none, 0, [], rfl, Nat.le_refl _, by decide, fun k => absurd rfl k, fun _ k => by simp at k, Nat.zero_le _⟩
  · simp only [List.cons.injEq, and_true] at hcs
    subst hcs
    rw [show Tryz.prog.cellsOf 53 = 11 from by kernel_rfl] at hel
    have each : ∀ i, ∃ t : Dt, i < len → t.rd W ∧ (∀ j v, t.cells[j]? = some v → W.cell? ((a.add (i * 11)).add j) = some v) ∧ ∃ y, elems[i]? = some y ∧ t.tr.bulk ≤ Rows.uptoBulk y.1 := by
      intro i
      by_cases hi : i < len
      · have h1 := hel i hi
        rw [List.getElem?_eq_getElem (by omega)] at h1
        obtain ⟨cs, h2, h3⟩ := Option.bind_eq_some_iff.1 h1
        obtain ⟨_, hlc, hcell⟩ := World.cells?_some h2
        obtain ⟨t, rfl, hr, hb⟩ := ih n (by omega) cs _ h3
        exact ⟨t, fun _ => ⟨hr, fun j v hj => by rw [hcell j (by have := (List.getElem?_eq_some_iff.1 hj).1; rw [hlc] at this; exact this)]; exact hj, _, List.getElem?_eq_getElem (by omega), hb⟩⟩
      · exact ⟨.mk ⟨0, 0, ⟨⟨false, [], [], false, [], []⟩, none, 0, none, 0, none, 0, none, 0⟩, ⟨#[]⟩, none, 0, [], none, 0⟩ [], fun k => absurd k hi⟩
    obtain ⟨F, hF⟩ := Classical.skolem.1 each
    have hget : ∀ (j : Nat) (q : Dt), ((List.range len).map F)[j]? = some q → j < len ∧ q = F j := by
      intro j q hq
      rw [List.getElem?_map] at hq
      obtain ⟨y, h1, h2⟩ := Option.map_eq_some_iff.1 hq
      obtain ⟨h3, h4⟩ := List.getElem?_eq_some_iff.1 h1
      rw [List.length_range] at h3
      rw [List.getElem_range] at h4
      subst h4
      exact ⟨h3, h2.symm⟩
    refine ⟨some a, cap, (List.range len).map F, by simp, by simpa using hl, hm, fun hne => ?_, fun t ht => ?_, ?_⟩
    · have hn : 0 < len := by
        apply Classical.byContradiction
        intro k
        exact hne (by rw [show len = 0 from by omega]; rfl)
      obtain ⟨b, off, spot⟩ := a
      have h0 := (hF 0 hn).2.1 0 _ rfl
      have hspot : spot = none := by simpa [Addr.add] using World.cell?_spot h0
      subst hspot
      refine ⟨b, off, rfl, fun i t hi => ?_⟩
      obtain ⟨hlt, rfl⟩ := hget i t hi
      have hat : ∀ j v, (F i).cells[j]? = some v → W.cell? ⟨b, off + i * 11 + j, none⟩ = some v := fun j v hj => by
        have := (hF i hlt).2.1 j v hj
        rwa [Addr.add_lit, Addr.add_lit] at this
      exact ⟨cellD_lt (hat 0 _ rfl), hat⟩
    · obtain ⟨j, hj⟩ := List.mem_iff_getElem?.1 ht
      obtain ⟨h1, rfl⟩ := hget j t hj
      exact (hF j h1).1
    · rw [hx]
      have key : ∀ m, m ≤ len → Tr.bulks (((List.range m).map F).map Dt.tr) ≤ Rows.uptoBulkAll ((elems.map (·.1)).take m) := by
        intro m
        induction m with
        | zero => intro _; simp [Tr.bulks]
        | succ m ih2 =>
          intro hm2
          have hs : ∀ (l : List Tr) (t : Tr), Tr.bulks (l ++ [t]) = Tr.bulks l + t.bulk := by
            intro l t
            induction l with
            | nil => simp [Tr.bulks]
            | cons u l ih3 => simp only [List.cons_append, Tr.bulks, ih3]; omega
          have hu : ∀ (l : List (DataW H)) (d : DataW H), Rows.uptoBulkAll (l ++ [d]) = Rows.uptoBulkAll l + Rows.uptoBulk d := by
            intro l d
            induction l with
            | nil => simp [Rows.uptoBulkAll]
            | cons u l ih3 => simp only [List.cons_append, Rows.uptoBulkAll, ih3]; omega
          obtain ⟨_, _, y, hy, hb⟩ := hF m (by omega)
          have := ih2 (by omega)
          rw [List.range_succ, List.map_append, List.map_append, List.take_add_one, List.getElem?_map, hy]
          simp only [List.map_cons, List.map_nil, Option.map_some, Option.toList_some]
          rw [hs, hu]
          omega
      have h1 := key len (Nat.le_refl _)
      rw [List.take_of_length_le (by rw [List.length_map]; omega)] at h1
      simp only [Rows.uptoBulk]
      omega
theorem open_dt : ∀ fuel, OpenD H enc W fuel := by
  intro fuel
  induction fuel using Nat.strongRecOn with
  | ind fuel ih =>
    intro cs x h
    obtain ⟨xs, n, hfu, hx, hl, hxl, hf⟩ := DataW.trod_struct Tryz.underlying53 h
    rw [show Tryz.prog.cellsOf 53 = 11 from by kernel_rfl] at hl
    match cs, hl with
    | [v0, v1, v2, v3, v4, v5, v6, v7, v8, v9, v10], _ =>
      match xs, hxl with
      | [x0, x1, x2, x3, x4, x5], _ =>
        have g0 := hf 0 _ rfl
        have g1 := hf 1 _ rfl
        have g2 := hf 2 _ rfl
        have g3 := hf 3 _ rfl
        have g4 := hf 4 _ rfl
        have g5 := hf 5 _ rfl
        have c1 : Tryz.prog.cellsOf 3 = 1 := by kernel_rfl
        have c2 : Tryz.prog.cellsOf 50 = 6 := by kernel_rfl
        have c3 : Tryz.prog.cellsOf 9 = 1 := by kernel_rfl
        have c4 : Tryz.prog.cellsOf 51 = 1 := by kernel_rfl
        have c5 : Tryz.prog.cellsOf 39 = 1 := by kernel_rfl
        simp only [c1, c2, c3, c4, c5, List.drop_zero, List.take_succ_cons, List.take_zero, List.drop_succ_cons, List.getElem?_cons_zero, List.getElem?_cons_succ] at g0 g1 g2 g3 g4 g5
        obtain ⟨k, e0, _, w0⟩ := DataW.trod_int Tryz.underlying3 g0
        obtain ⟨m, e1, _, w1⟩ := DataW.trod_int Tryz.underlying3 g1
        obtain ⟨y, e2, hy, hq, b2⟩ := trodU_num rfl g2
        obtain ⟨s, e3, hs, hsm⟩ := DataW.trod_string Tryz.underlying9 g3
        obtain ⟨ro, rc, rl, e4, hr, hrc, hrm, b4⟩ := trodU_bytes g4
        obtain ⟨lo, lc, ts, e5, hlc, hlm, hrt, hrd, b5⟩ := qme (fun n' hn' => ih n' (by omega)) g5
        have bk := bounds_i64 w0
        have bm := bounds_i64 w1
        refine ⟨.mk ⟨k, m, y, s, ro, rc, rl, lo, lc⟩ ts, ?_, ?_, ?_⟩
        · injection e0 with f0
          injection e1 with f1
          injection e3 with f3
          injection e2 with e20 g
          injection g with e21 g
          injection g with e22 g
          injection g with e23 g
          injection g with e24 g
          injection g with e25 g
          subst f0 f1 f3 e4 e5 e20 e21 e22 e23 e24 e25
          rfl
        · rw [Dt.rd_iff]
          exact ⟨⟨hy, hq, hr, hrc, hrm, bk.1, bk.2, bm.1, bm.2, hsm⟩, hlc, hlm, hrt, hrd⟩
        · rw [Dt.tr_mk, vq, hx, qdi]
          have h3 : Rows.uptoBulk x3.1 = s.size + 1 := by
            rw [hs]
            rw [show Rows.uptoBulk (DataW.lit (H := H) (.string s.data.toList)) = s.data.toList.length + 1 from by simp only [Rows.uptoBulk], Array.length_toList]
            rfl
          simp only [List.map_cons, List.map_nil, Rows.uptoBulkAll]
          have := bulk_pos x0.1
          omega
end
theorem row_ofX {w : World} {x : Addr} {vs : List Value} (hc : ∀ (i : Nat) v, vs[i]? = some v → w.cell? (x.add i) = some v) : Rc w (some x) vs := by
  intro hne
  obtain ⟨v, h0⟩ : ∃ v, vs[0]? = some v := by
    cases vs with
    | nil => exact absurd rfl hne
    | cons v t => exact ⟨v, rfl⟩
  obtain ⟨b, off, spot⟩ := x
  have hspot : spot = none := by
    have h2 := hc 0 v h0
    simp only [World.cell?, Addr.add] at h2
    split at h2
    · cases spot with
      | none => rfl
      | some s => simp at h2
    · cases h2
  subst hspot
  refine ⟨b, off, rfl, fun p u hp => ?_⟩
  have h2 := hc p u hp
  rw [Addr.add_lit] at h2
  exact h2
section
variable {H : Type} {enc : TypeId × Value → H} {W : World}
end
section
variable {H : Type} {enc : TypeId × Value → H} {W : World}
theorem sum_range_le {xs : List (DataW H)} {n : Nat} (h : n ≤ xs.length) : ((List.range n).map fun i => (xs[i]?.map Rows.uptoBulk).getD 0).sum ≤ Rows.uptoBulkAll xs := by
  have key : ∀ m, m ≤ xs.length → ((List.range m).map fun i => (xs[i]?.map Rows.uptoBulk).getD 0).sum = Rows.uptoBulkAll (xs.take m) := by
    intro m
    induction m with
    | zero => intro _; simp [Rows.uptoBulkAll]
    | succ m ih =>
      intro hm
      have hu : ∀ (l : List (DataW H)) (d : DataW H), Rows.uptoBulkAll (l ++ [d]) = Rows.uptoBulkAll l + Rows.uptoBulk d := by
        intro l d
        induction l with
        | nil => simp [Rows.uptoBulkAll]
        | cons u l ih3 => simp only [List.cons_append, Rows.uptoBulkAll, ih3]; omega
      rw [List.range_succ, List.map_append, List.sum_append, ih (by omega), List.take_add_one, List.getElem?_eq_getElem (show m < xs.length by omega)]
      simp only [List.map_cons, List.map_nil, Option.map_some, Option.toList_some, List.sum_cons, List.sum_nil, Option.getD_some, Nat.add_zero]
      rw [hu, List.getElem?_eq_getElem (show m < xs.length by omega)]
      simp
  have hmono : ∀ (l : List (DataW H)) (m : Nat), Rows.uptoBulkAll (l.take m) ≤ Rows.uptoBulkAll l := by
    intro l
    induction l with
    | nil => intro m; simp
    | cons a l ih =>
      intro m
      cases m with
      | zero => simp [Rows.uptoBulkAll]
      | succ m => simp only [List.take_succ_cons, Rows.uptoBulkAll]; have := ih m; omega
  rw [key n h]
  exact hmono xs n
/-- A slice of structs, each opened by its own law. -/
theorem open_row {α : Type} {f : α → List Value} {m : Nat} (hf : ∀ x, (f x).length = m) (hm0 : 0 < m) {tS tE : TypeId} (hu : Tryz.prog.underlying tS = some (.slice tE)) (hc : Tryz.prog.cellsOf tE = m) {P : α → Nat → Prop} (dflt : α)
    (each0 : ∀ n cs x, DataW.trod enc Tryz.prog W 0 (fun _ => true) true n tE cs = some x → ∃ a : α, cs = f a ∧ P a (Rows.uptoBulk x.1)) {fuel : Nat} {v : Value} {y : DataW H × List MemPlace} (h : DataW.trod enc Tryz.prog W 0 (fun _ => true) true fuel tS [v] = some y) :
    ∃ so cap, ∃ l : List (α × Nat), v = .slice so l.length cap ∧ Rc W so (zp f (l.map Prod.fst)) ∧ (∀ q ∈ l, P q.1 q.2) ∧ (l.map Prod.snd).sum ≤ Rows.uptoBulk y.1 ∧ l.length ≤ Rows.uptoBulk y.1 := by
  rcases DataW.trod_slice hu h with ⟨hcs, _⟩ | ⟨x, len, cap, elems, rest, n, _, hcs, hx, _, hl, hm, hlen, hel, _, _⟩
  · simp at hcs
    subst hcs
    exact ⟨none, 0, [], rfl, fun k => absurd rfl k, (fun q k => by cases k), Nat.zero_le _, Nat.zero_le _⟩
  · simp at hcs
    subst hcs
    subst hx
    have each : ∀ i, ∃ a : α, i < len → (∀ (j : Nat) v, (f a)[j]? = some v → W.cell? (x.add (i * m + j)) = some v) ∧ P a (((elems.map (·.1))[i]?.map Rows.uptoBulk).getD 0) := by
      intro i
      by_cases hi : i < len
      · have hE := hel i hi
        rw [hc] at hE
        rw [List.getElem?_eq_getElem (by omega), Option.bind_eq_some_iff] at hE
        obtain ⟨c1, hc1, hy1⟩ := hE
        obtain ⟨o, e, hr⟩ := each0 _ _ _ hy1
        obtain ⟨_, h2, h3⟩ := World.cells?_some hc1
        refine ⟨o, fun _ => ⟨fun j v hj => ?_, ?_⟩⟩
        · have hlt := (List.getElem?_eq_some_iff.1 hj).1
          rw [← e, h2] at hlt
          have h4 := h3 j hlt
          rw [e, hj] at h4
          rw [← Addr.add_add]
          exact h4
        · rw [List.getElem?_map, List.getElem?_eq_getElem (show i < elems.length by omega)]
          exact hr
      · exact ⟨dflt, fun k => absurd k hi⟩
    obtain ⟨F, hF⟩ := Classical.skolem.1 each
    have e1 : ((List.range len).map fun i => (F i, (((elems.map (·.1))[i]?.map Rows.uptoBulk).getD 0))).map Prod.fst = (List.range len).map F := by rw [List.map_map]; rfl
    have hcat : ∀ (i : Nat) v, (zp f ((List.range len).map F))[i]? = some v → W.cell? (x.add i) = some v := by
      intro i v hi
      have hlt := (List.getElem?_eq_some_iff.1 hi).1
      rw [yn hf, List.length_map, List.length_range] at hlt
      have hj : i / m < len := (Nat.div_lt_iff_lt_mul hm0).2 hlt
      have h1 : ((List.range len).map F)[i / m]? = some (F (i / m)) := by simp [hj]
      have h2 := qia hf h1
      have hd : i / m * m + i % m = i := by rw [Nat.mul_comm]; exact Nat.div_add_mod i m
      have h3 : (f (F (i / m)))[i % m]? = some v := by
        rw [← h2, List.getElem?_take, if_pos (Nat.mod_lt _ hm0), List.getElem?_drop, hd]
        exact hi
      have h4 := (hF (i / m) hj).1 (i % m) v h3
      rwa [hd] at h4
    refine ⟨some x, cap, (List.range len).map fun i => (F i, (((elems.map (·.1))[i]?.map Rows.uptoBulk).getD 0)), by simp, ?_, fun q hq => ?_, ?_, ?_⟩
    · rw [e1]
      exact row_ofX hcat
    · obtain ⟨i, hi, rfl⟩ := List.mem_map.1 hq
      exact (hF i (List.mem_range.1 hi)).2
    · rw [List.map_map]
      have := sum_range_le (xs := elems.map (·.1)) (n := len) (by rw [List.length_map]; omega)
      simp only [Rows.uptoBulk]
      refine Nat.le_trans this ?_
      omega
    · refine Nat.le_trans ?_ (qmd _ _)
      simp only [List.length_map, List.length_range]
      omega
theorem trodU_part {fuel : Nat} {cs : List Value} {x : DataW H × List MemPlace} (h : DataW.trod enc Tryz.prog W 0 (fun _ => true) true fuel 41 cs = some x) : ∃ p : Sp, cs = p.c ∧ SpR W p ∧ Tr.bulks (p.vs.map Dt.tr) ≤ Rows.uptoBulk x.1 := by
  obtain ⟨xs, n, hfu, hx, hl, hxl, hf⟩ := DataW.trod_struct Tryz.underlying41 h
  rw [show Tryz.prog.cellsOf 41 = 2 from by kernel_rfl] at hl
  match cs, hl with
  | [v0, v1], _ =>
    match xs, hxl with
    | [x0, x1], _ =>
      have g0 := hf 0 _ rfl
      have g1 := hf 1 _ rfl
      have c1 : Tryz.prog.cellsOf 3 = 1 := by kernel_rfl
      have c3 : Tryz.prog.cellsOf 39 = 1 := by kernel_rfl
      simp only [c1, c3, List.drop_zero, List.take_succ_cons, List.take_zero, List.drop_succ_cons, List.getElem?_cons_zero, List.getElem?_cons_succ] at g0 g1
      obtain ⟨z0, e0, _, _⟩ := DataW.trod_int Tryz.underlying3 g0
      obtain ⟨lo, lc, ts, e5, hlc, hlm, hrt, hrd, b5⟩ := qme (fun n' _ => open_dt n') g1
      have hbx : Rows.uptoBulk x.1 = Rows.uptoBulk x0.1 + (Rows.uptoBulk x1.1 + 0) + 1 := by
        rw [hx, qdi]
        simp only [List.map_cons, List.map_nil, Rows.uptoBulkAll]
      refine ⟨⟨z0, lo, lc, ts⟩, ?_, ⟨hrt, hrd⟩, by show Tr.bulks (ts.map Dt.tr) ≤ _; omega⟩
      injection e0 with f0
      subst f0 e5
      rfl
theorem sum_mem {α : Type} {l : List (α × Nat)} {q : α × Nat} (h : q ∈ l) : q.2 ≤ (l.map Prod.snd).sum := by
  induction l with
  | nil => cases h
  | cons a l ih =>
    rw [List.map_cons, List.sum_cons]
    rcases List.mem_cons.1 h with rfl | h
    · omega
    · have := ih h
      omega
theorem trodU_parts {fuel : Nat} {v : Value} {y : DataW H × List MemPlace} (h : DataW.trod enc Tryz.prog W 0 (fun _ => true) true fuel 34 [v] = some y) :
    ∃ so cap, ∃ ps : List Sp, v = .slice so ps.length cap ∧ PR W so ps ∧ (∀ p ∈ ps, Tr.bulks (p.vs.map Dt.tr) ≤ Rows.uptoBulk y.1) ∧ ps.length ≤ Rows.uptoBulk y.1 := by
  obtain ⟨so, cap, l, e, h1, h2, h3, h4⟩ := open_row (f := Sp.c) qfa (by decide) Tryz.underlying34 (by kernel_rfl) (P := fun p b => SpR W p ∧ Tr.bulks (p.vs.map Dt.tr) ≤ b) zm (fun n cs x hx => trodU_part hx) h
  refine ⟨so, cap, l.map Prod.fst, by rw [List.length_map]; exact e, ⟨h1, fun p hp => ?_⟩, fun p hp => ?_, by rw [List.length_map]; exact h4⟩
  · obtain ⟨q, hq, rfl⟩ := List.mem_map.1 hp
    exact (h2 q hq).1
  · obtain ⟨q, hq, rfl⟩ := List.mem_map.1 hp
    exact Nat.le_trans (h2 q hq).2 (Nat.le_trans (sum_mem hq) h3)
theorem allP_sum {l : List (Cn × Nat)} (h : ∀ q ∈ l, q.1.ps.length ≤ q.2) : (zu (l.map Prod.fst)).length ≤ (l.map Prod.snd).sum := by
  induction l with
  | nil => exact Nat.le_refl _
  | cons a l ih =>
    have h1 := ih fun q hq => h q (List.mem_cons_of_mem _ hq)
    have h2 := h a List.mem_cons_self
    unfold zu at h1 ⊢
    rw [List.map_cons, List.map_cons, List.flatMap_cons, List.length_append, List.sum_cons]
    omega
theorem open_partss {base : Nat} {v : Value} {d : DataW H} {p : List MemPlace} (hv : Value.okWide Tryz.prog W .any base 33 v) (h : DataW.Trod enc Tryz.prog W 0 (fun _ => true) true 33 v d p) :
    ∃ lo lc, ∃ ls : List Cn, v = .slice lo ls.length lc ∧ CR W lo ls ∧ (∀ p ∈ zu ls, Tr.bulks (p.vs.map Dt.tr) ≤ Rows.uptoBulk d) ∧ ls.length ≤ Rows.uptoBulk d ∧ (zu ls).length ≤ Rows.uptoBulk d := by
  obtain ⟨a, n, c, rfl⟩ := okWide_slice Tryz.underlying33 hv
  obtain ⟨fuel, hf⟩ := h
  obtain ⟨so, cap, l, e, h1, h2, h3, h4⟩ := open_row (v := .slice a n c) (f := Cn.c) cn_len (by decide) Tryz.underlying33 (by kernel_rfl) (P := fun c b => PR W c.so c.ps ∧ (∀ p ∈ c.ps, Tr.bulks (p.vs.map Dt.tr) ≤ b) ∧ c.ps.length ≤ b) ⟨none, 0, []⟩ (fun n cs x hx => by
    obtain ⟨v, rfl⟩ : ∃ v, cs = [v] := by rcases DataW.trod_slice Tryz.underlying34 hx with ⟨hcs, _⟩ | ⟨_, _, _, _, _, _, _, hcs, _⟩ <;> exact ⟨_, hcs⟩
    obtain ⟨so, cap, ps, e, g1, g2, g3⟩ := trodU_parts hx
    exact ⟨⟨so, cap, ps⟩, by rw [e]; rfl, g1, g2, g3⟩) hf
  refine ⟨so, cap, l.map Prod.fst, by rw [List.length_map]; exact e, ⟨h1, fun c hc => ?_⟩, fun p hp => ?_, by rw [List.length_map]; exact h4, Nat.le_trans (allP_sum fun q hq => (h2 q hq).2.2) h3⟩
  · obtain ⟨q, hq, rfl⟩ := List.mem_map.1 hc
    exact (h2 q hq).1
  · obtain ⟨c, hc, hp⟩ := uu hp
    obtain ⟨q, hq, rfl⟩ := List.mem_map.1 hc
    exact Nat.le_trans ((h2 q hq).2.1 p hp) (Nat.le_trans (sum_mem hq) h3)
end
end Go.Proofs.YtdpakekdbkpdfaaGreatDoor.G
