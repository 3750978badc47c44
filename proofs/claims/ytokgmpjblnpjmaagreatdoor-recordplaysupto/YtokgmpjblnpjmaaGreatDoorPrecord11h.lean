/- The walk of the document's utf8. Units of a text as rows; when a text has no bad byte. Walks of the document's Sound. The walk of the document's Sound. The walk of the document's sameness of data. Walks of what the document says of types. Walks of what the document says of changes. Scripts over a store. Both stores, call by call. -/
import Derived.Test.YtokgmpjblnpjmaaGreatDoorPrecord11d
import Derived.Test.YtokgmpjblnpjmaaGreatDoorProg
import Derived.Test.YtokgmpjblnpjmaaGreatDoorPrecord11f
import Derived.Lib.ConvBytes
import Derived.Test.YtokgmpjblnpjmaaGreatDoorPrecord11c
import Derived.Test.YtokgmpjblnpjmaaGreatDoorPrecord11g
namespace Go.Proofs.YtokgmpjblnpjmaaGreatDoor.G
open Go.RowKit
set_option linter.unusedVariables false
set_option linter.unusedSimpArgs false
set_option maxRecDepth 100000
theorem TrU_is1_21 : Is1 Tryz.prog 21 := ⟨⟨_, Tryz.underlying21, rfl⟩, by kernel_rfl⟩
theorem TrU_is1_5 : Is1 Tryz.prog 5 := ⟨⟨_, Tryz.underlying5, rfl⟩, by kernel_rfl⟩
open Go.Lib
theorem qjc {f p : Nat} {l : List UInt8} (hl : l ≠ []) : vk (f + 1) p l = ((p : Int), uR (decodeL l).1 (decodeL l).2) :: vk f (p + (decodeL l).2) (l.drop (decodeL l).2) := by
 conv => lhs; unfold vk
 rw [if_neg hl]
theorem qkf {w : World} {so : Option Addr} {l : List UInt8} {i : Nat} (h : Rb w so l) (hi : i < l.length) : ∃ b off, so = some ⟨b, off, none⟩ ∧ b < w.heap.size ∧ ∀ j, j < l.length → w.cell? ⟨b, off + j, none⟩ = some (.int .u8 (((l.getD j 0).toNat : Nat) : Int)) :=
 h.pos (fun k => by rw [k] at hi; exact absurd hi (Nat.not_lt_zero _))
/-- Units as the document keeps them: a character, whether there is none, its place. -/
def jv (us : List (Int × Int)) : List Value := us.flatMap fun u => if u.2 = -1 then [.int .i32 0, bV true, iV u.1] else [.int .i32 u.2, bV false, iV u.1]
theorem qwd {x : Int} (i : Nat) (m : Int) (hm : m = ((2 ^ i - 1 : Nat) : Int)) (hs : m ≤ 255) (h0 : 0 ≤ x) (h1 : x ≤ 255) : bits .and .u8 x m = x % ((2 ^ i : Nat) : Int) := by
 obtain ⟨n, rfl⟩ : ∃ n : Nat, x = (n : Int) := ⟨x.toNat, by omega⟩
 subst hm
 have h2 : n &&& (2 ^ i - 1) = n % 2 ^ i := Nat.and_two_pow_sub_one_eq_mod n i
 have e : (BitVec.ofInt IntKind.u8.bits (n : Int) &&& BitVec.ofInt IntKind.u8.bits (((2 ^ i - 1 : Nat)) : Int)).toNat = n % 2 ^ i := by
  rw [← h2, BitVec.ofInt_natCast, BitVec.ofInt_natCast, BitVec.toNat_and, BitVec.toNat_ofNat, BitVec.toNat_ofNat]
  show n % 256 &&& (2 ^ i - 1) % 256 = _
  rw [Nat.mod_eq_of_lt (by omega), Nat.mod_eq_of_lt (by omega)]
 show IntKind.u8.wrap ((BitVec.ofInt IntKind.u8.bits (n : Int) &&& BitVec.ofInt IntKind.u8.bits (((2 ^ i - 1 : Nat)) : Int)).toNat : Int) = _
 rw [e]
 have := Nat.mod_le n (2 ^ i)
 exact (in_u8 (by omega) (by omega)).trans (Int.natCast_emod n (2 ^ i))
theorem zzd {c x : Int} (h0 : 0 ≤ c) (h1 : c ≤ 33554431) (h2 : 0 ≤ x) (h3 : x ≤ 63) : bits .or .i32 (c * 64) x = c * 64 + x := by
 obtain ⟨a, rfl⟩ : ∃ a : Nat, c = (a : Int) := ⟨c.toNat, by omega⟩
 obtain ⟨n, rfl⟩ : ∃ n : Nat, x = (n : Int) := ⟨x.toNat, by omega⟩
 have := Nat.two_pow_add_eq_or_of_lt (i := 6) (b := n) (by omega) a
 rw [show (2 : Nat) ^ 6 = 64 from rfl] at this
 have e := zxd (64 * a) n (by omega) (by omega)
 rw [show (((64 * a : Nat)) : Int) = (a : Int) * 64 from by omega] at e
 rw [e, ← this]
 omega
/-- The units from a place on. -/
def qjd (l : List UInt8) (i : Nat) : List (Int × Int) := vk (l.length - i) i (l.drop i)
theorem zfa (l : List UInt8) : qjd l 0 = jt l := by unfold qjd jt; rw [List.drop_zero, Nat.sub_zero]
theorem zfb {l : List UInt8} {i : Nat} (h : ¬ i < l.length) : qjd l i = [] := by unfold qjd; rw [show l.length - i = 0 from by omega]; rfl
theorem qog {l : List UInt8} {i r q : Nat} (h : i < l.length) (e : decodeN (l.length - i) (l.getD i 0).toNat (l.getD (i + 1) 0).toNat (l.getD (i + 2) 0).toNat (l.getD (i + 3) 0).toNat = (r, q)) : qjd l i = ((i : Int), uR r q) :: qjd l (i + q) := by
 have hne : l.drop i ≠ [] := fun k => by
  have := congrArg List.length k
  rw [List.length_drop, List.length_nil] at this
  omega
 have hd : decodeL (l.drop i) = (r, q) := by
  rw [decodeL_N, ux, ux, ux, ux, List.length_drop]
  exact e
 have hw := yy _ hne
 rw [hd, List.length_drop] at hw
 simp only at hw
 unfold qjd
 obtain ⟨m, hm⟩ : ∃ m, l.length - i = m + 1 := ⟨l.length - i - 1, by omega⟩
 rw [hm, qjc hne, hd, List.drop_drop]
 simp only
 rw [qii m (l.length - (i + q)) _ _ (by rw [List.length_drop]; omega) (by rw [List.length_drop]; omega)]
/-- What the first byte of a character says. -/
def LeadU (x n : Nat) (r : Int) : Prop := (x < 128 ∧ n = 1 ∧ r = x) ∨ (192 ≤ x ∧ x < 224 ∧ n = 2 ∧ r = x % 32) ∨ (224 ≤ x ∧ x < 240 ∧ n = 3 ∧ r = x % 16) ∨ (240 ≤ x ∧ x < 248 ∧ n = 4 ∧ r = x % 8) ∨ ((128 ≤ x ∧ x < 192 ∨ 248 ≤ x) ∧ n = 0 ∧ r = 0)
/-- The bytes behind it, so far. -/
def ContU (len i n : Nat) (b1 b2 b3 : Nat) (r : Int) (k : Nat) (rk : Int) (ok : Bool) : Prop := (ok = true ∧ 0 < n ∧ i + n ≤ len ∧ k ≤ n ∧ ((k = 1 ∧ rk = r) ∨ (k = 2 ∧ b1 / 64 = 2 ∧ rk = r * 64 + ((b1 % 64 : Nat) : Int)) ∨ (k = 3 ∧ b1 / 64 = 2 ∧ b2 / 64 = 2 ∧ rk = (r * 64 + ((b1 % 64 : Nat) : Int)) * 64 + ((b2 % 64 : Nat) : Int)) ∨ (k = 4 ∧ b1 / 64 = 2 ∧ b2 / 64 = 2 ∧ b3 / 64 = 2 ∧ rk = ((r * 64 + ((b1 % 64 : Nat) : Int)) * 64 + ((b2 % 64 : Nat) : Int)) * 64 + ((b3 % 64 : Nat) : Int)))) ∨
 (ok = false ∧ (¬ (0 < n ∧ i + n ≤ len) ∨ (1 < n ∧ b1 / 64 ≠ 2) ∨ (2 < n ∧ b2 / 64 ≠ 2) ∨ (3 < n ∧ b3 / 64 ≠ 2)))
def qee (n : Nat) : Int := if n = 2 then 128 else if n = 3 then 2048 else 65536
theorem zqj {n : Nat} (h0 : 2 ≤ n) (h1 : n ≤ 4) : ([.int .i32 0, .int .i32 0, .int .i32 128, .int .i32 2048, .int .i32 65536] : List Value)[n * 1]? = some (.int .i32 (qee n)) := by
 have h : n = 2 ∨ n = 3 ∨ n = 4 := by omega
 rcases h with rfl | rfl | rfl <;> rfl
theorem zze {x n : Nat} {r : Int} (h : LeadU x n r) : n ≤ 4 ∧ 0 ≤ r ∧ r ≤ 127 ∧ (1 < n → r ≤ 31) := by unfold LeadU at h; omega
theorem zfc {len i n b1 b2 b3 : Nat} {r : Int} {ok : Bool} (h : ok = decide (0 < n ∧ i + n ≤ len)) : ContU len i n b1 b2 b3 r 1 r ok := by
 unfold ContU
 by_cases k : 0 < n ∧ i + n ≤ len
 ·
  exact .inl ⟨by rw [h, decide_eq_true k], k.1, k.2, by omega, .inl ⟨rfl, rfl⟩⟩
 ·
  exact .inr ⟨by rw [h, decide_eq_false k], .inl k⟩
theorem zlg {l : List UInt8} {i n k : Nat} {r rk : Int} (hn : n ≤ 4) (h : ContU l.length i n (l.getD (i + 1) 0).toNat (l.getD (i + 2) 0).toNat (l.getD (i + 3) 0).toNat r k rk true) (hk : k < n) : ContU l.length i n (l.getD (i + 1) 0).toNat (l.getD (i + 2) 0).toNat (l.getD (i + 3) 0).toNat r (k + 1) (rk * 64 + (((l.getD (i + k) 0).toNat : Nat) : Int) % 64) ((((l.getD (i + k) 0).toNat : Nat) : Int) / 64 == 2) := by
 rcases h with ⟨_, h1, h2, h3, h4⟩ | ⟨h, _⟩
 ·
  unfold ContU
  have e : k = 1 ∨ k = 2 ∨ k = 3 := by omega
  rcases e with rfl | rfl | rfl
  ·
   by_cases hb : (((l.getD (i + 1) 0).toNat : Nat) : Int) / 64 = 2
   ·
    exact .inl ⟨beq_iff_eq.2 hb, h1, h2, by omega, by omega⟩
   ·
    exact .inr ⟨beq_eq_false_iff_ne.2 hb, by omega⟩
  ·
   by_cases hb : (((l.getD (i + 2) 0).toNat : Nat) : Int) / 64 = 2
   ·
    exact .inl ⟨beq_iff_eq.2 hb, h1, h2, by omega, by omega⟩
   ·
    exact .inr ⟨beq_eq_false_iff_ne.2 hb, by omega⟩
  ·
   by_cases hb : (((l.getD (i + 3) 0).toNat : Nat) : Int) / 64 = 2
   ·
    exact .inl ⟨beq_iff_eq.2 hb, h1, h2, by omega, by omega⟩
   ·
    exact .inr ⟨beq_eq_false_iff_ne.2 hb, by omega⟩
 ·
  cases h
theorem yi {len i n b1 b2 b3 k : Nat} {r rk : Int} (h : ContU len i n b1 b2 b3 r k rk true) : 0 < n ∧ i + n ≤ len ∧ k ≤ n ∧ 1 ≤ k ∧ (0 ≤ r → r ≤ 31 → k ≤ 3 → 0 ≤ rk ∧ rk ≤ 200000) ∧ (0 ≤ r → r ≤ 31 → 0 ≤ rk ∧ rk ≤ 40000000) ∧ (k = 1 → rk = r) := by
 rcases h with ⟨_, h1, h2, h3, h4⟩ | ⟨h, _⟩
 ·
  omega
 ·
  cases h
def EndU (len i n : Nat) (b0 b1 b2 b3 : Nat) (rk : Int) (ok : Bool) : Prop := (ok = true ∧ decodeN (len - i) b0 b1 b2 b3 = (rk.toNat, n) ∧ uR rk.toNat n = rk ∧ 0 ≤ rk ∧ 1 ≤ n ∧ i + n ≤ len) ∨ (ok = false ∧ decodeN (len - i) b0 b1 b2 b3 = (65533, 1))
set_option maxHeartbeats 1000000 in
theorem zfd {len i n b0 b1 b2 b3 : Nat} {r rk : Int} (hi : i < len) (h0 : b0 < 256) (hL : LeadU b0 n r) (hC : ContU len i n b1 b2 b3 r n rk true) (h : n = 1 ∨ (qee n ≤ rk ∧ rk ≤ 1114111 ∧ (rk < 55296 ∨ 57343 < rk))) : EndU len i n b0 b1 b2 b3 rk true := by
 rcases hC with ⟨_, h1, h2, h3, h4⟩ | ⟨h, _⟩
 ·
  unfold LeadU at hL
  unfold qee at h
  have hn : n = 1 ∨ n = 2 ∨ n = 3 ∨ n = 4 := by omega
  refine .inl ⟨rfl, ?_, ?_, by rcases hn with rfl | rfl | rfl | rfl <;> omega, h1, h2⟩
  ·
   unfold decodeN
   rcases hn with rfl | rfl | rfl | rfl
   ·
    rw [if_pos (by omega)]
    exact Prod.ext (by show b0 = rk.toNat; omega) rfl
   ·
    simp only [if_true] at h
    rw [if_neg (by omega), if_pos (by omega), if_pos (by omega)]
    exact Prod.ext (by show (_ : Nat) = rk.toNat; omega) rfl
   ·
    rw [if_neg (show ¬ 3 = 2 by decide), if_pos rfl] at h
    rw [if_neg (by omega), if_neg (by omega), if_pos (by omega), if_pos (by omega)]
    exact Prod.ext (by show (_ : Nat) = rk.toNat; omega) rfl
   ·
    rw [if_neg (show ¬ 4 = 2 by decide), if_neg (show ¬ 4 = 3 by decide)] at h
    rw [if_neg (by omega), if_neg (by omega), if_neg (by omega), if_pos (by omega), if_pos (by omega)]
    exact Prod.ext (by show (_ : Nat) = rk.toNat; omega) rfl
  ·
   unfold uR
   rw [if_neg (by rcases hn with rfl | rfl | rfl | rfl <;> omega)]
   rcases hn with rfl | rfl | rfl | rfl <;> omega
 ·
  cases h
set_option maxHeartbeats 1000000 in
theorem qwe {len i n b0 b1 b2 b3 k : Nat} {r rk : Int} {ok : Bool} (hi : i < len) (h0 : b0 < 256) (hL : LeadU b0 n r) (hC : ContU len i n b1 b2 b3 r k rk ok) (hk : ok = true → k = n) (h : ok = false ∨ (n ≠ 1 ∧ ¬ (qee n ≤ rk ∧ rk ≤ 1114111 ∧ (rk < 55296 ∨ 57343 < rk)))) : EndU len i n b0 b1 b2 b3 rk false := by
 refine .inr ⟨rfl, ?_⟩
 unfold LeadU at hL
 unfold decodeN
 rcases hC with ⟨hb, h1, h2, h3, h4⟩ | ⟨hb, h4⟩
 ·
  have hkn := hk hb
  subst hkn
  rcases h with h | ⟨h5, h6⟩
  ·
   rw [hb] at h; cases h
  ·
   have hn : k = 2 ∨ k = 3 ∨ k = 4 := by omega
   unfold qee at h6
   rcases hn with rfl | rfl | rfl
   ·
    simp only [if_true] at h6
    rw [if_neg (by omega), if_pos (by omega), if_neg (by omega)]
   ·
    rw [if_neg (show ¬ 3 = 2 by decide), if_pos rfl] at h6
    rw [if_neg (by omega), if_neg (by omega), if_pos (by omega), if_neg (by omega)]
   ·
    rw [if_neg (show ¬ 4 = 2 by decide), if_neg (show ¬ 4 = 3 by decide)] at h6
    rw [if_neg (by omega), if_neg (by omega), if_neg (by omega), if_pos (by omega), if_neg (by omega)]
 ·
  rw [if_neg (by omega), if_neg (by omega), if_neg (by omega), if_neg (by omega)]
set_option maxHeartbeats 4000000 in
theorem zlh {w : World} {so : Option Addr} {cap : Nat} {l : List UInt8} (hb : Rb w so l) (hlen : l.length ≤ 4000000) : Calls Tryz.prog 101 #[.slice so l.length cap] w fun e w' => ∃ v, e = .returned v ∧ Mg w w' [.row 134 3 v (jt l).length (jv (jt l))] := by
 have M : Mg w w ([]) := Mg.start w
 refine qs (l := [(0, .slice so l.length cap)]) Tryz.func101 rfl Tryz.ntmps101 rfl rfl ?_
 intro Q hret hnorm hP a A
 refine wsk fun K1 hK1 => wrl (sda A λa A↦?_)
 refine qa (hK1 _ _ (wsk fun K2 hK2 => wrl (xr (e := 134) (sz := 3) (m := 0) (vs := []) A M rfl rfl rfl (qy rfl (by kernel_rfl)) rfl rfl (.inl (by decide)) ?_)))
 intro g3 w4 M a A
 refine sda A λa A↦?_
 refine qa (hK2 _ _ (wsk fun K5 hK5 => wsk fun K6 hK6 => wrl (sda A λa A↦?_)))
 refine qa (hK6 _ _ (wp_block (zt (fun m_ a w1 => ∃ (i : Nat) (acc : List (Int × Int)) (vo : Value), m_ = l.length - i ∧ (acc ++ qjd l i = jt l ∧ i ≤ l.length ∧ acc.length ≤ i) ∧ Sl a 122 [(0, .slice so l.length cap), (2, .slice none 0 0), (3, vo), (4, iV (((i : Nat) : Int))), (12, .slice (aO g3) 0 0)] ∧ Mg w w1 (.row 134 3 (vo) acc.length ((jv acc)) :: [])) _ ⟨0, [], .slice (aO g3) 0 0, rfl, ⟨by rw [zfa]; rfl, Nat.zero_le _, Nat.le_refl _⟩, A.keep _ ⟨rfl, rfl, rfl, rfl, rfl, trivial⟩, M⟩ ?_)))
 clear M A
 rintro m_ a w7 ⟨i, acc, vo, rfl, hinv9, A, M⟩ K8 hK8
 obtain ⟨hrun, hi9, hacc⟩ := hinv9
 refine wsk fun K10 hK10 => wsk fun K11 hK11 => wrl ?_
 iterate 2 refine sdm A λa A↦?_
 refine sdo A (qn Tryz.underlying40 rfl) λa A↦?_
 rcases tf (decide (((i : Nat) : Int) < ((l.length : Nat) : Int))) with hb12 | hb12
 ·
  have hb12' := of_decide_eq_true hb12
  refine sdc A qw hb12 λa A↦?_
  refine qa (hK11 _ _ (wp_cond_true (A.ev rfl) ?_))
  refine wp_skip (hK10 _ _ (wp_block (wsk fun K13 hK13 => wrl ?_)))
  iterate 2 refine sda A λa A↦?_
  refine qa (hK13 _ _ (wsk fun K14 hK14 => ?_))
  have hi8 : i < l.length := by omega
  refine wrl ?_
  iterate 2 refine sdm A λa A↦?_
  obtain ⟨bx, ox, hx1, hx2, hx3⟩ := qkf (i := i) hb (by omega)
  have hu9 := (l.getD (i) 0).toNat_lt
  refine sdo (v := pA bx (ox + (i))) A (zk (k := i) Tryz.underlying40 (by kernel_rfl) rfl rfl rfl hx1 (by omega)) λa A↦?_
  refine sdo (v := .int .u8 ((((l.getD i 0).toNat : Nat) : Int))) A (qjh M hx2 (hx3 (i) (by omega)) TrU_is1_5 rfl) λa A↦?_
  refine sda A λa A↦?_
  refine qa (hK14 _ _ (wsk fun K15 hK15 => ?_))
  have hJ16 : ∀ a w1, (∃ (n : Nat) (r : Int), (LeadU (l.getD i 0).toNat n r) ∧ Sl a 122 [(0, .slice so l.length cap), (2, .slice none 0 0), (3, vo), (4, iV (((i : Nat) : Int))), (5, iV (((n : Nat) : Int))), (6, .int .i32 r), (12, .slice (aO g3) 0 0), (13, iV (((i : Nat) : Int))), (14, .slice so l.length cap), (15, iV (((l.length : Nat) : Int))), (16, bV true), (17, .slice so l.length cap), (18, iV (((i : Nat) : Int))), (19, pA bx (ox + (i))), (20, .int .u8 ((((l.getD i 0).toNat : Nat) : Int)))] ∧ Mg w w1 (.row 134 3 (vo) acc.length ((jv acc)) :: [])) → K15 a w1 := by
   clear A M
   rintro a w17 ⟨n, r, hf18, A, M⟩
   have hL := hf18
   have hn4 := zze hL
   refine hK15 _ _ (wsk fun K19 hK19 => ?_)
   have hJ20 : ∀ a w1, (∃ (ok : Bool), (ok = decide (0 < n ∧ i + n ≤ l.length)) ∧ Sl a 122 [(0, .slice so l.length cap), (2, .slice none 0 0), (3, vo), (4, iV (((i : Nat) : Int))), (5, iV (((n : Nat) : Int))), (6, .int .i32 r), (8, bV ok), (12, .slice (aO g3) 0 0), (13, iV (((i : Nat) : Int))), (14, .slice so l.length cap), (15, iV (((l.length : Nat) : Int))), (16, bV true), (17, .slice so l.length cap), (18, iV (((i : Nat) : Int))), (19, pA bx (ox + (i))), (20, .int .u8 ((((l.getD i 0).toNat : Nat) : Int)))] ∧ Mg w w1 (.row 134 3 (vo) acc.length ((jv acc)) :: [])) → K19 a w1 := by
    clear A M
    rintro a w21 ⟨ok, hf22, A, M⟩
    have hok := hf22
    refine hK19 _ _ (wsk fun K23 hK23 => ?_)
    have hJ24 : ∀ a w1, (∃ (k : Nat) (rk : Int) (ok3 : Bool), (ContU l.length i n (l.getD (i + 1) 0).toNat (l.getD (i + 2) 0).toNat (l.getD (i + 3) 0).toNat r k rk ok3 ∧ (ok3 = true → k = n)) ∧ Sl a 122 [(0, .slice so l.length cap), (2, .slice none 0 0), (3, vo), (4, iV (((i : Nat) : Int))), (5, iV (((n : Nat) : Int))), (6, .int .i32 rk), (8, bV ok3), (12, .slice (aO g3) 0 0), (13, iV (((i : Nat) : Int))), (14, .slice so l.length cap), (15, iV (((l.length : Nat) : Int))), (16, bV true), (17, .slice so l.length cap), (18, iV (((i : Nat) : Int))), (19, pA bx (ox + (i))), (20, .int .u8 ((((l.getD i 0).toNat : Nat) : Int)))] ∧ Mg w w1 (.row 134 3 (vo) acc.length ((jv acc)) :: [])) → K23 a w1 := by
     clear A M
     rintro a w25 ⟨k, rk, ok3, hf26, A, M⟩
     obtain ⟨hC, hkn⟩ := hf26
     refine hK23 _ _ (wsk fun K27 hK27 => ?_)
     have hJ28 : ∀ a w1, (∃ (ok4 : Bool), (EndU l.length i n (l.getD i 0).toNat (l.getD (i + 1) 0).toNat (l.getD (i + 2) 0).toNat (l.getD (i + 3) 0).toNat rk ok4) ∧ Sl a 122 [(0, .slice so l.length cap), (2, .slice none 0 0), (3, vo), (4, iV (((i : Nat) : Int))), (5, iV (((n : Nat) : Int))), (6, .int .i32 rk), (8, bV ok4), (12, .slice (aO g3) 0 0), (13, iV (((i : Nat) : Int))), (14, .slice so l.length cap), (15, iV (((l.length : Nat) : Int))), (16, bV true), (17, .slice so l.length cap), (18, iV (((i : Nat) : Int))), (19, pA bx (ox + (i))), (20, .int .u8 ((((l.getD i 0).toNat : Nat) : Int)))] ∧ Mg w w1 (.row 134 3 (vo) acc.length ((jv acc)) :: [])) → K27 a w1 := by
      clear A M
      rintro a w29 ⟨ok4, hf30, A, M⟩
      have hE := hf30
      refine hK27 _ _ (wsk fun K31 hK31 => wrl (sdm A λa A↦?_))
      refine qa (hK31 _ _ ?_)
      refine wp_cond_split (t := ok4) (A.ev rfl) (fun hc32 => ?_) (fun hc32 => ?_)
      ·
       refine wsk fun K33 hK33 => wrl ?_
       iterate 3 refine sdm A λa A↦?_
       refine sdo (v := .agg #[.int .i32 rk, bV false, iV (((i : Nat) : Int))]) A (jb rfl (fun w => by kernel_rfl)) λa A↦?_
       refine xr (e := 134) (sz := 3) (m := 1) (vs := [.int .i32 rk, bV false, iV (((i : Nat) : Int))]) A M rfl rfl rfl (qy rfl (by kernel_rfl)) rfl rfl (.inl (by decide)) ?_
       intro g34 w35 M a A
       refine jo (e := 134) (sz := 3) (k := 1) (q := acc.length) (m := 1) (xs := (jv acc)) (news := [.int .i32 rk, bV false, iV (((i : Nat) : Int))]) (L' := fun v36 => (.row 134 3 (.slice (aO g34) 1 1) 1 ([.int .i32 rk, bV false, iV (((i : Nat) : Int))]) :: .row 134 3 (v36) (acc.length + 1) ((jv acc) ++ [.int .i32 rk, bV false, iV (((i : Nat) : Int))]) :: [])) A rfl rfl rfl (qra (z := .agg #[.int .i32 0, bV false, iV 0]) (sz := 3) (by_ := 16) Tryz.underlying131 (by kernel_rfl) rfl rfl rfl M 1 rfl rfl 0 rfl rfl rfl rfl (by omega)) (fun _ => rfl) ?_
       intro v36 w37 M a A
       refine sda A λa A↦?_
       refine qa (hK33 _ _ (wrl ?_))
       iterate 2 refine sdm A λa A↦?_
       refine sdo (v := iV (((i + n : Nat) : Int))) A (qg rfl rfl (ar_add ((in_i64 (by omega) (by omega)).trans (by omega)))) λa A↦?_
       refine sda A λa A↦?_
       refine qa ?_
       obtain ⟨hd, hr9, hrk, hn1, hn2⟩ : decodeN (l.length - i) (l.getD i 0).toNat (l.getD (i + 1) 0).toNat (l.getD (i + 2) 0).toNat (l.getD (i + 3) 0).toNat = (rk.toNat, n) ∧ uR rk.toNat n = rk ∧ 0 ≤ rk ∧ 1 ≤ n ∧ i + n ≤ l.length := by
        rcases hE with ⟨_, h⟩ | ⟨h, _⟩
        ·
         exact h
        ·
         rw [hc32] at h; cases h
       have hs9 := qog hi8 hd
       rw [hr9] at hs9
       replace M : Mg w w37 [.row 134 3 v36 (acc ++ [((i : Int), rk)]).length (jv (acc ++ [((i : Int), rk)]))] := by
        have h9 := M.sub (cn (cc (.refl _)))
        have e9 : jv (acc ++ [((i : Int), rk)]) = jv acc ++ [.int .i32 rk, bV false, iV (((i : Nat) : Int))] := by
         unfold jv
         rw [List.flatMap_append, List.flatMap_singleton]
         rw [if_neg (show ¬ _ = (-1 : Int) by simp only; omega)]
        rw [e9, List.length_append]
        exact h9
       refine hK8 _ _ _ (by omega) ⟨i + n, acc ++ [((i : Int), rk)], v36, rfl, ⟨by rw [← hrun, hs9, List.append_assoc]; rfl, by omega, by rw [List.length_append]; simp only [List.length_cons, List.length_nil]; omega⟩, A.keep _ ⟨rfl, rfl, rfl, rfl, rfl, trivial⟩, M⟩
      ·
       refine wsk fun K38 hK38 => wrl ?_
       iterate 2 refine sdm A λa A↦?_
       refine sdo (v := .agg #[.int .i32 0, bV true, iV (((i : Nat) : Int))]) A (jb rfl (fun w => by kernel_rfl)) λa A↦?_
       refine xr (e := 134) (sz := 3) (m := 1) (vs := [.int .i32 0, bV true, iV (((i : Nat) : Int))]) A M rfl rfl rfl (qy rfl (by kernel_rfl)) rfl rfl (.inl (by decide)) ?_
       intro g39 w40 M a A
       refine jo (e := 134) (sz := 3) (k := 1) (q := acc.length) (m := 1) (xs := (jv acc)) (news := [.int .i32 0, bV true, iV (((i : Nat) : Int))]) (L' := fun v41 => (.row 134 3 (.slice (aO g39) 1 1) 1 ([.int .i32 0, bV true, iV (((i : Nat) : Int))]) :: .row 134 3 (v41) (acc.length + 1) ((jv acc) ++ [.int .i32 0, bV true, iV (((i : Nat) : Int))]) :: [])) A rfl rfl rfl (qra (z := .agg #[.int .i32 0, bV false, iV 0]) (sz := 3) (by_ := 16) Tryz.underlying131 (by kernel_rfl) rfl rfl rfl M 1 rfl rfl 0 rfl rfl rfl rfl (by omega)) (fun _ => rfl) ?_
       intro v41 w42 M a A
       refine sda A λa A↦?_
       refine qa (hK38 _ _ (wrl (sdm A λa A↦?_)))
       refine sdo (v := iV (((i + 1 : Nat) : Int))) A (qg rfl rfl (ar_add ((in_i64 (by omega) (by omega)).trans (by omega)))) λa A↦?_
       refine sda A λa A↦?_
       refine qa ?_
       have hd : decodeN (l.length - i) (l.getD i 0).toNat (l.getD (i + 1) 0).toNat (l.getD (i + 2) 0).toNat (l.getD (i + 3) 0).toNat = (65533, 1) := by
        rcases hE with ⟨h, _⟩ | ⟨_, h⟩
        ·
         rw [hc32] at h; cases h
        ·
         exact h
       have hr9 : uR 65533 1 = -1 := by unfold uR; rw [if_pos ⟨rfl, by decide⟩]
       have hs9 := qog hi8 hd
       rw [hr9] at hs9
       replace M : Mg w w42 [.row 134 3 v41 (acc ++ [((i : Int), (-1))]).length (jv (acc ++ [((i : Int), (-1))]))] := by
        have h9 := M.sub (cn (cc (.refl _)))
        have e9 : jv (acc ++ [((i : Int), (-1))]) = jv acc ++ [.int .i32 0, bV true, iV (((i : Nat) : Int))] := by
         unfold jv
         rw [List.flatMap_append, List.flatMap_singleton]
         rw [if_pos rfl]
        rw [e9, List.length_append]
        exact h9
       refine hK8 _ _ _ (by omega) ⟨i + 1, acc ++ [((i : Int), (-1))], v41, rfl, ⟨by rw [← hrun, hs9, List.append_assoc]; rfl, by omega, by rw [List.length_append]; simp only [List.length_cons, List.length_nil]; omega⟩, A.keep _ ⟨rfl, rfl, rfl, rfl, rfl, trivial⟩, M⟩
     refine wsk fun K43 hK43 => wrl ?_
     iterate 2 refine sdm A λa A↦?_
     rcases ok3 with _ | _
     ·
      iterate 2 refine qj A rfl rfl rfl λa A↦?_
      refine sdk (v := bV false) A λa A↦?_
      refine qa (hK43 _ _ (wp_cond_false (A.ev rfl) ?_))
      refine wp_skip ?_
      replace M : Mg w w25 (.row 134 3 (vo) acc.length ((jv acc)) :: []) := by
       have h9 := M.sub (cc (.refl _))
       exact h9
      exact hJ28 _ _ ⟨false, qwe hi8 ((l.getD i 0).toNat_lt) hL hC hkn (.inl rfl), A.keep _ (by repeat' constructor), M⟩
     ·
      refine sdm A λa A↦?_
      rcases tf (decide (1 < ((n : Nat) : Int))) with hb44 | hb44
      ·
       have hb44' := of_decide_eq_true hb44
       refine sdc A jk hb44 λa A↦?_
       refine sdk (v := bV true) A λa A↦?_
       refine qa (hK43 _ _ (wp_cond_true (A.ev rfl) ?_))
       refine wsk fun K45 hK45 => wrl (xr (e := 21) (sz := 1) (m := 5) (vs := [.int .i32 0, .int .i32 0, .int .i32 128, .int .i32 2048, .int .i32 65536]) A M rfl rfl rfl (qy rfl (by kernel_rfl)) rfl rfl (.inl (by decide)) ?_)
       intro g46 w47 M a A
       refine sda A λa A↦?_
       refine qa (hK45 _ _ ?_)
       have hc9 := yi hC
       refine wrl ?_
       iterate 3 refine sdm A λa A↦?_
       refine sdo (v := pA g46 (n * 1)) A (xp (k := n) Tryz.underlying152 (by kernel_rfl) rfl rfl rfl (by omega)) λa A↦?_
       refine sdo (v := .int .i32 (qee n)) A (qtb M 0 rfl (zqj (by omega) (by omega)) TrU_is1_21 rfl) λa A↦?_
       rcases tf (decide (qee n ≤ rk)) with hb48 | hb48
       ·
        have hb48' := of_decide_eq_true hb48
        refine sdc A zl hb48 λa A↦?_
        iterate 2 refine sdm A λa A↦?_
        rcases tf (decide (rk ≤ 1114111)) with hb49 | hb49
        ·
         have hb49' := of_decide_eq_true hb49
         refine sdc A vv hb49 λa A↦?_
         refine sdk (v := bV true) A λa A↦?_
         iterate 2 refine sdm A λa A↦?_
         rcases tf (decide (rk < 55296)) with hb50 | hb50
         ·
          have hb50' := of_decide_eq_true hb50
          refine sdc A qw hb50 λa A↦?_
          refine sdm A λa A↦?_
          iterate 2 refine qj A rfl rfl rfl λa A↦?_
          iterate 2 refine sdk (v := bV true) A λa A↦?_
          refine sda A λa A↦?_
          refine qa ?_
          replace M : Mg w w47 (.row 134 3 (vo) acc.length ((jv acc)) :: []) := by
           have h9 := M.sub (cn (cc (.refl _)))
           exact h9
          have hc8 := yi hC
          exact hJ28 _ _ ⟨true, zfd hi8 ((l.getD i 0).toNat_lt) hL (hkn rfl ▸ hC) (by omega), A.keep _ (by repeat' constructor), M⟩
         ·
          have hb50' := of_decide_eq_false hb50
          refine sdc A qw hb50 λa A↦?_
          iterate 2 refine sdm A λa A↦?_
          rcases tf (decide (57343 < rk)) with hb51 | hb51
          ·
           have hb51' := of_decide_eq_true hb51
           refine sdc A jk hb51 λa A↦?_
           iterate 2 refine sdk (v := bV true) A λa A↦?_
           refine sda A λa A↦?_
           refine qa ?_
           replace M : Mg w w47 (.row 134 3 (vo) acc.length ((jv acc)) :: []) := by
            have h9 := M.sub (cn (cc (.refl _)))
            exact h9
           have hc8 := yi hC
           exact hJ28 _ _ ⟨true, zfd hi8 ((l.getD i 0).toNat_lt) hL (hkn rfl ▸ hC) (by omega), A.keep _ (by repeat' constructor), M⟩
          ·
           have hb51' := of_decide_eq_false hb51
           refine sdc A jk hb51 λa A↦?_
           iterate 2 refine sdk (v := bV false) A λa A↦?_
           refine sda A λa A↦?_
           refine qa ?_
           replace M : Mg w w47 (.row 134 3 (vo) acc.length ((jv acc)) :: []) := by
            have h9 := M.sub (cn (cc (.refl _)))
            exact h9
           have hc8 := yi hC
           exact hJ28 _ _ ⟨false, qwe hi8 ((l.getD i 0).toNat_lt) hL hC hkn (.inr ⟨by omega, by omega⟩), A.keep _ (by repeat' constructor), M⟩
        ·
         have hb49' := of_decide_eq_false hb49
         refine sdc A vv hb49 λa A↦?_
         refine sdk (v := bV false) A λa A↦?_
         refine sdm A λa A↦?_
         iterate 3 refine qj A rfl rfl rfl λa A↦?_
         iterate 2 refine ki A rfl rfl rfl λa A↦?_
         refine qj A rfl rfl rfl λa A↦?_
         refine sdk (v := bV false) A λa A↦?_
         refine sda A λa A↦?_
         refine qa ?_
         replace M : Mg w w47 (.row 134 3 (vo) acc.length ((jv acc)) :: []) := by
          have h9 := M.sub (cn (cc (.refl _)))
          exact h9
         have hc8 := yi hC
         exact hJ28 _ _ ⟨false, qwe hi8 ((l.getD i 0).toNat_lt) hL hC hkn (.inr ⟨by omega, by omega⟩), A.keep _ (by repeat' constructor), M⟩
       ·
        have hb48' := of_decide_eq_false hb48
        refine sdc A zl hb48 λa A↦?_
        refine sdm A λa A↦?_
        iterate 2 refine qj A rfl rfl rfl λa A↦?_
        refine sdk (v := bV false) A λa A↦?_
        refine sdm A λa A↦?_
        iterate 3 refine qj A rfl rfl rfl λa A↦?_
        iterate 2 refine ki A rfl rfl rfl λa A↦?_
        refine qj A rfl rfl rfl λa A↦?_
        refine sdk (v := bV false) A λa A↦?_
        refine sda A λa A↦?_
        refine qa ?_
        replace M : Mg w w47 (.row 134 3 (vo) acc.length ((jv acc)) :: []) := by
         have h9 := M.sub (cn (cc (.refl _)))
         exact h9
        have hc8 := yi hC
        exact hJ28 _ _ ⟨false, qwe hi8 ((l.getD i 0).toNat_lt) hL hC hkn (.inr ⟨by omega, by omega⟩), A.keep _ (by repeat' constructor), M⟩
      ·
       have hb44' := of_decide_eq_false hb44
       refine sdc A jk hb44 λa A↦?_
       refine sdk (v := bV false) A λa A↦?_
       refine qa (hK43 _ _ (wp_cond_false (A.ev rfl) ?_))
       refine wp_skip ?_
       replace M : Mg w w25 (.row 134 3 (vo) acc.length ((jv acc)) :: []) := by
        have h9 := M.sub (cc (.refl _))
        exact h9
       have hc8 := yi hC
       exact hJ28 _ _ ⟨true, zfd hi8 ((l.getD i 0).toNat_lt) hL (hkn rfl ▸ hC) (by omega), A.keep _ (by repeat' constructor), M⟩
    refine wsk fun K52 hK52 => wrl (sda A λa A↦?_)
    refine qa (hK52 _ _ (wp_block (zt (fun m_ a w1 => ∃ (k : Nat) (rk : Int) (ok2 : Bool), m_ = 5 - k ∧ (ContU l.length i n (l.getD (i + 1) 0).toNat (l.getD (i + 2) 0).toNat (l.getD (i + 3) 0).toNat r k rk ok2) ∧ Sl a 122 [(0, .slice so l.length cap), (2, .slice none 0 0), (3, vo), (4, iV (((i : Nat) : Int))), (5, iV (((n : Nat) : Int))), (6, .int .i32 rk), (8, bV ok2), (9, iV (((k : Nat) : Int))), (12, .slice (aO g3) 0 0), (13, iV (((i : Nat) : Int))), (14, .slice so l.length cap), (15, iV (((l.length : Nat) : Int))), (16, bV true), (17, .slice so l.length cap), (18, iV (((i : Nat) : Int))), (19, pA bx (ox + (i))), (20, .int .u8 ((((l.getD i 0).toNat : Nat) : Int)))] ∧ Mg w w1 (.row 134 3 (vo) acc.length ((jv acc)) :: [])) _ ⟨1, r, ok, rfl, zfc hok, A.keep _ (by repeat' constructor), M⟩ ?_)))
    clear M A
    rintro m_ a w53 ⟨k, rk, ok2, rfl, hinv55, A, M⟩ K54 hK54
    have hC := hinv55
    refine wsk fun K56 hK56 => wsk fun K57 hK57 => wrl ?_
    iterate 2 refine sdm A λa A↦?_
    rcases ok2 with _ | _
    ·
     iterate 3 refine qj A rfl rfl rfl λa A↦?_
     refine sdk (v := bV false) A λa A↦?_
     refine qa (hK57 _ _ (wp_cond_false (A.ev rfl) ?_))
     refine wp_exit ?_
     exact hJ24 _ _ ⟨k, rk, false, ⟨hC, fun h => by cases h⟩, A.keep _ (by repeat' constructor), M⟩
    ·
     iterate 2 refine sdm A λa A↦?_
     rcases tf (decide (((k : Nat) : Int) < ((n : Nat) : Int))) with hb58 | hb58
     ·
      have hb58' := of_decide_eq_true hb58
      refine sdc A qw hb58 λa A↦?_
      refine sdk (v := bV true) A λa A↦?_
      refine qa (hK57 _ _ (wp_cond_true (A.ev rfl) ?_))
      refine wp_skip (hK56 _ _ (wsk fun K59 hK59 => wp_block (wsk fun K60 hK60 => ?_)))
      have hc9 := yi hC
      refine wrl ?_
      iterate 3 refine sdm A λa A↦?_
      refine sdo (v := iV (((i + k : Nat) : Int))) A (qg rfl rfl (ar_add ((in_i64 (by omega) (by omega)).trans (by omega)))) λa A↦?_
      obtain ⟨bx, ox, hx1, hx2, hx3⟩ := qkf (i := i + k) hb (by omega)
      have hu9 := (l.getD (i + k) 0).toNat_lt
      refine sdo (v := pA bx (ox + (i + k))) A (zk (k := i + k) Tryz.underlying40 (by kernel_rfl) rfl rfl rfl hx1 (by omega)) λa A↦?_
      refine sdo (v := .int .u8 ((((l.getD (i + k) 0).toNat : Nat) : Int))) A (qjh M hx2 (hx3 (i + k) (by omega)) TrU_is1_5 rfl) λa A↦?_
      refine sda A λa A↦?_
      refine qa (hK60 _ _ (wsk fun K61 hK61 => wrl (sdm A λa A↦?_)))
      refine sdo (v := .int .u8 (((((l.getD (i + k) 0).toNat : Nat) : Int)) / 64)) A (qg rfl rfl (ar_shr (n := 6) rfl rfl rfl)) λa A↦?_
      refine sdo (v := bV ((((((l.getD (i + k) 0).toNat : Nat) : Int)) / 64 == 2))) A (qg rfl rfl qr) λa A↦?_
      refine sda A λa A↦?_
      refine qa (hK61 _ _ (wrl (sdm A λa A↦?_)))
      refine sdo (v := .int .i32 (rk * 64)) A (qg rfl rfl (ar_shl (n := 6) rfl rfl (in_i32 (by omega) (by omega)))) λa A↦?_
      refine sdm A λa A↦?_
      refine sdo (v := .int .u8 (((((l.getD (i + k) 0).toNat : Nat) : Int)) % 64)) A (qg rfl rfl (ar_and (qwd 6 63 rfl (by decide) (by omega) (by omega)))) λa A↦?_
      refine sdo (v := .int .i32 (((((l.getD (i + k) 0).toNat : Nat) : Int)) % 64)) A (xq rfl (ar_conv Tryz.underlying5 Tryz.underlying21 (in_i32 (by omega) (by omega)))) λa A↦?_
      refine sdo (v := .int .i32 (rk * 64 + (((((l.getD (i + k) 0).toNat : Nat) : Int)) % 64))) A (qg rfl rfl (ar_or (zzd (by omega) (by omega) (by omega) (by omega)))) λa A↦?_
      refine sda A λa A↦?_
      refine qa (hK59 _ _ (wrl (sdm A λa A↦?_)))
      refine sdo (v := iV (((k + 1 : Nat) : Int))) A (qg rfl rfl (ar_add ((in_i64 (by omega) (by omega)).trans (by omega)))) λa A↦?_
      refine sda A λa A↦?_
      refine qa ?_
      refine hK54 _ _ _ (by omega) ⟨k + 1, rk * 64 + (((((l.getD (i + k) 0).toNat : Nat) : Int)) % 64), (((((l.getD (i + k) 0).toNat : Nat) : Int)) / 64 == 2), rfl, zlg (by omega) hC (by omega), A.keep _ (by repeat' constructor), M⟩
     ·
      have hb58' := of_decide_eq_false hb58
      refine sdc A qw hb58 λa A↦?_
      refine sdk (v := bV false) A λa A↦?_
      refine qa (hK57 _ _ (wp_cond_false (A.ev rfl) ?_))
      refine wp_exit ?_
      exact hJ24 _ _ ⟨k, rk, true, ⟨hC, fun _ => by have := yi hC; omega⟩, A.keep _ (by repeat' constructor), M⟩
   refine wrl (sdm A λa A↦?_)
   rcases tf (decide (0 < ((n : Nat) : Int))) with hb62 | hb62
   ·
    have hb62' := of_decide_eq_true hb62
    refine sdc A jk hb62 λa A↦?_
    iterate 3 refine sdm A λa A↦?_
    refine sdo (v := iV (((i + n : Nat) : Int))) A (qg rfl rfl (ar_add ((in_i64 (by omega) (by omega)).trans (by omega)))) λa A↦?_
    refine sdm A λa A↦?_
    refine sdo A (qn Tryz.underlying40 rfl) λa A↦?_
    rcases tf (decide (((i + n : Nat) : Int) ≤ ((l.length : Nat) : Int))) with hb63 | hb63
    ·
     have hb63' := of_decide_eq_true hb63
     refine sdc A vv hb63 λa A↦?_
     refine sdk (v := bV true) A λa A↦?_
     refine sda A λa A↦?_
     refine qa ?_
     exact hJ20 _ _ ⟨true, (decide_eq_true (by omega)).symm, A.keep _ (by repeat' constructor), M⟩
    ·
     have hb63' := of_decide_eq_false hb63
     refine sdc A vv hb63 λa A↦?_
     refine sdk (v := bV false) A λa A↦?_
     refine sda A λa A↦?_
     refine qa ?_
     exact hJ20 _ _ ⟨false, (decide_eq_false (by omega)).symm, A.keep _ (by repeat' constructor), M⟩
   ·
    have hb62' := of_decide_eq_false hb62
    refine sdc A jk hb62 λa A↦?_
    refine sdm A λa A↦?_
    iterate 6 refine qj A rfl rfl rfl λa A↦?_
    refine sdk (v := bV false) A λa A↦?_
    refine sda A λa A↦?_
    refine qa ?_
    exact hJ20 _ _ ⟨false, (decide_eq_false (by omega)).symm, A.keep _ (by repeat' constructor), M⟩
  refine wp_block (wsk fun K64 hK64 => wrl (sdm A λa A↦?_))
  rcases tf (decide ((((l.getD i 0).toNat : Nat) : Int) < 128)) with hb65 | hb65
  ·
   have hb65' := of_decide_eq_true hb65
   refine sdc A qw hb65 λa A↦?_
   refine sda A λa A↦?_
   refine qa (hK64 _ _ (wp_cond_true (A.ev rfl) ?_))
   refine wrl (sdm A λa A↦?_)
   refine sdo (v := .int .i32 ((((l.getD i 0).toNat : Nat) : Int))) A (xq rfl (ar_conv Tryz.underlying5 Tryz.underlying21 (in_i32 (by omega) (by omega)))) λa A↦?_
   iterate 2 refine sda A λa A↦?_
   refine qa ?_
   exact hJ16 _ _ ⟨1, (((l.getD i 0).toNat : Nat) : Int), (by unfold LeadU; omega), A.keep _ (by repeat' constructor), M⟩
  ·
   have hb65' := of_decide_eq_false hb65
   refine sdc A qw hb65 λa A↦?_
   refine sda A λa A↦?_
   refine qa (hK64 _ _ (wp_cond_false (A.ev rfl) ?_))
   refine wsk fun K66 hK66 => wrl (sdm A λa A↦?_)
   refine sdo (v := .int .u8 (((((l.getD i 0).toNat : Nat) : Int)) / 32)) A (qg rfl rfl (ar_shr (n := 5) rfl rfl rfl)) λa A↦?_
   rcases tf ((((((l.getD i 0).toNat : Nat) : Int)) / 32 == 6)) with hb67 | hb67
   ·
    have hb67' := eq_of_beq hb67
    refine sdc A qr hb67 λa A↦?_
    refine sda A λa A↦?_
    refine qa (hK66 _ _ (wp_cond_true (A.ev rfl) ?_))
    refine wrl (sdm A λa A↦?_)
    refine sdo (v := .int .u8 (((((l.getD i 0).toNat : Nat) : Int)) % 32)) A (qg rfl rfl (ar_and (qwd 5 31 rfl (by decide) (by omega) (by omega)))) λa A↦?_
    refine sdo (v := .int .i32 (((((l.getD i 0).toNat : Nat) : Int)) % 32)) A (xq rfl (ar_conv Tryz.underlying5 Tryz.underlying21 (in_i32 (by omega) (by omega)))) λa A↦?_
    iterate 2 refine sda A λa A↦?_
    refine qa ?_
    exact hJ16 _ _ ⟨2, ((((l.getD i 0).toNat : Nat) : Int)) % 32, (by unfold LeadU; omega), A.keep _ (by repeat' constructor), M⟩
   ·
    have hb67' := ne_of_beq_false hb67
    refine sdc A qr hb67 λa A↦?_
    refine sda A λa A↦?_
    refine qa (hK66 _ _ (wp_cond_false (A.ev rfl) ?_))
    refine wsk fun K68 hK68 => wrl (sdm A λa A↦?_)
    refine sdo (v := .int .u8 (((((l.getD i 0).toNat : Nat) : Int)) / 16)) A (qg rfl rfl (ar_shr (n := 4) rfl rfl rfl)) λa A↦?_
    rcases tf ((((((l.getD i 0).toNat : Nat) : Int)) / 16 == 14)) with hb69 | hb69
    ·
     have hb69' := eq_of_beq hb69
     refine sdc A qr hb69 λa A↦?_
     refine sda A λa A↦?_
     refine qa (hK68 _ _ (wp_cond_true (A.ev rfl) ?_))
     refine wrl (sdm A λa A↦?_)
     refine sdo (v := .int .u8 (((((l.getD i 0).toNat : Nat) : Int)) % 16)) A (qg rfl rfl (ar_and (qwd 4 15 rfl (by decide) (by omega) (by omega)))) λa A↦?_
     refine sdo (v := .int .i32 (((((l.getD i 0).toNat : Nat) : Int)) % 16)) A (xq rfl (ar_conv Tryz.underlying5 Tryz.underlying21 (in_i32 (by omega) (by omega)))) λa A↦?_
     iterate 2 refine sda A λa A↦?_
     refine qa ?_
     exact hJ16 _ _ ⟨3, ((((l.getD i 0).toNat : Nat) : Int)) % 16, (by unfold LeadU; omega), A.keep _ (by repeat' constructor), M⟩
    ·
     have hb69' := ne_of_beq_false hb69
     refine sdc A qr hb69 λa A↦?_
     refine sda A λa A↦?_
     refine qa (hK68 _ _ (wp_cond_false (A.ev rfl) ?_))
     refine wsk fun K70 hK70 => wrl (sdm A λa A↦?_)
     refine sdo (v := .int .u8 (((((l.getD i 0).toNat : Nat) : Int)) / 8)) A (qg rfl rfl (ar_shr (n := 3) rfl rfl rfl)) λa A↦?_
     rcases tf ((((((l.getD i 0).toNat : Nat) : Int)) / 8 == 30)) with hb71 | hb71
     ·
      have hb71' := eq_of_beq hb71
      refine sdc A qr hb71 λa A↦?_
      refine sda A λa A↦?_
      refine qa (hK70 _ _ (wp_cond_true (A.ev rfl) ?_))
      refine wrl (sdm A λa A↦?_)
      refine sdo (v := .int .u8 (((((l.getD i 0).toNat : Nat) : Int)) % 8)) A (qg rfl rfl (ar_and (qwd 3 7 rfl (by decide) (by omega) (by omega)))) λa A↦?_
      refine sdo (v := .int .i32 (((((l.getD i 0).toNat : Nat) : Int)) % 8)) A (xq rfl (ar_conv Tryz.underlying5 Tryz.underlying21 (in_i32 (by omega) (by omega)))) λa A↦?_
      iterate 2 refine sda A λa A↦?_
      refine qa ?_
      exact hJ16 _ _ ⟨4, ((((l.getD i 0).toNat : Nat) : Int)) % 8, (by unfold LeadU; omega), A.keep _ (by repeat' constructor), M⟩
     ·
      have hb71' := ne_of_beq_false hb71
      refine sdc A qr hb71 λa A↦?_
      refine sda A λa A↦?_
      refine qa (hK70 _ _ (wp_cond_false (A.ev rfl) ?_))
      refine wp_skip ?_
      exact hJ16 _ _ ⟨0, 0, (by unfold LeadU; omega), A.keep _ (by repeat' constructor), M⟩
 ·
  have hb12' := of_decide_eq_false hb12
  refine sdc A qw hb12 λa A↦?_
  refine qa (hK11 _ _ (wp_cond_false (A.ev rfl) ?_))
  refine wp_exit (hK5 _ _ (wsk fun K72 hK72 => wrl (sdm A λa A↦?_)))
  refine sda A λa A↦?_
  refine qa (hK72 _ _ (wp_ret (hret _ _ (en1 A rfl (qf rfl) ?_))))
  rw [zfb (by omega), List.append_nil] at hrun
  subst hrun
  exact ⟨_, rfl, M⟩
open Go.RowKit Go.Lib
theorem zab {w : World} {B : Nat} {e : TypeId} {sz : Nat} {v : Value} {n : Nat} {xs : List Value} (h : w.ownsRow B e sz v n xs) : ∃ so cap, v = .slice so n cap := by
  rcases h.2 with ⟨rfl, rfl⟩ | ⟨g, cap, cur, rfl, _⟩
  · exact ⟨none, 0, rfl⟩
  · exact ⟨_, cap, rfl⟩
section
variable {P : Program} {w0 w : World} {L : List Ck} {l : List (Nat × Value)} {dst : Option Tmp} {ty : TypeId} {pos : String} {after : Array Edge} {guard : Option (Nat × Bool)} {v : Value}
theorem zfe {w' : World} {s d : TypeId} {x : Operand} {u : Value} (hx : ev l x = some u) (hr : (convert s d u).run P w = .ok v w') : Does P l ⟨dst, .convert s d x, ty, pos, after, guard⟩ w v w' := fun ρ h => by
  simp only [execOp, h x _ hx, Sem.run_bind, hr, Result.andThen_ok, Sem.run_pure]
theorem zra (hM : Mg w0 w L) (k : Nat) {e : TypeId} {sz n cap : Nat} {so : Option Addr} {xs : List Value} (hk : L[k]? = some (.row e sz (.slice so n cap) n xs)) (hn : 0 < n) : ∃ g, so = some ⟨g, 0, none⟩ := by
  rcases (hM.has k hk).2 with ⟨_, h0⟩ | ⟨g, cap', cur, he, _⟩
  · omega
  · cases he; exact ⟨g, rfl⟩
theorem zac {t e : TypeId} {sz : Nat} (hu : P.underlying t = some (.slice e)) (he : (P.info? e).map (·.size) = some sz) {x i : Operand} {so : Option Addr} {g n c k : Nat} {z : Int} (hx : ev l x = some (.slice so n c)) (hi : ev l i = some (.int .i64 z)) (hz : z = (k : Nat)) (hso : so = some ⟨g, 0, none⟩) (hk : k < n) :
    Does P l ⟨dst, .indexAddr t x i, ty, pos, after, guard⟩ w (.pointer (some ⟨g, k * sz, none⟩)) w := by
  subst hso
  exact xp hu he hx hi hz hk
theorem m_loadX (hM : Mg w0 w L) (k : Nat) {e : TypeId} {sz g n c j : Nat} {so : Option Addr} {xs : List Value} (hk : L[k]? = some (.row e sz (.slice so n c) n xs)) (hso : so = some ⟨g, 0, none⟩) (hj : xs[j]? = some v) {t : TypeId} (ht : Is1 P t) {x : Operand} (hx : ev l x = some (.pointer (some ⟨g, j, none⟩))) : Does P l ⟨dst, .load t x, ty, pos, after, guard⟩ w v w := by
  subst hso
  exact qtb hM k hk hj ht hx
end
section
variable {P : Program} {w0 w : World} {L : List Ck} {l : List (Nat × Value)} {ops : List Oper} {Q : Exit → Act → World → Prop} {a : Act} {n : Nat} {rest : List Oper} {d : Nat} {dst : Option Tmp} {ty : TypeId} {pos : String} {after : Array Edge} {guard : Option (Nat × Bool)}
/-- A text as bytes. -/
theorem zvh (hA : Sl a n l) (hM : Mg w0 w L) {t t' : TypeId} {x : Operand} {s : ByteArray} {o : Oper} (ho : o = ⟨dst, .convert t t' x, ty, pos, after, guard⟩) (ht : P.underlying t = some .string) (hd : P.underlying t' = some (.slice BY)) (he : P.underlying BY = some (.int .u8)) (hx : ev l x = some (.string s)) (hg : zr l ops o = true) (hdst : o.dst = some d) (hdn : Nat.blt d n = true)
    (hk : ∀ so cap w', Rb w' so s.data.toList → Mg w0 w' L → ∀ a', Sl a' n ((d, .slice so s.data.toList.length cap) :: l) → wpList P ops.toArray Q rest a' w') : wpList P ops.toArray Q (o :: rest) a w := by
  subst ho
  have hr := Go.Lib.run_convert_string_bytes (P := P) w t t' BY s ht hd he
  have hb : Below w.heap.size w (bytesWorld w BY s) := ⟨rfl, rfl, rfl, by rw [bytesWorld_size]; omega, fun j hj => bytesWorld_at_old w BY s j hj⟩
  refine vt hA hg hdst hdn (v := .slice (some ⟨w.heap.size, 0, none⟩) s.data.toList.length (grownCap w s.size 0 BY)) (w' := bytesWorld w BY s) (zfe hx (by rw [yz]; exact hr)) (hk _ _ _ ⟨fun _ => ⟨w.heap.size, 0, rfl, by rw [bytesWorld_size]; omega, fun j hj => ?_⟩⟩ (hM.call hb))
  rw [yz] at hj
  rw [Nat.zero_add]
  exact bytesWorld_cell w BY s j hj
end
theorem qoh (u : Int × Int) (us : List (Int × Int)) : jv (u :: us) = (if u.2 = -1 then [.int .i32 0, .bool true, .int .i64 u.1] else [.int .i32 u.2, .bool false, .int .i64 u.1]) ++ jv us := rfl
theorem qoi : ∀ (us : List (Int × Int)) (i f : Nat) (u : Int × Int), us[i]? = some u → f < 3 → (jv us)[i * 3 + f]? = (if u.2 = -1 then [Value.int .i32 0, .bool true, .int .i64 u.1] else [.int .i32 u.2, .bool false, .int .i64 u.1])[f]?
  | [], i, f, u, h, hf => by simp at h
  | v :: us, 0, f, u, h, hf => by
    simp only [List.getElem?_cons_zero, Option.some.injEq] at h
    subst h
    rw [qoh, Nat.zero_mul, Nat.zero_add, List.getElem?_append_left]
    split <;> exact hf
  | v :: us, i + 1, f, u, h, hf => by
    rw [List.getElem?_cons_succ] at h
    rw [qoh, List.getElem?_append_right (by split <;> (simp only [List.length_cons, List.length_nil]; omega))]
    have e : (i + 1) * 3 + f - (if v.2 = -1 then [Value.int .i32 0, .bool true, .int .i64 v.1] else [.int .i32 v.2, .bool false, .int .i64 v.1]).length = i * 3 + f := by
      split <;> (simp only [List.length_cons, List.length_nil]; omega)
    rw [e]
    exact qoi us i f u h hf
theorem zrb {us : List (Int × Int)} {i : Nat} (h : i < us.length) : ∃ ua ur, us[i]? = some (ua, ur) := ⟨_, _, List.getElem?_eq_getElem h⟩
/-! ### Encode -/
theorem qoj : ∀ (f p : Nat) (l : List UInt8), (vk f p l).length ≤ l.length
  | 0, _, _ => Nat.zero_le _
  | f + 1, p, l => by
    by_cases hl : l = []
    · subst hl; simp [vk]
    · rw [qjc hl, List.length_cons]
      have h1 := qoj f (p + (decodeL l).2) (l.drop (decodeL l).2)
      have h2 := yy l hl
      rw [List.length_drop] at h1
      omega
theorem zrc (l : List UInt8) (h : (decodeL l).1 = 65533) : (decodeL l).2 = 1 ∨ (decodeL l).2 = 3 ∨ (decodeL l).2 = 0 := by
  rw [decodeL_N] at h ⊢
  generalize (l.getD 0 0).toNat = b0 at h ⊢
  generalize (l.getD 1 0).toNat = b1 at h ⊢
  generalize (l.getD 2 0).toNat = b2 at h ⊢
  generalize (l.getD 3 0).toNat = b3 at h ⊢
  unfold decodeN at h ⊢
  repeat' split
  all_goals (simp_all)
  all_goals omega
theorem qdf : ∀ (f p : Nat) (l : List UInt8), validGoD f l = (vk f p l).all (fun u => !decide (u.2 = -1))
  | 0, p, l => rfl
  | f + 1, p, l => by
    unfold validGoD vk
    by_cases hl : l = []
    · rw [if_pos hl, if_pos hl]; rfl
    · rw [if_neg hl, if_neg hl, List.all_cons]
      have hw := yy l hl
      have h3 := zrc l
      by_cases hb : (decodeL l).1 = 65533 ∧ (decodeL l).2 = 1
      · rw [if_pos hb]
        have : uR (decodeL l).1 (decodeL l).2 = -1 := by unfold uR; rw [if_pos ⟨hb.1, by omega⟩]
        rw [this]; rfl
      · rw [if_neg hb]
        have : ¬ uR (decodeL l).1 (decodeL l).2 = -1 := by
          unfold uR
          by_cases h9 : (decodeL l).1 = 65533
          · rw [if_neg (by have := h3 h9; omega)]; omega
          · rw [if_neg (fun e => h9 e.1)]; omega
        rw [decide_eq_false this, qdf f (p + (decodeL l).2)]
        simp
theorem qsc (s : ByteArray) : okS s = (jt s.data.toList).all (fun u => !decide (u.2 = -1)) := qdf _ 0 _
theorem zvi {s : ByteArray} {i : Nat} {ua ur : Int} (h : (jt s.data.toList)[i]? = some (ua, ur)) (hr : ur = -1) : okS s = false := by
  rw [qsc]
  apply Bool.eq_false_iff.2
  intro k
  have := List.all_eq_true.1 k _ (List.mem_of_getElem? h)
  simp [hr] at this
theorem zrd {s : ByteArray} (h : ∀ (i : Nat) (ua ur : Int), (jt s.data.toList)[i]? = some (ua, ur) → ur ≠ -1) : okS s = true := by
  rw [qsc, List.all_eq_true]
  intro u hu
  obtain ⟨i, hi⟩ := List.mem_iff_getElem?.1 hu
  simp [h i u.1 u.2 hi]
theorem zad {w : World} {so : Option Addr} {cap : Nat} {l : List UInt8} (hb : Rb w so l) (hlen : l.length ≤ 4000000) : Calls Tryz.prog 92 #[iV 1, .slice so l.length cap] w fun e w' => ∃ v, e = .returned v ∧ Mg w w' [.row 134 3 v (jt l).length (jv (jt l))] := by
 have M : Mg w w ([]) := Mg.start w
 refine qs (l := [(0, iV 1), (1, .slice so l.length cap)]) Tryz.func92 rfl Tryz.ntmps92 rfl rfl ?_
 intro Q hret hnorm hP a A
 refine wsk fun K1 hK1 => wrl (sda A λa A↦?_)
 refine qa (hK1 _ _ (wsk fun K2 hK2 => wsk fun K3 hK3 => wrl (sdm A λa A↦?_)))
 refine sdo (v := bV true) A (qg rfl rfl (fun w => by kernel_rfl)) λa A↦?_
 refine qa (hK3 _ _ (wp_cond_true (A.ev rfl) ?_))
 refine wsk fun K4 hK4 => wrl (sdm A λa A↦?_)
 refine sct A (ef rfl rfl) (zlh (hb.below M.bel) hlen) ?_
 rintro _ w5 ⟨v9, rfl, hM9⟩
 replace M : Mg w w5 (.row 134 3 (v9) ((jt l).length) ((jv (jt l))) :: []) := (M.both hM9 (qk qm) (qi (by simp) (qk qm)))
 refine ⟨_, rfl, ?_⟩
 intro a A
 refine sda A λa A↦?_
 refine qa (hK4 _ _ (wp_ret (hret _ _ (en1 A rfl (qf rfl) ?_))))
 exact ⟨_, rfl, M⟩
theorem qpa {w : World} {s : ByteArray} (hs : s.size ≤ 4000000) {r : Bool} (hr : okS s = r) : Calls Tryz.prog 81 #[.string s] w fun e w' => e = .returned (bV r) ∧ Below w.heap.size w w' := by
 have hul : (jt s.data.toList).length ≤ s.data.toList.length := qoj _ _ _
 have hsl : s.data.toList.length ≤ 4000000 := by rw [yz]; exact hs
 have M : Mg w w ([]) := Mg.start w
 refine qs (l := [(0, .string s)]) Tryz.func81 rfl Tryz.ntmps81 rfl rfl ?_
 intro Q hret hnorm hP a A
 refine wsk fun K1 hK1 => wrl (sda A λa A↦?_)
 refine qa (hK1 _ _ (wsk fun K2 hK2 => wrl (sdm A λa A↦?_)))
 refine zvh A M rfl Tryz.underlying9 Tryz.underlying40 Tryz.underlying5 rfl rfl rfl rfl ?_
 intro so3 ca4 w5 hrb6 M a A
 refine sct A (ef rfl rfl) (zad hrb6 (by rw [yz]; exact hs)) ?_
 rintro _ w10 ⟨v9, rfl, hM7⟩
 obtain ⟨so8, ca9, rfl⟩ := zab (hM7.has 0 rfl)
 replace M : Mg w w10 (.row 134 3 (.slice so8 ((jt s.data.toList).length) ca9) ((jt s.data.toList).length) ((jv (jt s.data.toList))) :: []) := (M.both hM7 (qk qm) (qi (by simp) (qk qm)))
 refine ⟨_, rfl, ?_⟩
 intro a A
 refine sda A λa A↦?_
 refine qa (hK2 _ _ (wsk fun K11 hK11 => wsk fun K12 hK12 => wrl (sda A λa A↦?_)))
 refine qa (hK12 _ _ (wp_block (zt (fun m_ a w1 => ∃ (i : Nat), m_ = 1 + ((jt s.data.toList).length - i) ∧ (i ≤ (jt s.data.toList).length ∧ ∀ j ua ur, j < i → (jt s.data.toList)[j]? = some (ua, ur) → ur ≠ -1) ∧ Sl a 19 [(0, .string s), (3, .slice so8 ((jt s.data.toList).length) ca9), (4, iV (((i : Nat) : Int))), (5, .string s), (6, .slice so3 s.data.toList.length ca4), (7, .slice so8 ((jt s.data.toList).length) ca9)] ∧ Mg w w1 (.row 134 3 (.slice so8 ((jt s.data.toList).length) ca9) ((jt s.data.toList).length) ((jv (jt s.data.toList))) :: [])) _ ⟨0, rfl, ⟨Nat.zero_le _, fun j ua ur hj => absurd hj (Nat.not_lt_zero _)⟩, A.keep _ (by repeat' constructor), M⟩ ?_)))
 clear M A
 rintro m_ a w13 ⟨i, rfl, hinv15, A, M⟩ K14 hK14
 obtain ⟨hi0, hin9⟩ := hinv15
 refine wsk fun K16 hK16 => wsk fun K17 hK17 => wrl ?_
 iterate 2 refine sdm A λa A↦?_
 refine sdo A (qn Tryz.underlying131 rfl) λa A↦?_
 rcases tf (decide (((i : Nat) : Int) < (((jt s.data.toList).length : Nat) : Int))) with hb18 | hb18
 ·
  have hb18' := of_decide_eq_true hb18
  refine sdc A qw hb18 λa A↦?_
  refine qa (hK17 _ _ (wp_cond_true (A.ev rfl) ?_))
  refine wp_skip (hK16 _ _ (wsk fun K19 hK19 => wp_block (wsk fun K20 hK20 => wrl ?_)))
  iterate 2 refine sdm A λa A↦?_
  obtain ⟨gu, hgu⟩ := zra M 0 rfl (by omega)
  obtain ⟨ua, ur, hu⟩ := zrb (us := jt s.data.toList) (i := i) (by omega)
  refine sdo (v := pA gu (i * 3)) A (zac Tryz.underlying131 (by kernel_rfl) rfl rfl rfl hgu (show i < (jt s.data.toList).length by omega)) λa A↦?_
  refine sdo (v := pA gu (i * 3 + 1)) A (qb zua rfl rfl) λa A↦?_
  by_cases hf : ur = -1
  ·
   refine sdo (v := bV true) A (m_loadX M 0 rfl hgu ((qoi _ i 1 _ hu (by decide)).trans (by rw [if_pos hf]; rfl)) o94 rfl) λa A↦?_
   refine qa (hK20 _ _ (wp_cond_true (A.ev rfl) ?_))
   refine wsk fun K21 hK21 => wrl (sda A λa A↦?_)
   refine qa (hK21 _ _ (wp_ret (hret _ _ (en1 A rfl (qf rfl) ?_))))
   subst hr
   exact ⟨by rw [zvi hu hf], M.bel⟩
  ·
   refine sdo (v := bV false) A (m_loadX M 0 rfl hgu ((qoi _ i 1 _ hu (by decide)).trans (by rw [if_neg hf]; rfl)) o94 rfl) λa A↦?_
   refine qa (hK20 _ _ (wp_cond_false (A.ev rfl) ?_))
   refine wp_skip (hK19 _ _ (wrl (sdm A λa A↦?_)))
   refine sdo (v := iV (((i + 1 : Nat) : Int))) A (qg rfl rfl (fun w => (ja (ji (by omega) (by omega)) w).trans (by rw [show (((i : Nat) : Int) + 1 : Int) = ((i + 1 : Nat) : Int) from by omega]))) λa A↦?_
   refine sda A λa A↦?_
   refine qa ?_
   refine hK14 _ _ _ (by omega) ⟨i + 1, rfl, ⟨by omega, fun j va vr hj hv => if h9 : j < i then hin9 j va vr h9 hv else by have h8 : j = i := (by omega); subst h8; rw [hu] at hv; injection hv with h7; injection h7 with _ h6; rw [← h6]; exact hf⟩, A.keep _ (by repeat' constructor), M⟩
 ·
  have hb18' := of_decide_eq_false hb18
  refine sdc A qw hb18 λa A↦?_
  refine qa (hK17 _ _ (wp_cond_false (A.ev rfl) ?_))
  refine wp_exit (hK11 _ _ (wsk fun K22 hK22 => wrl (sda A λa A↦?_)))
  refine qa (hK22 _ _ (wp_ret (hret _ _ (en1 A rfl (qf rfl) ?_))))
  subst hr
  exact ⟨by rw [zrd (fun j ua ur hj => hin9 j ua ur (by have := (List.getElem?_eq_some_iff.1 hj).1; omega) hj)], M.bel⟩
theorem qsd {w : World} {n : Int} {r : Bool} (hr : kt n = r) : Calls Tryz.prog 84 #[iV n] w fun e w' => e = .returned (bV r) ∧ Below w.heap.size w w' := by
 have M : Mg w w ([]) := Mg.start w
 refine qs (l := [(0, iV n)]) Tryz.func84 rfl Tryz.ntmps84 rfl rfl ?_
 intro Q hret hnorm hP a A
 refine wsk fun K1 hK1 => wrl (sda A λa A↦?_)
 refine qa (hK1 _ _ (wsk fun K2 hK2 => wrl (sdm A λa A↦?_)))
 rcases tf (decide (0 ≤ n)) with hb3 | hb3
 ·
  have hb3' := of_decide_eq_true hb3
  refine sdc A zl hb3 λa A↦?_
  iterate 2 refine sdm A λa A↦?_
  rcases tf (decide (n ≤ 1114111)) with hb4 | hb4
  ·
   have hb4' := of_decide_eq_true hb4
   refine sdc A vv hb4 λa A↦?_
   refine sdk (v := bV true) A λa A↦?_
   iterate 2 refine sdm A λa A↦?_
   rcases tf (decide (n < 55296)) with hb5 | hb5
   ·
    have hb5' := of_decide_eq_true hb5
    refine sdc A qw hb5 λa A↦?_
    refine sdm A λa A↦?_
    iterate 2 refine qj A rfl rfl rfl λa A↦?_
    iterate 2 refine sdk (v := bV true) A λa A↦?_
    refine sda A λa A↦?_
    refine qa (hK2 _ _ (wp_ret (hret _ _ (en1 A rfl (qf rfl) ?_))))
    subst hr
    exact ⟨by rw [show kt n = true from by unfold kt; apply decide_eq_true; omega], M.bel⟩
   ·
    have hb5' := of_decide_eq_false hb5
    refine sdc A qw hb5 λa A↦?_
    iterate 2 refine sdm A λa A↦?_
    rcases tf (decide (57343 < n)) with hb6 | hb6
    ·
     have hb6' := of_decide_eq_true hb6
     refine sdc A jk hb6 λa A↦?_
     iterate 2 refine sdk (v := bV true) A λa A↦?_
     refine sda A λa A↦?_
     refine qa (hK2 _ _ (wp_ret (hret _ _ (en1 A rfl (qf rfl) ?_))))
     subst hr
     exact ⟨by rw [show kt n = true from by unfold kt; apply decide_eq_true; omega], M.bel⟩
    ·
     have hb6' := of_decide_eq_false hb6
     refine sdc A jk hb6 λa A↦?_
     iterate 2 refine sdk (v := bV false) A λa A↦?_
     refine sda A λa A↦?_
     refine qa (hK2 _ _ (wp_ret (hret _ _ (en1 A rfl (qf rfl) ?_))))
     subst hr
     exact ⟨by rw [show kt n = false from by unfold kt; apply decide_eq_false; omega], M.bel⟩
  ·
   have hb4' := of_decide_eq_false hb4
   refine sdc A vv hb4 λa A↦?_
   refine sdk (v := bV false) A λa A↦?_
   refine sdm A λa A↦?_
   iterate 3 refine qj A rfl rfl rfl λa A↦?_
   iterate 2 refine ki A rfl rfl rfl λa A↦?_
   refine qj A rfl rfl rfl λa A↦?_
   refine sdk (v := bV false) A λa A↦?_
   refine sda A λa A↦?_
   refine qa (hK2 _ _ (wp_ret (hret _ _ (en1 A rfl (qf rfl) ?_))))
   subst hr
   exact ⟨by rw [show kt n = false from by unfold kt; apply decide_eq_false; omega], M.bel⟩
 ·
  have hb3' := of_decide_eq_false hb3
  refine sdc A zl hb3 λa A↦?_
  refine sdm A λa A↦?_
  iterate 2 refine qj A rfl rfl rfl λa A↦?_
  refine sdk (v := bV false) A λa A↦?_
  refine sdm A λa A↦?_
  iterate 3 refine qj A rfl rfl rfl λa A↦?_
  iterate 2 refine ki A rfl rfl rfl λa A↦?_
  refine qj A rfl rfl rfl λa A↦?_
  refine sdk (v := bV false) A λa A↦?_
  refine sda A λa A↦?_
  refine qa (hK2 _ _ (wp_ret (hret _ _ (en1 A rfl (qf rfl) ?_))))
  subst hr
  exact ⟨by rw [show kt n = false from by unfold kt; apply decide_eq_false; omega], M.bel⟩
/-- Sound by its kind, asked in the document's order. -/
def vh (k n : Int) (q : Q6) (s : ByteArray) (mr ml : Nat) : Bool :=
 if k < 1 ∨ 11 < k ∨ okS s = false then false
 else if k = 3 ∧ vw q = false then false
 else if k ≠ 3 ∧ (kr q.b1 q.t1.length q.q1.length = false ∨ kr q.b2 q.t2.length q.q2.length = false) then false
 else if s ≠ ⟨#[]⟩ ∧ k ≠ 5 ∧ k ≠ 6 ∧ k ≠ 11 then false
 else if 0 < mr ∧ k ≠ 7 then false
 else if k = 2 ∧ n ≠ 0 ∧ n ≠ 1 then false
 else if k = 4 ∧ kt n = false then false
 else if k ≠ 2 ∧ k ≠ 4 ∧ n ≠ 0 then false
 else if k = 8 then decide (ml = 2)
 else decide (k = 9 ∨ ml = 0)
theorem zvj : okS ⟨#[]⟩ = true := by unfold okS; rfl
theorem jl (k n : Int) (q : Q6) (s : ByteArray) (mr ml : Nat) : jp k n q s mr ml = vh k n q s mr ml := by
 have hv : s = ⟨#[]⟩ → okS s = true := by rintro rfl; exact zvj
 have hn0 : kr false 0 0 = true := rfl
 unfold jp vh
 by_cases hk : k < 1 ∨ 11 < k
 ·
  rw [if_pos (show k < 1 ∨ 11 < k ∨ okS s = false by omega)]
  repeat (rw [if_neg (by omega)])
 ·
  have h11 : k = 1 ∨ k = 2 ∨ k = 3 ∨ k = 4 ∨ k = 5 ∨ k = 6 ∨ k = 7 ∨ k = 8 ∨ k = 9 ∨ k = 10 ∨ k = 11 := by omega
  simp only [vx, hn0]
  generalize kr q.b1 q.t1.length q.q1.length = B1
  generalize kr q.b2 q.t2.length q.q2.length = B2
  generalize vw q = S1
  generalize kt n = S2
  by_cases hs : s = ⟨#[]⟩
  ·
   rw [hv hs]
   have hs2 : ¬ s ≠ ⟨#[]⟩ := fun h => h hs
   rcases h11 with h | h | h | h | h | h | h | h | h | h | h <;> subst h <;> cases B1 <;> cases B2 <;> cases S1 <;> cases S2 <;> simp [hs] <;> by_cases hm : mr = 0 <;> simp [hm] <;> by_cases hn : n = 0 <;> simp [hn] <;> first | omega | (by_cases hn1 : n = 1 <;> simp [hn1]) | skip
  ·
   cases hV : okS s <;> rcases h11 with h | h | h | h | h | h | h | h | h | h | h <;> subst h <;> cases B1 <;> cases B2 <;> cases S1 <;> cases S2 <;> simp [hs] <;> by_cases hm : mr = 0 <;> simp [hm] <;> by_cases hn : n = 0 <;> simp [hn] <;> first | omega | skip
section
variable {k n : Int} {q : Q6} {s : ByteArray} {mr ml : Nat}
def ShA (k : Int) (s : ByteArray) : Prop := 1 ≤ k ∧ k ≤ 11 ∧ okS s = true
def ShB (k : Int) (q : Q6) : Prop := (k = 3 → vw q = true) ∧ (k ≠ 3 → kr q.b1 q.t1.length q.q1.length = true ∧ kr q.b2 q.t2.length q.q2.length = true)
def ShC (k : Int) (s : ByteArray) : Prop := s = ⟨#[]⟩ ∨ k = 5 ∨ k = 6 ∨ k = 11
def ShD (k : Int) (mr : Nat) : Prop := mr = 0 ∨ k = 7
def ShE (k n : Int) : Prop := (k = 2 → n = 0 ∨ n = 1) ∧ (k = 4 → kt n = true) ∧ (k ≠ 2 → k ≠ 4 → n = 0)
theorem sh1 (h : k < 1 ∨ 11 < k ∨ okS s = false) : vh k n q s mr ml = false := by unfold vh; rw [if_pos h]
theorem shA (a : ShA k s) : ¬ (k < 1 ∨ 11 < k ∨ okS s = false) := fun e => by
 rcases e with e | e | e
 ·
  have := a.1; omega
 ·
  have := a.2.1; omega
 ·
  rw [a.2.2] at e; cases e
theorem sh2 (a : ShA k s) (h : k = 3) (S : vw q = false) : vh k n q s mr ml = false := by unfold vh; rw [if_neg (shA a), if_pos ⟨h, S⟩]
theorem sh3 (a : ShA k s) (h : k ≠ 3) (S : kr q.b1 q.t1.length q.q1.length = false ∨ kr q.b2 q.t2.length q.q2.length = false) : vh k n q s mr ml = false := by unfold vh; rw [if_neg (shA a), if_neg (fun e => h e.1), if_pos ⟨h, S⟩]
theorem zwa (b : ShB k q) : ¬ (k = 3 ∧ vw q = false) := fun e => by have := b.1 e.1; rw [e.2] at this; cases this
theorem zwb (b : ShB k q) : ¬ (k ≠ 3 ∧ (kr q.b1 q.t1.length q.q1.length = false ∨ kr q.b2 q.t2.length q.q2.length = false)) := fun e => by
 have := b.2 e.1
 rcases e.2 with h | h
 ·
  rw [this.1] at h; cases h
 ·
  rw [this.2] at h; cases h
theorem sh4 (a : ShA k s) (b : ShB k q) (h : s ≠ ⟨#[]⟩ ∧ k ≠ 5 ∧ k ≠ 6 ∧ k ≠ 11) : vh k n q s mr ml = false := by unfold vh; rw [if_neg (shA a), if_neg (zwa b), if_neg (zwb b), if_pos h]
theorem shC (c : ShC k s) : ¬ (s ≠ ⟨#[]⟩ ∧ k ≠ 5 ∧ k ≠ 6 ∧ k ≠ 11) := fun e => by rcases c with h | h | h | h <;> first | exact e.1 h | exact e.2.1 h | exact e.2.2.1 h | exact e.2.2.2 h
theorem sh5 (a : ShA k s) (b : ShB k q) (c : ShC k s) (h : 0 < mr ∧ k ≠ 7) : vh k n q s mr ml = false := by unfold vh; rw [if_neg (shA a), if_neg (zwa b), if_neg (zwb b), if_neg (shC c), if_pos h]
theorem shD (d : ShD k mr) : ¬ (0 < mr ∧ k ≠ 7) := fun e => by rcases d with h | h <;> omega
theorem sh6 (a : ShA k s) (b : ShB k q) (c : ShC k s) (d : ShD k mr) (h : (k = 2 ∧ n ≠ 0 ∧ n ≠ 1) ∨ (k = 4 ∧ kt n = false) ∨ (k ≠ 2 ∧ k ≠ 4 ∧ n ≠ 0)) : vh k n q s mr ml = false := by
 unfold vh
 rw [if_neg (shA a), if_neg (zwa b), if_neg (zwb b), if_neg (shC c), if_neg (shD d)]
 rcases h with h | h | h
 ·
  rw [if_pos h]
 ·
  rw [if_neg (by omega), if_pos h]
 ·
  rw [if_neg (by omega), if_neg (fun e => h.2.1 e.1), if_pos h]
theorem sh9 (a : ShA k s) (b : ShB k q) (c : ShC k s) (d : ShD k mr) (e : ShE k n) : vh k n q s mr ml = if k = 8 then decide (ml = 2) else decide (k = 9 ∨ ml = 0) := by
 unfold vh
 have e1 := e.1
 have e3 := e.2.2
 rw [if_neg (shA a), if_neg (zwa b), if_neg (zwb b), if_neg (shC c), if_neg (shD d), if_neg (fun h => by have := e1 h.1; omega), if_neg (fun h => by have := e.2.1 h.1; rw [h.2] at this; cases this), if_neg (fun h => by have := e3 h.1 h.2.1; omega)]
end
theorem qpb {w : World} {d : Nd} {ts : List Dt} (hok : NdOk w d) (hs2 : d.s.size ≤ 4000000) (hlen : ts.length ≤ 9223372036854775807) {r : Bool} (hr : jp d.k d.n d.y.q d.s d.rl.length ts.length = r) : Calls Tryz.prog 72 #[.agg (d.cells ts.length).toArray] w fun e w' => e = .returned (bV r) ∧ Below w.heap.size w w' := by
 have hrl : d.rl.length ≤ 9223372036854775807 := Nat.le_trans hok.rcap hok.rmax
 have M : Mg w w ([]) := Mg.start w
 refine qs (l := [(0, .agg (d.cells ts.length).toArray)]) Tryz.func72 rfl Tryz.ntmps72 rfl rfl ?_
 intro Q hret hnorm hP a A
 refine wsk fun K1 hK1 => wrl (zy (vs := [iV d.k, iV d.n, bV d.y.q.b1, .slice d.y.o1 d.y.q.t1.length d.y.c1, .slice d.y.o2 d.y.q.q1.length d.y.c2, bV d.y.q.b2, .slice d.y.o3 d.y.q.t2.length d.y.c3, .slice d.y.o4 d.y.q.q2.length d.y.c4, .string d.s, .slice d.ro d.rl.length d.rc, .slice d.lo ts.length d.lc]) (t := 42) A M rfl rfl rfl pg (zf rfl rfl) (by decide) ?_)
 intro g2 w3 M a A
 refine sda A λa A↦?_
 refine qa (hK1 _ _ (wsk fun K4 hK4 => ?_))
 have hJ5 : ∀ a w1, ((ShA d.k d.s) ∧ Sl a 100 [(0, .agg (d.cells ts.length).toArray), (1, pA g2 0)] ∧ Mg w w1 (.obj g2 (.cells (d.cells ts.length).toArray 42) :: [])) → K4 a w1 := by
  clear A M
  rintro a w6 ⟨hf7, A, M⟩
  have hSA := hf7
  refine hK4 _ _ (wsk fun K8 hK8 => ?_)
  have hJ9 : ∀ a w1, ((ShB d.k d.y.q) ∧ Sl a 100 [(0, .agg (d.cells ts.length).toArray), (1, pA g2 0)] ∧ Mg w w1 (.obj g2 (.cells (d.cells ts.length).toArray 42) :: [])) → K8 a w1 := by
   clear A M
   rintro a w10 ⟨hf11, A, M⟩
   have hSB := hf11
   refine hK8 _ _ (wsk fun K12 hK12 => ?_)
   have hJ13 : ∀ a w1, ((ShC d.k d.s) ∧ Sl a 100 [(0, .agg (d.cells ts.length).toArray), (1, pA g2 0)] ∧ Mg w w1 (.obj g2 (.cells (d.cells ts.length).toArray 42) :: [])) → K12 a w1 := by
    clear A M
    rintro a w14 ⟨hf15, A, M⟩
    have hSC := hf15
    refine hK12 _ _ (wsk fun K16 hK16 => ?_)
    have hJ17 : ∀ a w1, ((ShD d.k d.rl.length) ∧ Sl a 100 [(0, .agg (d.cells ts.length).toArray), (1, pA g2 0)] ∧ Mg w w1 (.obj g2 (.cells (d.cells ts.length).toArray 42) :: [])) → K16 a w1 := by
     clear A M
     rintro a w18 ⟨hf19, A, M⟩
     have hSD := hf19
     refine hK16 _ _ (wsk fun K20 hK20 => ?_)
     have hJ21 : ∀ a w1, ((ShE d.k d.n) ∧ Sl a 100 [(0, .agg (d.cells ts.length).toArray), (1, pA g2 0)] ∧ Mg w w1 (.obj g2 (.cells (d.cells ts.length).toArray 42) :: [])) → K20 a w1 := by
      clear A M
      rintro a w22 ⟨hf23, A, M⟩
      have hSE := hf23
      refine hK20 _ _ (wsk fun K24 hK24 => wsk fun K25 hK25 => wrl (sdo (v := pA g2 0) A (qb vg rfl rfl) λa A↦?_))
      refine sdo A (qh M o93 rfl 0 rfl rfl) λa A↦?_
      rcases tf ((d.k == 8)) with hb26 | hb26
      ·
       have hb26' := eq_of_beq hb26
       refine sdc A qr hb26 λa A↦?_
       refine qa (hK25 _ _ (wp_cond_true (A.ev rfl) ?_))
       refine wsk fun K27 hK27 => wrl (sdo (v := pA g2 10) A (qb xd rfl rfl) λa A↦?_)
       refine sdo A (qh M kw rfl 0 rfl rfl) λa A↦?_
       refine sdo A (qn Tryz.underlying34 rfl) λa A↦?_
       rcases tf ((((ts.length : Nat) : Int) == 2)) with hb28 | hb28
       ·
        have hb28' := eq_of_beq hb28
        refine sdc A qr hb28 λa A↦?_
        refine sda A λa A↦?_
        refine qa (hK27 _ _ (wp_ret (hret _ _ (en1 A rfl (qf rfl) ?_))))
        exact ⟨by rw [← hr, jl, sh9 hSA hSB hSC hSD hSE, if_pos (by omega), decide_eq_true (show (ts.length = 2) by omega)], M.bel⟩
       ·
        have hb28' := ne_of_beq_false hb28
        refine sdc A qr hb28 λa A↦?_
        refine sda A λa A↦?_
        refine qa (hK27 _ _ (wp_ret (hret _ _ (en1 A rfl (qf rfl) ?_))))
        exact ⟨by rw [← hr, jl, sh9 hSA hSB hSC hSD hSE, if_pos (by omega), decide_eq_false (show ¬ (ts.length = 2) by omega)], M.bel⟩
      ·
       have hb26' := ne_of_beq_false hb26
       refine sdc A qr hb26 λa A↦?_
       refine qa (hK25 _ _ (wp_cond_false (A.ev rfl) ?_))
       refine wp_skip (hK24 _ _ (wsk fun K29 hK29 => wrl (sdo (v := pA g2 0) A (qb vg rfl rfl) λa A↦?_)))
       refine sdo A (qh M o93 rfl 0 rfl rfl) λa A↦?_
       rcases tf ((d.k == 9)) with hb30 | hb30
       ·
        have hb30' := eq_of_beq hb30
        refine sdc A qr hb30 λa A↦?_
        refine sdm A λa A↦?_
        iterate 4 refine qj A rfl rfl rfl λa A↦?_
        refine sdk (v := bV true) A λa A↦?_
        refine sda A λa A↦?_
        refine qa (hK29 _ _ (wp_ret (hret _ _ (en1 A rfl (qf rfl) ?_))))
        exact ⟨by rw [← hr, jl, sh9 hSA hSB hSC hSD hSE, if_neg (by omega), decide_eq_true (show (d.k = 9 ∨ ts.length = 0) by omega)], M.bel⟩
       ·
        have hb30' := ne_of_beq_false hb30
        refine sdc A qr hb30 λa A↦?_
        refine sdm A λa A↦?_
        refine sdo (v := pA g2 10) A (qb xd rfl rfl) λa A↦?_
        refine sdo A (qh M kw rfl 0 rfl rfl) λa A↦?_
        refine sdo A (qn Tryz.underlying34 rfl) λa A↦?_
        rcases tf ((((ts.length : Nat) : Int) == 0)) with hb31 | hb31
        ·
         have hb31' := eq_of_beq hb31
         refine sdc A qr hb31 λa A↦?_
         refine sdk (v := bV true) A λa A↦?_
         refine sda A λa A↦?_
         refine qa (hK29 _ _ (wp_ret (hret _ _ (en1 A rfl (qf rfl) ?_))))
         exact ⟨by rw [← hr, jl, sh9 hSA hSB hSC hSD hSE, if_neg (by omega), decide_eq_true (show (d.k = 9 ∨ ts.length = 0) by omega)], M.bel⟩
        ·
         have hb31' := ne_of_beq_false hb31
         refine sdc A qr hb31 λa A↦?_
         refine sdk (v := bV false) A λa A↦?_
         refine sda A λa A↦?_
         refine qa (hK29 _ _ (wp_ret (hret _ _ (en1 A rfl (qf rfl) ?_))))
         exact ⟨by rw [← hr, jl, sh9 hSA hSB hSC hSD hSE, if_neg (by omega), decide_eq_false (show ¬ (d.k = 9 ∨ ts.length = 0) by omega)], M.bel⟩
     refine wsk fun K32 hK32 => wrl (sdo (v := pA g2 0) A (qb vg rfl rfl) λa A↦?_)
     refine sdo A (qh M o93 rfl 0 rfl rfl) λa A↦?_
     refine qa (hK32 _ _ (wp_block (wsk fun K33 hK33 => wrl ?_)))
     rcases tf ((d.k == 2)) with hb34 | hb34
     ·
      have hb34' := eq_of_beq hb34
      refine sdc A qr hb34 λa A↦?_
      refine sda A λa A↦?_
      refine qa (hK33 _ _ (wp_cond_true (A.ev rfl) ?_))
      refine wsk fun K35 hK35 => wrl (sdo (v := pA g2 1) A (qb xy rfl rfl) λa A↦?_)
      refine sdo A (qh M o93 rfl 0 rfl rfl) λa A↦?_
      rcases tf ((d.n != 0)) with hb36 | hb36
      ·
       have hb36' := bne_iff_ne.1 hb36
       refine sdc A zg hb36 λa A↦?_
       refine sdm A λa A↦?_
       refine sdo (v := pA g2 1) A (qb xy rfl rfl) λa A↦?_
       refine sdo A (qh M o93 rfl 0 rfl rfl) λa A↦?_
       rcases tf ((d.n != 1)) with hb37 | hb37
       ·
        have hb37' := bne_iff_ne.1 hb37
        refine sdc A zg hb37 λa A↦?_
        refine sdk (v := bV true) A λa A↦?_
        refine qa (hK35 _ _ (wp_cond_true (A.ev rfl) ?_))
        refine wsk fun K38 hK38 => wrl (sda A λa A↦?_)
        refine qa (hK38 _ _ (wp_ret (hret _ _ (en1 A rfl (qf rfl) ?_))))
        exact ⟨by rw [← hr, jl, sh6 hSA hSB hSC hSD (.inl ⟨by omega, by omega, by omega⟩)], M.bel⟩
       ·
        have hb37' := bne_eq_false_iff_eq.1 hb37
        refine sdc A zg hb37 λa A↦?_
        refine sdk (v := bV false) A λa A↦?_
        refine qa (hK35 _ _ (wp_cond_false (A.ev rfl) ?_))
        refine wp_skip ?_
        exact hJ21 _ _ ⟨⟨fun h => by omega, fun h => absurd h (by omega), fun h h2 => by omega⟩, A.keep _ ⟨rfl, rfl, trivial⟩, M⟩
      ·
       have hb36' := bne_eq_false_iff_eq.1 hb36
       refine sdc A zg hb36 λa A↦?_
       refine sdm A λa A↦?_
       iterate 3 refine qj A rfl rfl rfl λa A↦?_
       refine sdk (v := bV false) A λa A↦?_
       refine qa (hK35 _ _ (wp_cond_false (A.ev rfl) ?_))
       refine wp_skip ?_
       exact hJ21 _ _ ⟨⟨fun h => by omega, fun h => absurd h (by omega), fun h h2 => by omega⟩, A.keep _ ⟨rfl, rfl, trivial⟩, M⟩
     ·
      have hb34' := ne_of_beq_false hb34
      refine sdc A qr hb34 λa A↦?_
      refine sda A λa A↦?_
      refine qa (hK33 _ _ (wp_cond_false (A.ev rfl) ?_))
      refine wsk fun K39 hK39 => wrl ?_
      rcases tf ((d.k == 4)) with hb40 | hb40
      ·
       have hb40' := eq_of_beq hb40
       refine sdc A qr hb40 λa A↦?_
       refine sda A λa A↦?_
       refine qa (hK39 _ _ (wp_cond_true (A.ev rfl) ?_))
       refine wsk fun K41 hK41 => wrl (sdo (v := pA g2 1) A (qb xy rfl rfl) λa A↦?_)
       refine sdo A (qh M o93 rfl 0 rfl rfl) λa A↦?_
       rcases tf (kt d.n) with hb42 | hb42
       ·
        refine gcl A M (ef rfl rfl) (qsd hb42) fun w44 hb43 M a A => ?_
        refine sdo (v := bV false) A (zi rfl zm) λa A↦?_
        refine qa (hK41 _ _ (wp_cond_false (A.ev rfl) ?_))
        refine wp_skip ?_
        exact hJ21 _ _ ⟨⟨fun h => by omega, fun h => hb42, fun h h2 => by omega⟩, A.keep _ ⟨rfl, rfl, trivial⟩, M⟩
       ·
        refine gcl A M (ef rfl rfl) (qsd hb42) fun w46 hb45 M a A => ?_
        refine sdo (v := bV true) A (zi rfl zm) λa A↦?_
        refine qa (hK41 _ _ (wp_cond_true (A.ev rfl) ?_))
        refine wsk fun K47 hK47 => wrl (sda A λa A↦?_)
        refine qa (hK47 _ _ (wp_ret (hret _ _ (en1 A rfl (qf rfl) ?_))))
        exact ⟨by rw [← hr, jl, sh6 hSA hSB hSC hSD (.inr (.inl ⟨by omega, hb42⟩))], M.bel⟩
      ·
       have hb40' := ne_of_beq_false hb40
       refine sdc A qr hb40 λa A↦?_
       refine sda A λa A↦?_
       refine qa (hK39 _ _ (wp_cond_false (A.ev rfl) ?_))
       refine wsk fun K48 hK48 => wrl (sdo (v := pA g2 1) A (qb xy rfl rfl) λa A↦?_)
       refine sdo A (qh M o93 rfl 0 rfl rfl) λa A↦?_
       rcases tf ((d.n != 0)) with hb49 | hb49
       ·
        have hb49' := bne_iff_ne.1 hb49
        refine sdc A zg hb49 λa A↦?_
        refine qa (hK48 _ _ (wp_cond_true (A.ev rfl) ?_))
        refine wsk fun K50 hK50 => wrl (sda A λa A↦?_)
        refine qa (hK50 _ _ (wp_ret (hret _ _ (en1 A rfl (qf rfl) ?_))))
        exact ⟨by rw [← hr, jl, sh6 hSA hSB hSC hSD (.inr (.inr ⟨by omega, by omega, by omega⟩))], M.bel⟩
       ·
        have hb49' := bne_eq_false_iff_eq.1 hb49
        refine sdc A zg hb49 λa A↦?_
        refine qa (hK48 _ _ (wp_cond_false (A.ev rfl) ?_))
        refine wp_skip ?_
        exact hJ21 _ _ ⟨⟨fun h => by omega, fun h => absurd h (by omega), fun h h2 => by omega⟩, A.keep _ ⟨rfl, rfl, trivial⟩, M⟩
    refine wsk fun K51 hK51 => wrl (sdo (v := pA g2 9) A (qb qab rfl rfl) λa A↦?_)
    refine sdo A (qh M qyc rfl 0 rfl rfl) λa A↦?_
    refine sdo A (qn Tryz.underlying40 rfl) λa A↦?_
    rcases tf (decide (0 < ((d.rl.length : Nat) : Int))) with hb52 | hb52
    ·
     have hb52' := of_decide_eq_true hb52
     refine sdc A jk hb52 λa A↦?_
     refine sdm A λa A↦?_
     refine sdo (v := pA g2 0) A (qb vg rfl rfl) λa A↦?_
     refine sdo A (qh M o93 rfl 0 rfl rfl) λa A↦?_
     rcases tf ((d.k != 7)) with hb53 | hb53
     ·
      have hb53' := bne_iff_ne.1 hb53
      refine sdc A zg hb53 λa A↦?_
      refine sdk (v := bV true) A λa A↦?_
      refine qa (hK51 _ _ (wp_cond_true (A.ev rfl) ?_))
      refine wsk fun K54 hK54 => wrl (sda A λa A↦?_)
      refine qa (hK54 _ _ (wp_ret (hret _ _ (en1 A rfl (qf rfl) ?_))))
      exact ⟨by rw [← hr, jl, sh5 hSA hSB hSC ⟨by omega, by omega⟩], M.bel⟩
     ·
      have hb53' := bne_eq_false_iff_eq.1 hb53
      refine sdc A zg hb53 λa A↦?_
      refine sdk (v := bV false) A λa A↦?_
      refine qa (hK51 _ _ (wp_cond_false (A.ev rfl) ?_))
      refine wp_skip ?_
      exact hJ17 _ _ ⟨.inr (by omega), A.keep _ ⟨rfl, rfl, trivial⟩, M⟩
    ·
     have hb52' := of_decide_eq_false hb52
     refine sdc A jk hb52 λa A↦?_
     refine sdm A λa A↦?_
     iterate 3 refine qj A rfl rfl rfl λa A↦?_
     refine sdk (v := bV false) A λa A↦?_
     refine qa (hK51 _ _ (wp_cond_false (A.ev rfl) ?_))
     refine wp_skip ?_
     exact hJ17 _ _ ⟨.inl (by omega), A.keep _ ⟨rfl, rfl, trivial⟩, M⟩
   refine wsk fun K55 hK55 => wrl (sdo (v := pA g2 8) A (qb vl rfl rfl) λa A↦?_)
   refine sdo A (qh M o99 rfl 0 rfl rfl) λa A↦?_
   rcases tf (decide (d.s = ⟨#[]⟩)) with hb56 | hb56
   ·
    have hb56' := of_decide_eq_true hb56
    refine sdo (v := bV false) A (qg rfl rfl (fun w => (xe Tryz.underlying9 w).trans (by rw [hb56] <;> rfl))) λa A↦?_
    refine sdm A λa A↦?_
    iterate 3 refine qj A rfl rfl rfl λa A↦?_
    refine sdk (v := bV false) A λa A↦?_
    refine sdm A λa A↦?_
    iterate 3 refine qj A rfl rfl rfl λa A↦?_
    refine sdk (v := bV false) A λa A↦?_
    refine sdm A λa A↦?_
    iterate 3 refine qj A rfl rfl rfl λa A↦?_
    refine sdk (v := bV false) A λa A↦?_
    refine qa (hK55 _ _ (wp_cond_false (A.ev rfl) ?_))
    refine wp_skip ?_
    exact hJ13 _ _ ⟨.inl hb56', A.keep _ ⟨rfl, rfl, trivial⟩, M⟩
   ·
    have hb56' := of_decide_eq_false hb56
    refine sdo (v := bV true) A (qg rfl rfl (fun w => (xe Tryz.underlying9 w).trans (by rw [hb56] <;> rfl))) λa A↦?_
    refine sdm A λa A↦?_
    refine sdo (v := pA g2 0) A (qb vg rfl rfl) λa A↦?_
    refine sdo A (qh M o93 rfl 0 rfl rfl) λa A↦?_
    rcases tf ((d.k != 5)) with hb57 | hb57
    ·
     have hb57' := bne_iff_ne.1 hb57
     refine sdc A zg hb57 λa A↦?_
     refine sdk (v := bV true) A λa A↦?_
     refine sdm A λa A↦?_
     refine sdo (v := pA g2 0) A (qb vg rfl rfl) λa A↦?_
     refine sdo A (qh M o93 rfl 0 rfl rfl) λa A↦?_
     rcases tf ((d.k != 6)) with hb58 | hb58
     ·
      have hb58' := bne_iff_ne.1 hb58
      refine sdc A zg hb58 λa A↦?_
      refine sdk (v := bV true) A λa A↦?_
      refine sdm A λa A↦?_
      refine sdo (v := pA g2 0) A (qb vg rfl rfl) λa A↦?_
      refine sdo A (qh M o93 rfl 0 rfl rfl) λa A↦?_
      rcases tf ((d.k != 11)) with hb59 | hb59
      ·
       have hb59' := bne_iff_ne.1 hb59
       refine sdc A zg hb59 λa A↦?_
       refine sdk (v := bV true) A λa A↦?_
       refine qa (hK55 _ _ (wp_cond_true (A.ev rfl) ?_))
       refine wsk fun K60 hK60 => wrl (sda A λa A↦?_)
       refine qa (hK60 _ _ (wp_ret (hret _ _ (en1 A rfl (qf rfl) ?_))))
       exact ⟨by rw [← hr, jl, sh4 hSA hSB ⟨hb56', by omega, by omega, by omega⟩], M.bel⟩
      ·
       have hb59' := bne_eq_false_iff_eq.1 hb59
       refine sdc A zg hb59 λa A↦?_
       refine sdk (v := bV false) A λa A↦?_
       refine qa (hK55 _ _ (wp_cond_false (A.ev rfl) ?_))
       refine wp_skip ?_
       exact hJ13 _ _ ⟨.inr (by omega), A.keep _ ⟨rfl, rfl, trivial⟩, M⟩
     ·
      have hb58' := bne_eq_false_iff_eq.1 hb58
      refine sdc A zg hb58 λa A↦?_
      refine sdk (v := bV false) A λa A↦?_
      refine sdm A λa A↦?_
      iterate 3 refine qj A rfl rfl rfl λa A↦?_
      refine sdk (v := bV false) A λa A↦?_
      refine qa (hK55 _ _ (wp_cond_false (A.ev rfl) ?_))
      refine wp_skip ?_
      exact hJ13 _ _ ⟨.inr (by omega), A.keep _ ⟨rfl, rfl, trivial⟩, M⟩
    ·
     have hb57' := bne_eq_false_iff_eq.1 hb57
     refine sdc A zg hb57 λa A↦?_
     refine sdk (v := bV false) A λa A↦?_
     refine sdm A λa A↦?_
     iterate 3 refine qj A rfl rfl rfl λa A↦?_
     refine sdk (v := bV false) A λa A↦?_
     refine sdm A λa A↦?_
     iterate 3 refine qj A rfl rfl rfl λa A↦?_
     refine sdk (v := bV false) A λa A↦?_
     refine qa (hK55 _ _ (wp_cond_false (A.ev rfl) ?_))
     refine wp_skip ?_
     exact hJ13 _ _ ⟨.inr (by omega), A.keep _ ⟨rfl, rfl, trivial⟩, M⟩
  refine wsk fun K61 hK61 => wrl (sdo (v := pA g2 0) A (qb vg rfl rfl) λa A↦?_)
  refine sdo A (qh M o93 rfl 0 rfl rfl) λa A↦?_
  rcases tf ((d.k == 3)) with hb62 | hb62
  ·
   have hb62' := eq_of_beq hb62
   refine sdc A qr hb62 λa A↦?_
   refine qa (hK61 _ _ (wp_cond_true (A.ev rfl) ?_))
   refine wsk fun K63 hK63 => wrl (sdo (v := pA g2 2) A (qb kx rfl rfl) λa A↦?_)
   refine sdo A (qz M ztj rfl 0 rfl (cs := [bV d.y.q.b1, .slice d.y.o1 d.y.q.t1.length d.y.c1, .slice d.y.o2 d.y.q.q1.length d.y.c2, bV d.y.q.b2, .slice d.y.o3 d.y.q.t2.length d.y.c3, .slice d.y.o4 d.y.q.q2.length d.y.c4]) rfl rfl) λa A↦?_
   rcases tf (vw d.y.q) with hb64 | hb64
   ·
    refine gcl A M (ef rfl rfl) (qjb (Nu.below hok.num M.bel) hok.len hb64) fun w66 hb65 M a A => ?_
    refine sdo (v := bV false) A (zi rfl zm) λa A↦?_
    refine qa (hK63 _ _ (wp_cond_false (A.ev rfl) ?_))
    refine wp_skip ?_
    exact hJ9 _ _ ⟨⟨fun _ => hb64, fun h => absurd (show d.k = 3 by omega) h⟩, A.keep _ ⟨rfl, rfl, trivial⟩, M⟩
   ·
    refine gcl A M (ef rfl rfl) (qjb (Nu.below hok.num M.bel) hok.len hb64) fun w68 hb67 M a A => ?_
    refine sdo (v := bV true) A (zi rfl zm) λa A↦?_
    refine qa (hK63 _ _ (wp_cond_true (A.ev rfl) ?_))
    refine wsk fun K69 hK69 => wrl (sda A λa A↦?_)
    refine qa (hK69 _ _ (wp_ret (hret _ _ (en1 A rfl (qf rfl) ?_))))
    exact ⟨by rw [← hr, jl, sh2 hSA (by omega) hb64], M.bel⟩
  ·
   have hb62' := ne_of_beq_false hb62
   refine sdc A qr hb62 λa A↦?_
   refine qa (hK61 _ _ (wp_cond_false (A.ev rfl) ?_))
   refine wsk fun K70 hK70 => wrl (sdo (v := pA g2 2) A (qb kx rfl rfl) λa A↦?_)
   refine sdo (v := pA g2 2) A (qb zcd rfl rfl) λa A↦?_
   refine sdo A (qz M zcf rfl 0 rfl (cs := [bV d.y.q.b1, .slice d.y.o1 d.y.q.t1.length d.y.c1, .slice d.y.o2 d.y.q.q1.length d.y.c2]) rfl rfl) λa A↦?_
   rcases tf (kr d.y.q.b1 d.y.q.t1.length d.y.q.q1.length) with hb71 | hb71
   ·
    refine gcl A M (ef rfl rfl) (qch hok.len.l1 hok.len.l2 hb71) fun w73 hb72 M a A => ?_
    refine sdo (v := bV false) A (zi rfl zm) λa A↦?_
    refine sdm A λa A↦?_
    refine sdo (v := pA g2 2) A (qb kx rfl rfl) λa A↦?_
    refine sdo (v := pA g2 5) A (qb zce rfl rfl) λa A↦?_
    refine sdo A (qz M zcf rfl 0 rfl (cs := [bV d.y.q.b2, .slice d.y.o3 d.y.q.t2.length d.y.c3, .slice d.y.o4 d.y.q.q2.length d.y.c4]) rfl rfl) λa A↦?_
    rcases tf (kr d.y.q.b2 d.y.q.t2.length d.y.q.q2.length) with hb74 | hb74
    ·
     refine gcl A M (ef rfl rfl) (qch hok.len.l3 hok.len.l4 hb74) fun w76 hb75 M a A => ?_
     refine sdo (v := bV false) A (zi rfl zm) λa A↦?_
     refine sdk (v := bV false) A λa A↦?_
     refine qa (hK70 _ _ (wp_cond_false (A.ev rfl) ?_))
     refine wp_skip ?_
     exact hJ9 _ _ ⟨⟨fun h => absurd h (by omega), fun _ => ⟨hb71, hb74⟩⟩, A.keep _ ⟨rfl, rfl, trivial⟩, M⟩
    ·
     refine gcl A M (ef rfl rfl) (qch hok.len.l3 hok.len.l4 hb74) fun w78 hb77 M a A => ?_
     refine sdo (v := bV true) A (zi rfl zm) λa A↦?_
     refine sdk (v := bV true) A λa A↦?_
     refine qa (hK70 _ _ (wp_cond_true (A.ev rfl) ?_))
     refine wsk fun K79 hK79 => wrl (sda A λa A↦?_)
     refine qa (hK79 _ _ (wp_ret (hret _ _ (en1 A rfl (qf rfl) ?_))))
     exact ⟨by rw [← hr, jl, sh3 hSA (by omega) (.inr hb74)], M.bel⟩
   ·
    refine gcl A M (ef rfl rfl) (qch hok.len.l1 hok.len.l2 hb71) fun w81 hb80 M a A => ?_
    refine sdo (v := bV true) A (zi rfl zm) λa A↦?_
    refine sdm A λa A↦?_
    iterate 5 refine qj A rfl rfl rfl λa A↦?_
    refine sdk (v := bV true) A λa A↦?_
    refine qa (hK70 _ _ (wp_cond_true (A.ev rfl) ?_))
    refine wsk fun K82 hK82 => wrl (sda A λa A↦?_)
    refine qa (hK82 _ _ (wp_ret (hret _ _ (en1 A rfl (qf rfl) ?_))))
    exact ⟨by rw [← hr, jl, sh3 hSA (by omega) (.inl hb71)], M.bel⟩
 refine wsk fun K83 hK83 => wrl (sdo (v := pA g2 0) A (qb vg rfl rfl) λa A↦?_)
 refine sdo A (qh M o93 rfl 0 rfl rfl) λa A↦?_
 rcases tf (decide (d.k < 1)) with hb84 | hb84
 ·
  have hb84' := of_decide_eq_true hb84
  refine sdc A qw hb84 λa A↦?_
  refine sdm A λa A↦?_
  iterate 3 refine qj A rfl rfl rfl λa A↦?_
  refine sdk (v := bV true) A λa A↦?_
  refine sdm A λa A↦?_
  iterate 4 refine qj A rfl rfl rfl λa A↦?_
  refine sdk (v := bV true) A λa A↦?_
  refine qa (hK83 _ _ (wp_cond_true (A.ev rfl) ?_))
  refine wsk fun K85 hK85 => wrl (sda A λa A↦?_)
  refine qa (hK85 _ _ (wp_ret (hret _ _ (en1 A rfl (qf rfl) ?_))))
  exact ⟨by rw [← hr, jl, sh1 (by omega)], M.bel⟩
 ·
  have hb84' := of_decide_eq_false hb84
  refine sdc A qw hb84 λa A↦?_
  refine sdm A λa A↦?_
  refine sdo (v := pA g2 0) A (qb vg rfl rfl) λa A↦?_
  refine sdo A (qh M o93 rfl 0 rfl rfl) λa A↦?_
  rcases tf (decide (11 < d.k)) with hb86 | hb86
  ·
   have hb86' := of_decide_eq_true hb86
   refine sdc A jk hb86 λa A↦?_
   refine sdk (v := bV true) A λa A↦?_
   refine sdm A λa A↦?_
   iterate 4 refine qj A rfl rfl rfl λa A↦?_
   refine sdk (v := bV true) A λa A↦?_
   refine qa (hK83 _ _ (wp_cond_true (A.ev rfl) ?_))
   refine wsk fun K87 hK87 => wrl (sda A λa A↦?_)
   refine qa (hK87 _ _ (wp_ret (hret _ _ (en1 A rfl (qf rfl) ?_))))
   exact ⟨by rw [← hr, jl, sh1 (by omega)], M.bel⟩
  ·
   have hb86' := of_decide_eq_false hb86
   refine sdc A jk hb86 λa A↦?_
   refine sdk (v := bV false) A λa A↦?_
   refine sdm A λa A↦?_
   refine sdo (v := pA g2 8) A (qb vl rfl rfl) λa A↦?_
   refine sdo A (qh M o99 rfl 0 rfl rfl) λa A↦?_
   rcases tf (okS d.s) with hb88 | hb88
   ·
    refine gcl A M (ef rfl rfl) (qpa hs2 hb88) fun w90 hb89 M a A => ?_
    refine sdo (v := bV false) A (zi rfl zm) λa A↦?_
    refine sdk (v := bV false) A λa A↦?_
    refine qa (hK83 _ _ (wp_cond_false (A.ev rfl) ?_))
    refine wp_skip ?_
    exact hJ5 _ _ ⟨⟨by omega, by omega, hb88⟩, A.keep _ ⟨rfl, rfl, trivial⟩, M⟩
   ·
    refine gcl A M (ef rfl rfl) (qpa hs2 hb88) fun w92 hb91 M a A => ?_
    refine sdo (v := bV true) A (zi rfl zm) λa A↦?_
    refine sdk (v := bV true) A λa A↦?_
    refine qa (hK83 _ _ (wp_cond_true (A.ev rfl) ?_))
    refine wsk fun K93 hK93 => wrl (sda A λa A↦?_)
    refine qa (hK93 _ _ (wp_ret (hret _ _ (en1 A rfl (qf rfl) ?_))))
    exact ⟨by rw [← hr, jl, sh1 (.inr (.inr hb88))], M.bel⟩
def Counts (t : Dt) : Prop := ∀ {w : World} {dp left : Int}, t.rd w → t.tr.bulk ≤ 4000000 → 0 ≤ left → left ≤ 20000 → 0 ≤ dp → dp ≤ 201 → Calls Tryz.prog 58 #[.agg t.cells.toArray, iV dp, iV left] w fun e w' => e = .returned (iV (qcj zx dp left t.tr)) ∧ Below w.heap.size w w'
theorem zli : ∀ t : Dt, Counts t := Dt.indT fun d ts ih => by
 intro w dp left hrd hbk hl0 hl1 hd0 hd1
 have hok := (Dt.rd_iff.1 hrd)
 have hlen : ts.length ≤ 9223372036854775807 := Nat.le_trans hok.2.1 hok.2.2.1
 have M : Mg w w ([]) := Mg.start w
 refine qs (l := [(0, .agg (d.cells ts.length).toArray), (1, iV dp), (2, iV left)]) Tryz.func58 rfl Tryz.ntmps58 rfl rfl ?_
 intro Q hret hnorm hP a A
 refine wsk fun K1 hK1 => wrl (zy (vs := [iV d.k, iV d.n, bV d.y.q.b1, .slice d.y.o1 d.y.q.t1.length d.y.c1, .slice d.y.o2 d.y.q.q1.length d.y.c2, bV d.y.q.b2, .slice d.y.o3 d.y.q.t2.length d.y.c3, .slice d.y.o4 d.y.q.q2.length d.y.c4, .string d.s, .slice d.ro d.rl.length d.rc, .slice d.lo ts.length d.lc]) (t := 42) A M rfl rfl rfl pg (zf rfl rfl) (by decide) ?_)
 intro g2 w3 M a A
 refine sda A λa A↦?_
 refine qa (hK1 _ _ (wsk fun K4 hK4 => wsk fun K5 hK5 => wrl (sdm A λa A↦?_)))
 rcases tf (decide (200 < dp)) with hb6 | hb6
 ·
  have hb6' := of_decide_eq_true hb6
  refine sdc A jk hb6 λa A↦?_
  refine sdm A λa A↦?_
  iterate 2 refine qj A rfl rfl rfl λa A↦?_
  refine sdk (v := bV true) A λa A↦?_
  refine sdm A λa A↦?_
  iterate 3 refine qj A rfl rfl rfl λa A↦?_
  refine sdk (v := bV true) A λa A↦?_
  refine qa (hK5 _ _ (wp_cond_true (A.ev rfl) ?_))
  refine wsk fun K7 hK7 => wrl (sda A λa A↦?_)
  refine qa (hK7 _ _ (wp_ret (hret _ _ (en1 A rfl (qf rfl) ?_))))
  rw [qtg (by omega)]
  exact ⟨rfl, M.bel⟩
 ·
  have hb6' := of_decide_eq_false hb6
  refine sdc A jk hb6 λa A↦?_
  iterate 2 refine sdm A λa A↦?_
  rcases tf (decide (left ≤ 0)) with hb8 | hb8
  ·
   have hb8' := of_decide_eq_true hb8
   refine sdc A vv hb8 λa A↦?_
   refine sdk (v := bV true) A λa A↦?_
   refine sdm A λa A↦?_
   iterate 3 refine qj A rfl rfl rfl λa A↦?_
   refine sdk (v := bV true) A λa A↦?_
   refine qa (hK5 _ _ (wp_cond_true (A.ev rfl) ?_))
   refine wsk fun K9 hK9 => wrl (sda A λa A↦?_)
   refine qa (hK9 _ _ (wp_ret (hret _ _ (en1 A rfl (qf rfl) ?_))))
   rw [qtg (by omega)]
   exact ⟨rfl, M.bel⟩
  ·
   have hb8' := of_decide_eq_false hb8
   refine sdc A vv hb8 λa A↦?_
   refine sdk (v := bV false) A λa A↦?_
   refine sdm A λa A↦?_
   refine sdo A (qz M xz rfl 0 rfl (cs := [iV d.k, iV d.n, bV d.y.q.b1, .slice d.y.o1 d.y.q.t1.length d.y.c1, .slice d.y.o2 d.y.q.q1.length d.y.c2, bV d.y.q.b2, .slice d.y.o3 d.y.q.t2.length d.y.c3, .slice d.y.o4 d.y.q.q2.length d.y.c4, .string d.s, .slice d.ro d.rl.length d.rc, .slice d.lo ts.length d.lc]) rfl rfl) λa A↦?_
   rcases tf (jp d.k d.n d.y.q d.s d.rl.length ts.length) with hb10 | hb10
   ·
    refine gcl A M (ef rfl rfl) (qpb (hok.1.below M.bel) (Nat.le_trans qrc hbk) hlen hb10) fun w12 hb11 M a A => ?_
    refine sdo (v := bV false) A (zi rfl zm) λa A↦?_
    refine sdk (v := bV false) A λa A↦?_
    refine qa (hK5 _ _ (wp_cond_false (A.ev rfl) ?_))
    refine wp_skip (hK4 _ _ (wsk fun K13 hK13 => wrl (sdm A λa A↦?_)))
    refine sdo (v := iV (left - 1)) A (qg rfl rfl (kn (ji (by omega) (by omega)))) λa A↦?_
    refine sda A λa A↦?_
    refine qa (hK13 _ _ (wsk fun K14 hK14 => wsk fun K15 hK15 => wrl (sda A λa A↦?_)))
    refine qa (hK15 _ _ (wp_block (zt (fun m_ a w1 => ∃ (i : Nat) (m : Int), m_ = 1 + (ts.length - i) ∧ (i ≤ ts.length ∧ qfd zx dp (decide (d.k = 8)) 0 (left - 1) ((ts.map Dt.tr).drop 0) = qfd zx dp (decide (d.k = 8)) i m ((ts.map Dt.tr).drop i) ∧ -1 ≤ m ∧ m ≤ 20000) ∧ Sl a 52 [(0, .agg (d.cells ts.length).toArray), (1, iV dp), (2, iV m), (3, pA g2 0), (6, iV 0), (7, iV (((i : Nat) : Int))), (9, iV dp), (10, bV false), (11, bV false), (12, iV left), (13, bV false), (14, bV false), (15, bV false), (16, .agg (d.cells ts.length).toArray), (17, bV true), (18, bV false), (19, bV false), (20, iV left), (21, iV (left - 1))] ∧ Mg w w1 (.obj g2 (.cells (d.cells ts.length).toArray 42) :: [])) _ ⟨0, left - 1, rfl, ⟨Nat.zero_le _, rfl, by omega, by omega⟩, A.keep _ (by repeat' constructor), M⟩ ?_)))
    clear M A
    rintro m_ a w16 ⟨i, m, rfl, hinv18, A, M⟩ K17 hK17
    obtain ⟨hi0, hin9, hm0, hm1_⟩ := hinv18
    refine wsk fun K19 hK19 => wsk fun K20 hK20 => wrl (sdm A λa A↦?_)
    refine sdo (v := pA g2 10) A (qb xd rfl rfl) λa A↦?_
    refine sdo A (qh M kw rfl 0 rfl rfl) λa A↦?_
    refine sdo A (qn Tryz.underlying34 rfl) λa A↦?_
    rcases tf (decide (((i : Nat) : Int) < ((ts.length : Nat) : Int))) with hb21 | hb21
    ·
     have hb21' := of_decide_eq_true hb21
     refine sdc A qw hb21 λa A↦?_
     iterate 2 refine sdm A λa A↦?_
     rcases tf (decide (0 ≤ m)) with hb22 | hb22
     ·
      have hb22' := of_decide_eq_true hb22
      refine sdc A zl hb22 λa A↦?_
      refine sdk (v := bV true) A λa A↦?_
      refine qa (hK20 _ _ (wp_cond_true (A.ev rfl) ?_))
      refine wp_skip (hK19 _ _ (wsk fun K23 hK23 => wp_block (wsk fun K24 hK24 => wrl (sdm A λa A↦?_))))
      refine sdo (v := iV (dp + 1)) A (qg rfl rfl (ja (ji (by omega) (by omega)))) λa A↦?_
      refine sda A λa A↦?_
      refine qa (hK24 _ _ (wsk fun K25 hK25 => wsk fun K26 hK26 => wrl (sdo (v := pA g2 0) A (qb vg rfl rfl) λa A↦?_)))
      refine sdo A (qh M o93 rfl 0 rfl rfl) λa A↦?_
      rcases tf ((d.k == 8)) with hb27 | hb27
      ·
       have hb27' := eq_of_beq hb27
       refine sdc A qr hb27 λa A↦?_
       iterate 2 refine sdm A λa A↦?_
       rcases tf ((((i : Nat) : Int) == 1)) with hb28 | hb28
       ·
        have hb28' := eq_of_beq hb28
        refine sdc A qr hb28 λa A↦?_
        refine sdk (v := bV true) A λa A↦?_
        refine qa (hK26 _ _ (wp_cond_true (A.ev rfl) ?_))
        refine wrl (sdm A λa A↦?_)
        refine sda A λa A↦?_
        refine qa (hK25 _ _ ?_)
        obtain ⟨t1, b1, o1, hi1, hm1, hr1, hl1, hH1⟩ := kid hrd (i := i) (by omega)
        have hD : (if decide (d.k = 8) = true ∧ i = 1 then dp else dp + 1) = dp := if_pos ⟨decide_eq_true hb27', by omega⟩
        refine wrl (sdo (v := pA g2 10) A (qb xd rfl rfl) λa A↦?_)
        refine sdo A (qh M kw rfl 0 rfl rfl) λa A↦?_
        refine sdm A λa A↦?_
        refine sdo (v := pA b1 (o1 + i * 11)) A (qx (k := i) Tryz.underlying34 (by kernel_rfl) rfl rfl rfl hl1 (by omega)) λa A↦?_
        refine sdo A (xa M hH1 xz rfl rfl) λa A↦?_
        iterate 2 refine sdm A λa A↦?_
        refine gcl A M (ef rfl rfl) (ih t1 hm1 (Dt.keep M.bel _ hr1) (by have := qff (d := d) hm1; omega) (by omega) (by omega) (by omega) (by omega)) fun w30 hb29 M a A => ?_
        refine sda A λa A↦?_
        refine qa (hK23 _ _ (wrl (sdm A λa A↦?_)))
        refine sdo (v := iV (((i + 1 : Nat) : Int))) A (qg rfl rfl (fun w => (ja (ji (by omega) (by omega)) w).trans (by rw [show (((i : Nat) : Int) + 1 : Int) = ((i + 1 : Nat) : Int) from by omega]))) λa A↦?_
        refine sda A λa A↦?_
        refine qa ?_
        have hc9 := zbd zx t1.tr (dp) m (by omega)
        refine hK17 _ _ _ (by omega) ⟨i + 1, qcj zx (dp) m t1.tr, rfl, ⟨by omega, by rw [hin9, qth hi1 (by omega) hD], by omega, by omega⟩, A.keep _ (by repeat' constructor), M⟩
       ·
        have hb28' := ne_of_beq_false hb28
        refine sdc A qr hb28 λa A↦?_
        refine sdk (v := bV false) A λa A↦?_
        refine qa (hK26 _ _ (wp_cond_false (A.ev rfl) ?_))
        refine wp_skip (hK25 _ _ ?_)
        obtain ⟨t1, b1, o1, hi1, hm1, hr1, hl1, hH1⟩ := kid hrd (i := i) (by omega)
        have hD : (if decide (d.k = 8) = true ∧ i = 1 then dp else dp + 1) = dp + 1 := if_neg (fun e => by omega)
        refine wrl (sdo (v := pA g2 10) A (qb xd rfl rfl) λa A↦?_)
        refine sdo A (qh M kw rfl 0 rfl rfl) λa A↦?_
        refine sdm A λa A↦?_
        refine sdo (v := pA b1 (o1 + i * 11)) A (qx (k := i) Tryz.underlying34 (by kernel_rfl) rfl rfl rfl hl1 (by omega)) λa A↦?_
        refine sdo A (xa M hH1 xz rfl rfl) λa A↦?_
        iterate 2 refine sdm A λa A↦?_
        refine gcl A M (ef rfl rfl) (ih t1 hm1 (Dt.keep M.bel _ hr1) (by have := qff (d := d) hm1; omega) (by omega) (by omega) (by omega) (by omega)) fun w32 hb31 M a A => ?_
        refine sda A λa A↦?_
        refine qa (hK23 _ _ (wrl (sdm A λa A↦?_)))
        refine sdo (v := iV (((i + 1 : Nat) : Int))) A (qg rfl rfl (fun w => (ja (ji (by omega) (by omega)) w).trans (by rw [show (((i : Nat) : Int) + 1 : Int) = ((i + 1 : Nat) : Int) from by omega]))) λa A↦?_
        refine sda A λa A↦?_
        refine qa ?_
        have hc9 := zbd zx t1.tr (dp + 1) m (by omega)
        refine hK17 _ _ _ (by omega) ⟨i + 1, qcj zx (dp + 1) m t1.tr, rfl, ⟨by omega, by rw [hin9, qth hi1 (by omega) hD], by omega, by omega⟩, A.keep _ (by repeat' constructor), M⟩
      ·
       have hb27' := ne_of_beq_false hb27
       refine sdc A qr hb27 λa A↦?_
       refine sdm A λa A↦?_
       iterate 2 refine qj A rfl rfl rfl λa A↦?_
       refine sdk (v := bV false) A λa A↦?_
       refine qa (hK26 _ _ (wp_cond_false (A.ev rfl) ?_))
       refine wp_skip (hK25 _ _ ?_)
       obtain ⟨t1, b1, o1, hi1, hm1, hr1, hl1, hH1⟩ := kid hrd (i := i) (by omega)
       have hD : (if decide (d.k = 8) = true ∧ i = 1 then dp else dp + 1) = dp + 1 := if_neg (fun e => hb27' (of_decide_eq_true e.1))
       refine wrl (sdo (v := pA g2 10) A (qb xd rfl rfl) λa A↦?_)
       refine sdo A (qh M kw rfl 0 rfl rfl) λa A↦?_
       refine sdm A λa A↦?_
       refine sdo (v := pA b1 (o1 + i * 11)) A (qx (k := i) Tryz.underlying34 (by kernel_rfl) rfl rfl rfl hl1 (by omega)) λa A↦?_
       refine sdo A (xa M hH1 xz rfl rfl) λa A↦?_
       iterate 2 refine sdm A λa A↦?_
       refine gcl A M (ef rfl rfl) (ih t1 hm1 (Dt.keep M.bel _ hr1) (by have := qff (d := d) hm1; omega) (by omega) (by omega) (by omega) (by omega)) fun w34 hb33 M a A => ?_
       refine sda A λa A↦?_
       refine qa (hK23 _ _ (wrl (sdm A λa A↦?_)))
       refine sdo (v := iV (((i + 1 : Nat) : Int))) A (qg rfl rfl (fun w => (ja (ji (by omega) (by omega)) w).trans (by rw [show (((i : Nat) : Int) + 1 : Int) = ((i + 1 : Nat) : Int) from by omega]))) λa A↦?_
       refine sda A λa A↦?_
       refine qa ?_
       have hc9 := zbd zx t1.tr (dp + 1) m (by omega)
       refine hK17 _ _ _ (by omega) ⟨i + 1, qcj zx (dp + 1) m t1.tr, rfl, ⟨by omega, by rw [hin9, qth hi1 (by omega) hD], by omega, by omega⟩, A.keep _ (by repeat' constructor), M⟩
     ·
      have hb22' := of_decide_eq_false hb22
      refine sdc A zl hb22 λa A↦?_
      refine sdk (v := bV false) A λa A↦?_
      refine qa (hK20 _ _ (wp_cond_false (A.ev rfl) ?_))
      refine wp_exit (hK14 _ _ (wsk fun K35 hK35 => wrl (sdm A λa A↦?_)))
      refine sda A λa A↦?_
      refine qa (hK35 _ _ (wp_ret (hret _ _ (en1 A rfl (qf rfl) ?_))))
      rw [zgb (by omega) (by omega) (by rw [yj]; exact hb10), hin9, qld (by omega)]
      exact ⟨rfl, M.bel⟩
    ·
     have hb21' := of_decide_eq_false hb21
     refine sdc A qw hb21 λa A↦?_
     refine sdm A λa A↦?_
     iterate 2 refine qj A rfl rfl rfl λa A↦?_
     refine sdk (v := bV false) A λa A↦?_
     refine qa (hK20 _ _ (wp_cond_false (A.ev rfl) ?_))
     refine wp_exit (hK14 _ _ (wsk fun K36 hK36 => wrl (sdm A λa A↦?_)))
     refine sda A λa A↦?_
     refine qa (hK36 _ _ (wp_ret (hret _ _ (en1 A rfl (qf rfl) ?_))))
     rw [zgb (by omega) (by omega) (by rw [yj]; exact hb10), hin9, qcc (by omega), qfd]
     exact ⟨rfl, M.bel⟩
   ·
    refine gcl A M (ef rfl rfl) (qpb (hok.1.below M.bel) (Nat.le_trans qrc hbk) hlen hb10) fun w38 hb37 M a A => ?_
    refine sdo (v := bV true) A (zi rfl zm) λa A↦?_
    refine sdk (v := bV true) A λa A↦?_
    refine qa (hK5 _ _ (wp_cond_true (A.ev rfl) ?_))
    refine wsk fun K39 hK39 => wrl (sda A λa A↦?_)
    refine qa (hK39 _ _ (wp_ret (hret _ _ (en1 A rfl (qf rfl) ?_))))
    rw [qtg (.inr (.inr (by rw [yj]; exact hb10)))]
    exact ⟨rfl, M.bel⟩
theorem zlj {w : World} {d : Nd} {ts : List Dt} (hrd : (Dt.mk d ts).rd w) (hbk : (Dt.mk d ts).tr.bulk ≤ 4000000) : Calls Tryz.prog 36 #[.agg (d.cells ts.length).toArray] w fun e w' => e = .returned (bV (jh zx (Dt.mk d ts).tr)) ∧ Below w.heap.size w w' := by
 have M : Mg w w ([]) := Mg.start w
 refine qs (l := [(0, .agg (d.cells ts.length).toArray)]) Tryz.func36 rfl Tryz.ntmps36 rfl rfl ?_
 intro Q hret hnorm hP a A
 refine wsk fun K1 hK1 => wrl (zy (vs := [iV d.k, iV d.n, bV d.y.q.b1, .slice d.y.o1 d.y.q.t1.length d.y.c1, .slice d.y.o2 d.y.q.q1.length d.y.c2, bV d.y.q.b2, .slice d.y.o3 d.y.q.t2.length d.y.c3, .slice d.y.o4 d.y.q.q2.length d.y.c4, .string d.s, .slice d.ro d.rl.length d.rc, .slice d.lo ts.length d.lc]) (t := 42) A M rfl rfl rfl pg (zf rfl rfl) (by decide) ?_)
 intro g2 w3 M a A
 refine sda A λa A↦?_
 refine qa (hK1 _ _ (wsk fun K4 hK4 => wrl (sdo A (qz M xz rfl 0 rfl (cs := [iV d.k, iV d.n, bV d.y.q.b1, .slice d.y.o1 d.y.q.t1.length d.y.c1, .slice d.y.o2 d.y.q.q1.length d.y.c2, bV d.y.q.b2, .slice d.y.o3 d.y.q.t2.length d.y.c3, .slice d.y.o4 d.y.q.q2.length d.y.c4, .string d.s, .slice d.ro d.rl.length d.rc, .slice d.lo ts.length d.lc]) rfl rfl) λa A↦?_)))
 refine gcl A M (ef rfl rfl) (zli (Dt.mk d ts) (Dt.keep M.bel _ hrd) hbk (by omega) (by omega) (by omega) (by omega)) fun w5 hb9 M a A => ?_
 refine sdo (v := bV (decide (0 ≤ qcj zx 1 20000 (Dt.mk d ts).tr))) A (qg rfl rfl zl) λa A↦?_
 refine sda A λa A↦?_
 refine qa (hK4 _ _ (wp_ret (hret _ _ (en1 A rfl (qf rfl) ?_))))
 exact ⟨by rw [← qwi], M.bel⟩
theorem rsound_any {w : World} {t : Dt} (hrd : t.rd w) (hbk : t.tr.bulk ≤ 4000000) : Calls Tryz.prog 36 #[.agg t.cells.toArray] w fun e w' => e = .returned (bV (jh zx t.tr)) ∧ Below w.heap.size w w' := by
 obtain ⟨d, ts⟩ := t
 exact zlj hrd hbk
theorem qpc {w : World} {t u : Dt} (ht : t.rd w) (hu : u.rd w) {b : Bool} (h : SQ2 t u = b) : Calls Tryz.prog 40 #[t.d.y.val, u.d.y.val] w fun e w' => e = .returned (bV b) ∧ Below w.heap.size w w' := zej (Dt.okT ht).1.num (Dt.okT ht).1.len (Dt.okT hu).1.num (Dt.okT hu).1.len h
def RSames (n : Nat) : Prop := ∀ {w : World} {t u : Dt}, t.tr.bulk < n → t.rd w → u.rd w → Calls Tryz.prog 15 #[.agg (t.d.cells t.ts.length).toArray, .agg (u.d.cells u.ts.length).toArray] w fun e w' => e = .returned (bV (uu t.tr u.tr)) ∧ Below w.heap.size w w'
set_option maxHeartbeats 1000000 in
theorem zae {n : Nat} (ih : RSames n) : RSames (n + 1) := by
 intro w t u hn ht hu
 have hlt := (Dt.okT ht).2
 have hrt : t.d.rl.length ≤ 9223372036854775807 := Nat.le_trans (Dt.okT ht).1.rcap (Dt.okT ht).1.rmax
 have M : Mg w w ([]) := Mg.start w
 refine qs (l := [(0, .agg (t.d.cells t.ts.length).toArray), (1, .agg (u.d.cells u.ts.length).toArray)]) Tryz.func15 rfl Tryz.ntmps15 rfl rfl ?_
 intro Q hret hnorm hP a A
 refine wsk fun K1 hK1 => wrl (zy (vs := (t.d.cells t.ts.length)) (t := 42) A M rfl rfl rfl pg (zf rfl rfl) (by decide) ?_)
 intro g2 w3 M a A
 refine zy (vs := (u.d.cells u.ts.length)) (t := 42) A M rfl rfl rfl pg (zf rfl rfl) (by decide) ?_
 intro g4 w5 M a A
 refine sda A λa A↦?_
 refine qa (hK1 _ _ (wsk fun K6 hK6 => wsk fun K7 hK7 => wrl (sdo (v := pA g2 0) A (qb vg rfl rfl) λa A↦?_)))
 refine sdo A (qh M o93 rfl 1 rfl rfl) λa A↦?_
 refine sdo (v := pA g4 0) A (qb vg rfl rfl) λa A↦?_
 refine sdo A (qh M o93 rfl 0 rfl rfl) λa A↦?_
 rcases tf ((t.d.k != u.d.k)) with hb8 | hb8
 ·
  have hb8' := bne_iff_ne.1 hb8
  refine sdc A zg hb8 λa A↦?_
  refine sdm A λa A↦?_
  iterate 5 refine qj A rfl rfl rfl λa A↦?_
  refine sdk (v := bV true) A λa A↦?_
  refine sdm A λa A↦?_
  iterate 5 refine qj A rfl rfl rfl λa A↦?_
  refine sdk (v := bV true) A λa A↦?_
  refine sdm A λa A↦?_
  iterate 7 refine qj A rfl rfl rfl λa A↦?_
  refine sdk (v := bV true) A λa A↦?_
  refine sdm A λa A↦?_
  iterate 7 refine qj A rfl rfl rfl λa A↦?_
  refine sdk (v := bV true) A λa A↦?_
  refine sdm A λa A↦?_
  iterate 6 refine qj A rfl rfl rfl λa A↦?_
  refine sdk (v := bV true) A λa A↦?_
  refine qa (hK7 _ _ (wp_cond_true (A.ev rfl) ?_))
  refine wsk fun K9 hK9 => wrl (sda A λa A↦?_)
  refine qa (hK9 _ _ (wp_ret (hret _ _ (en1 A rfl (qf rfl) ?_))))
  exact ⟨by rw [qag (.inl hb8')], M.bel⟩
 ·
  have hb8' := bne_eq_false_iff_eq.1 hb8
  refine sdc A zg hb8 λa A↦?_
  refine sdm A λa A↦?_
  refine sdo (v := pA g2 1) A (qb xy rfl rfl) λa A↦?_
  refine sdo A (qh M o93 rfl 1 rfl rfl) λa A↦?_
  refine sdo (v := pA g4 1) A (qb xy rfl rfl) λa A↦?_
  refine sdo A (qh M o93 rfl 0 rfl rfl) λa A↦?_
  rcases tf ((t.d.n != u.d.n)) with hb10 | hb10
  ·
   have hb10' := bne_iff_ne.1 hb10
   refine sdc A zg hb10 λa A↦?_
   refine sdk (v := bV true) A λa A↦?_
   refine sdm A λa A↦?_
   iterate 5 refine qj A rfl rfl rfl λa A↦?_
   refine sdk (v := bV true) A λa A↦?_
   refine sdm A λa A↦?_
   iterate 7 refine qj A rfl rfl rfl λa A↦?_
   refine sdk (v := bV true) A λa A↦?_
   refine sdm A λa A↦?_
   iterate 7 refine qj A rfl rfl rfl λa A↦?_
   refine sdk (v := bV true) A λa A↦?_
   refine sdm A λa A↦?_
   iterate 6 refine qj A rfl rfl rfl λa A↦?_
   refine sdk (v := bV true) A λa A↦?_
   refine qa (hK7 _ _ (wp_cond_true (A.ev rfl) ?_))
   refine wsk fun K11 hK11 => wrl (sda A λa A↦?_)
   refine qa (hK11 _ _ (wp_ret (hret _ _ (en1 A rfl (qf rfl) ?_))))
   exact ⟨by rw [qag (.inr (.inl hb10'))], M.bel⟩
  ·
   have hb10' := bne_eq_false_iff_eq.1 hb10
   refine sdc A zg hb10 λa A↦?_
   refine sdk (v := bV false) A λa A↦?_
   refine sdm A λa A↦?_
   refine sdo (v := pA g2 8) A (qb vl rfl rfl) λa A↦?_
   refine sdo A (qh M o99 rfl 1 rfl rfl) λa A↦?_
   refine sdo (v := pA g4 8) A (qb vl rfl rfl) λa A↦?_
   refine sdo A (qh M o99 rfl 0 rfl rfl) λa A↦?_
   rcases tf (decide (t.d.s = u.d.s)) with hb12 | hb12
   ·
    have hb12' := of_decide_eq_true hb12
    refine sdo (v := bV false) A (qg rfl rfl (fun w => (xe Tryz.underlying9 w).trans (by rw [hb12] <;> rfl))) λa A↦?_
    refine sdk (v := bV false) A λa A↦?_
    refine sdm A λa A↦?_
    refine sdo (v := pA g2 9) A (qb qab rfl rfl) λa A↦?_
    refine sdo A (qh M qyc rfl 1 rfl rfl) λa A↦?_
    refine sdo A (qn Tryz.underlying40 rfl) λa A↦?_
    refine sdo (v := pA g4 9) A (qb qab rfl rfl) λa A↦?_
    refine sdo A (qh M qyc rfl 0 rfl rfl) λa A↦?_
    refine sdo A (qn Tryz.underlying40 rfl) λa A↦?_
    rcases tf ((((t.d.rl.length : Nat) : Int) != ((u.d.rl.length : Nat) : Int))) with hb13 | hb13
    ·
     have hb13' := bne_iff_ne.1 hb13
     refine sdc A zg hb13 λa A↦?_
     refine sdk (v := bV true) A λa A↦?_
     refine sdm A λa A↦?_
     iterate 7 refine qj A rfl rfl rfl λa A↦?_
     refine sdk (v := bV true) A λa A↦?_
     refine sdm A λa A↦?_
     iterate 6 refine qj A rfl rfl rfl λa A↦?_
     refine sdk (v := bV true) A λa A↦?_
     refine qa (hK7 _ _ (wp_cond_true (A.ev rfl) ?_))
     refine wsk fun K14 hK14 => wrl (sda A λa A↦?_)
     refine qa (hK14 _ _ (wp_ret (hret _ _ (en1 A rfl (qf rfl) ?_))))
     exact ⟨by rw [qag (.inr (.inr (.inr (.inl (fun e => hb13' (by rw [e]))))))], M.bel⟩
    ·
     have hb13' := bne_eq_false_iff_eq.1 hb13
     refine sdc A zg hb13 λa A↦?_
     refine sdk (v := bV false) A λa A↦?_
     refine sdm A λa A↦?_
     refine sdo (v := pA g2 10) A (qb xd rfl rfl) λa A↦?_
     refine sdo A (qh M kw rfl 1 rfl rfl) λa A↦?_
     refine sdo A (qn Tryz.underlying34 rfl) λa A↦?_
     refine sdo (v := pA g4 10) A (qb xd rfl rfl) λa A↦?_
     refine sdo A (qh M kw rfl 0 rfl rfl) λa A↦?_
     refine sdo A (qn Tryz.underlying34 rfl) λa A↦?_
     rcases tf ((((t.ts.length : Nat) : Int) != ((u.ts.length : Nat) : Int))) with hb15 | hb15
     ·
      have hb15' := bne_iff_ne.1 hb15
      refine sdc A zg hb15 λa A↦?_
      refine sdk (v := bV true) A λa A↦?_
      refine sdm A λa A↦?_
      iterate 6 refine qj A rfl rfl rfl λa A↦?_
      refine sdk (v := bV true) A λa A↦?_
      refine qa (hK7 _ _ (wp_cond_true (A.ev rfl) ?_))
      refine wsk fun K16 hK16 => wrl (sda A λa A↦?_)
      refine qa (hK16 _ _ (wp_ret (hret _ _ (en1 A rfl (qf rfl) ?_))))
      exact ⟨by rw [qag (.inr (.inr (.inr (.inr (.inl (fun e => hb15' (by rw [e])))))))], M.bel⟩
     ·
      have hb15' := bne_eq_false_iff_eq.1 hb15
      refine sdc A zg hb15 λa A↦?_
      refine sdk (v := bV false) A λa A↦?_
      refine sdm A λa A↦?_
      refine sdo (v := pA g2 2) A (qb kx rfl rfl) λa A↦?_
      refine sdo A (qz M ztj rfl 1 rfl (cs := [bV t.d.y.q.b1, .slice t.d.y.o1 t.d.y.q.t1.length t.d.y.c1, .slice t.d.y.o2 t.d.y.q.q1.length t.d.y.c2, bV t.d.y.q.b2, .slice t.d.y.o3 t.d.y.q.t2.length t.d.y.c3, .slice t.d.y.o4 t.d.y.q.q2.length t.d.y.c4]) rfl rfl) λa A↦?_
      refine sdo (v := pA g4 2) A (qb kx rfl rfl) λa A↦?_
      refine sdo A (qz M ztj rfl 0 rfl (cs := [bV u.d.y.q.b1, .slice u.d.y.o1 u.d.y.q.t1.length u.d.y.c1, .slice u.d.y.o2 u.d.y.q.q1.length u.d.y.c2, bV u.d.y.q.b2, .slice u.d.y.o3 u.d.y.q.t2.length u.d.y.c3, .slice u.d.y.o4 u.d.y.q.q2.length u.d.y.c4]) rfl rfl) λa A↦?_
      rcases tf (SQ2 t u) with hb17 | hb17
      ·
       refine gcl A M (ef rfl rfl) (qpc (Dt.keep M.bel _ ht) (Dt.keep M.bel _ hu) hb17) fun w19 hb18 M a A => ?_
       refine sdo (v := bV false) A (zi rfl zm) λa A↦?_
       refine sdk (v := bV false) A λa A↦?_
       refine qa (hK7 _ _ (wp_cond_false (A.ev rfl) ?_))
       refine wp_skip (hK6 _ _ (wsk fun K20 hK20 => wsk fun K21 hK21 => wrl (sda A λa A↦?_)))
       refine qa (hK21 _ _ (wp_block (zt (fun m_ a w1 => ∃ (i : Nat), m_ = 1 + (t.d.rl.length - i) ∧ (i ≤ t.d.rl.length ∧ ∀ j, j < i → t.d.rl.getD j 0 = u.d.rl.getD j 0) ∧ Sl a 89 [(0, .agg (t.d.cells t.ts.length).toArray), (1, .agg (u.d.cells u.ts.length).toArray), (2, pA g2 0), (3, pA g4 0), (5, iV (((i : Nat) : Int))), (7, pA g2 0), (8, iV t.d.k), (9, pA g4 0), (10, iV u.d.k), (11, bV false), (12, bV false), (13, pA g2 1), (14, iV t.d.n), (15, pA g4 1), (16, iV u.d.n), (17, bV false), (18, bV false), (19, bV false), (20, pA g2 8), (21, .string t.d.s), (22, pA g4 8), (23, .string u.d.s), (24, bV false), (25, bV false), (26, bV false), (27, pA g2 9), (28, .slice t.d.ro t.d.rl.length t.d.rc), (29, iV (((t.d.rl.length : Nat) : Int))), (30, pA g4 9), (31, .slice u.d.ro u.d.rl.length u.d.rc), (32, iV (((u.d.rl.length : Nat) : Int))), (33, bV false), (34, bV false), (35, bV false), (36, pA g2 10), (37, .slice t.d.lo t.ts.length t.d.lc), (38, iV (((t.ts.length : Nat) : Int))), (39, pA g4 10), (40, .slice u.d.lo u.ts.length u.d.lc), (41, iV (((u.ts.length : Nat) : Int))), (42, bV false), (43, bV false), (44, bV false), (45, pA g2 2), (46, .agg #[bV t.d.y.q.b1, .slice t.d.y.o1 t.d.y.q.t1.length t.d.y.c1, .slice t.d.y.o2 t.d.y.q.q1.length t.d.y.c2, bV t.d.y.q.b2, .slice t.d.y.o3 t.d.y.q.t2.length t.d.y.c3, .slice t.d.y.o4 t.d.y.q.q2.length t.d.y.c4]), (47, pA g4 2), (48, .agg #[bV u.d.y.q.b1, .slice u.d.y.o1 u.d.y.q.t1.length u.d.y.c1, .slice u.d.y.o2 u.d.y.q.q1.length u.d.y.c2, bV u.d.y.q.b2, .slice u.d.y.o3 u.d.y.q.t2.length u.d.y.c3, .slice u.d.y.o4 u.d.y.q.q2.length u.d.y.c4]), (49, bV true), (50, bV false), (51, bV false)] ∧ Mg w w1 (.obj g4 (.cells (u.d.cells u.ts.length).toArray 42) :: .obj g2 (.cells (t.d.cells t.ts.length).toArray 42) :: [])) _ ⟨0, rfl, ⟨Nat.zero_le _, fun j hj => absurd hj (Nat.not_lt_zero _)⟩, A.keep _ (by repeat' constructor), M⟩ ?_)))
       clear M A
       rintro m_ a w22 ⟨i, rfl, hinv24, A, M⟩ K23 hK23
       obtain ⟨hi0, hin8⟩ := hinv24
       refine wsk fun K25 hK25 => wsk fun K26 hK26 => wrl (sdm A λa A↦?_)
       refine sdo (v := pA g2 9) A (qb qab rfl rfl) λa A↦?_
       refine sdo A (qh M qyc rfl 1 rfl rfl) λa A↦?_
       refine sdo A (qn Tryz.underlying40 rfl) λa A↦?_
       rcases tf (decide (((i : Nat) : Int) < ((t.d.rl.length : Nat) : Int))) with hb27 | hb27
       ·
        have hb27' := of_decide_eq_true hb27
        refine sdc A qw hb27 λa A↦?_
        refine qa (hK26 _ _ (wp_cond_true (A.ev rfl) ?_))
        refine wp_skip (hK25 _ _ (wsk fun K28 hK28 => wp_block (wsk fun K29 hK29 => zp (S := fun w1 => Mg w w1 (.obj g4 (.cells (u.d.cells u.ts.length).toArray 42) :: .obj g2 (.cells (t.d.cells t.ts.length).toArray 42) :: [])) (by kernel_rfl) ?_)))
        replace M := M.drew
        refine qe (v := pA g2 9) A 0 rfl rfl rfl rfl hP (M.sub (cc (cc ns))) (λ_ M↦qb qab rfl rfl) λa A↦?_
        refine qe A 1 rfl rfl rfl rfl hP (M.sub (cc (cc ns))) (λ_ M↦qh M qyc rfl 1 rfl rfl) λa A↦?_
        refine qe A 2 rfl rfl rfl rfl hP (M.sub (cc (cc ns))) (λ_ M↦ql rfl) λa A↦?_
        obtain ⟨bt, ot, ht1, ht2, ht3⟩ := qkf (i := i) (Dt.okT ht).1.raw (by omega)
        refine qe (v := pA bt (ot + i)) A 3 rfl rfl rfl rfl hP (M.sub (cc (cc ns))) (λ_ M↦zk (k := i) Tryz.underlying40 (by kernel_rfl) rfl rfl rfl ht1 (by omega)) λa A↦?_
        refine qe A 4 rfl rfl rfl rfl hP (M.sub (cc (cc ns))) (λ_ M↦qjh M ht2 (ht3 i (by omega)) o95 rfl) λa A↦?_
        refine qe (v := pA g4 9) A 5 rfl rfl rfl rfl hP (M.sub (cc (cc ns))) (λ_ M↦qb qab rfl rfl) λa A↦?_
        refine qe A 6 rfl rfl rfl rfl hP (M.sub (cc (cc ns))) (λ_ M↦qh M qyc rfl 0 rfl rfl) λa A↦?_
        refine qe A 7 rfl rfl rfl rfl hP (M.sub (cc (cc ns))) (λ_ M↦ql rfl) λa A↦?_
        obtain ⟨bu, ou, hu1, hu2, hu3⟩ := qkf (i := i) (Dt.okT hu).1.raw (by omega)
        refine qe (v := pA bu (ou + i)) A 8 rfl rfl rfl rfl hP (M.sub (cc (cc ns))) (λ_ M↦zk (k := i) Tryz.underlying40 (by kernel_rfl) rfl rfl rfl hu1 (by omega)) λa A↦?_
        refine qe A 9 rfl rfl rfl rfl hP (M.sub (cc (cc ns))) (λ_ M↦qjh M hu2 (hu3 i (by omega)) o95 rfl) λa A↦?_
        rcases tf (((((t.d.rl.getD i 0).toNat : Nat) : Int) != (((u.d.rl.getD i 0).toNat : Nat) : Int))) with hb30 | hb30
        ·
         have hb30' := bne_iff_ne.1 hb30
         refine qe (v := bV true) A 10 rfl rfl rfl rfl hP (M.sub (cc (cc ns))) (λ_ M↦qg rfl rfl (fun w => (zg w).trans (by rw [hb30]))) λa A↦?_
         refine ze (by kernel_rfl) ?_
         refine hK29 _ _ (wp_cond_true (A.ev rfl) ?_)
         refine wsk fun K31 hK31 => wrl (sda A λa A↦?_)
         refine qa (hK31 _ _ (wp_ret (hret _ _ (en1 A rfl (qf rfl) ?_))))
         exact ⟨by rw [qag (.inr (.inr (.inr (.inl (jbe hb30')))))], M.bel⟩
        ·
         have hb30' := bne_eq_false_iff_eq.1 hb30
         refine qe (v := bV false) A 10 rfl rfl rfl rfl hP (M.sub (cc (cc ns))) (λ_ M↦qg rfl rfl (fun w => (zg w).trans (by rw [hb30]))) λa A↦?_
         refine ze (by kernel_rfl) ?_
         refine hK29 _ _ (wp_cond_false (A.ev rfl) ?_)
         refine wp_skip (hK28 _ _ (wrl (sdm A λa A↦?_)))
         refine sdo (v := iV (((i + 1 : Nat) : Int))) A (qg rfl rfl (fun w => (ja (ji (by omega) (by omega)) w).trans (by rw [show (((i : Nat) : Int) + 1 : Int) = ((i + 1 : Nat) : Int) from by omega]))) λa A↦?_
         refine sda A λa A↦?_
         refine qa ?_
         refine hK23 _ _ _ (by omega) ⟨i + 1, rfl, ⟨by omega, fun j hj => if h9 : j < i then hin8 j h9 else by have h8 : j = i := (by omega); subst h8; exact jbf hb30'⟩, A.keep _ (by repeat' constructor), M⟩
       ·
        have hb27' := of_decide_eq_false hb27
        refine sdc A qw hb27 λa A↦?_
        refine qa (hK26 _ _ (wp_cond_false (A.ev rfl) ?_))
        refine wp_exit (hK20 _ _ (wsk fun K32 hK32 => wsk fun K33 hK33 => wrl (sda A λa A↦?_)))
        refine qa (hK33 _ _ (wp_block ?_))
        have hrl : t.d.rl = u.d.rl := zlf (by omega) (fun j hj => hin8 j (by omega))
        have hsy := zqi hb8' hb10' hb12' hrl (by omega) hb17
        refine zt (fun m_ a w1 => ∃ (j : Nat), m_ = 1 + (t.ts.length - j) ∧ (j ≤ t.ts.length ∧ kz (t.ts.map Dt.tr) (u.ts.map Dt.tr) = kz ((t.ts.map Dt.tr).drop j) ((u.ts.map Dt.tr).drop j)) ∧ Sl a 89 [(0, .agg (t.d.cells t.ts.length).toArray), (1, .agg (u.d.cells u.ts.length).toArray), (2, pA g2 0), (3, pA g4 0), (5, iV (((i : Nat) : Int))), (6, iV (((j : Nat) : Int))), (7, pA g2 0), (8, iV t.d.k), (9, pA g4 0), (10, iV u.d.k), (11, bV false), (12, bV false), (13, pA g2 1), (14, iV t.d.n), (15, pA g4 1), (16, iV u.d.n), (17, bV false), (18, bV false), (19, bV false), (20, pA g2 8), (21, .string t.d.s), (22, pA g4 8), (23, .string u.d.s), (24, bV false), (25, bV false), (26, bV false), (27, pA g2 9), (28, .slice t.d.ro t.d.rl.length t.d.rc), (29, iV (((t.d.rl.length : Nat) : Int))), (30, pA g4 9), (31, .slice u.d.ro u.d.rl.length u.d.rc), (32, iV (((u.d.rl.length : Nat) : Int))), (33, bV false), (34, bV false), (35, bV false), (36, pA g2 10), (37, .slice t.d.lo t.ts.length t.d.lc), (38, iV (((t.ts.length : Nat) : Int))), (39, pA g4 10), (40, .slice u.d.lo u.ts.length u.d.lc), (41, iV (((u.ts.length : Nat) : Int))), (42, bV false), (43, bV false), (44, bV false), (45, pA g2 2), (46, .agg #[bV t.d.y.q.b1, .slice t.d.y.o1 t.d.y.q.t1.length t.d.y.c1, .slice t.d.y.o2 t.d.y.q.q1.length t.d.y.c2, bV t.d.y.q.b2, .slice t.d.y.o3 t.d.y.q.t2.length t.d.y.c3, .slice t.d.y.o4 t.d.y.q.q2.length t.d.y.c4]), (47, pA g4 2), (48, .agg #[bV u.d.y.q.b1, .slice u.d.y.o1 u.d.y.q.t1.length u.d.y.c1, .slice u.d.y.o2 u.d.y.q.q1.length u.d.y.c2, bV u.d.y.q.b2, .slice u.d.y.o3 u.d.y.q.t2.length u.d.y.c3, .slice u.d.y.o4 u.d.y.q.q2.length u.d.y.c4]), (49, bV true), (50, bV false), (51, bV false), (52, iV (((i : Nat) : Int))), (53, pA g2 9), (54, .slice t.d.ro t.d.rl.length t.d.rc), (55, iV (((t.d.rl.length : Nat) : Int))), (56, bV false)] ∧ Mg w w1 (.obj g4 (.cells (u.d.cells u.ts.length).toArray 42) :: .obj g2 (.cells (t.d.cells t.ts.length).toArray 42) :: [])) _ ⟨0, rfl, ⟨Nat.zero_le _, rfl⟩, A.keep _ (by repeat' constructor), M⟩ ?_
        clear M A
        rintro m_ a w34 ⟨j, rfl, hinv36, A, M⟩ K35 hK35
        obtain ⟨hi1, hin9⟩ := hinv36
        refine wsk fun K37 hK37 => wsk fun K38 hK38 => wrl (sdm A λa A↦?_)
        refine sdo (v := pA g2 10) A (qb xd rfl rfl) λa A↦?_
        refine sdo A (qh M kw rfl 1 rfl rfl) λa A↦?_
        refine sdo A (qn Tryz.underlying34 rfl) λa A↦?_
        rcases tf (decide (((j : Nat) : Int) < ((t.ts.length : Nat) : Int))) with hb39 | hb39
        ·
         have hb39' := of_decide_eq_true hb39
         refine sdc A qw hb39 λa A↦?_
         refine qa (hK38 _ _ (wp_cond_true (A.ev rfl) ?_))
         refine wp_skip (hK37 _ _ (wsk fun K40 hK40 => wp_block (wsk fun K41 hK41 => ?_)))
         obtain ⟨t1, bt1, ot1, it1, mt1, rt1_, lt1, Ht1⟩ := zzj ht (i := j) (by omega)
         obtain ⟨u1, bu1, ou1, iu1, mu1, ru1_, lu1, Hu1⟩ := zzj hu (i := j) (by omega)
         refine zp (S := fun w1 => Mg w w1 (.obj g4 (.cells (u.d.cells u.ts.length).toArray 42) :: .obj g2 (.cells (t.d.cells t.ts.length).toArray 42) :: [])) (by kernel_rfl) ?_
         replace M := M.drew
         refine qe (v := pA g2 10) A 0 rfl rfl rfl rfl hP (M.sub (cc (cc ns))) (λ_ M↦qb xd rfl rfl) λa A↦?_
         refine qe A 1 rfl rfl rfl rfl hP (M.sub (cc (cc ns))) (λ_ M↦qh M kw rfl 1 rfl rfl) λa A↦?_
         refine qe A 2 rfl rfl rfl rfl hP (M.sub (cc (cc ns))) (λ_ M↦ql rfl) λa A↦?_
         refine qe (v := pA bt1 (ot1 + j * 11)) A 3 rfl rfl rfl rfl hP (M.sub (cc (cc ns))) (λ_ M↦qx (k := j) Tryz.underlying34 (by kernel_rfl) rfl rfl rfl lt1 (by omega)) λa A↦?_
         refine qe A 4 rfl rfl rfl rfl hP (M.sub (cc (cc ns))) (λ_ M↦xa M Ht1 xz rfl rfl) λa A↦?_
         refine qe (v := pA g4 10) A 5 rfl rfl rfl rfl hP (M.sub (cc (cc ns))) (λ_ M↦qb xd rfl rfl) λa A↦?_
         refine qe A 6 rfl rfl rfl rfl hP (M.sub (cc (cc ns))) (λ_ M↦qh M kw rfl 0 rfl rfl) λa A↦?_
         refine qe A 7 rfl rfl rfl rfl hP (M.sub (cc (cc ns))) (λ_ M↦ql rfl) λa A↦?_
         refine qe (v := pA bu1 (ou1 + j * 11)) A 8 rfl rfl rfl rfl hP (M.sub (cc (cc ns))) (λ_ M↦qx (k := j) Tryz.underlying34 (by kernel_rfl) rfl rfl rfl lu1 (by omega)) λa A↦?_
         refine qe A 9 rfl rfl rfl rfl hP (M.sub (cc (cc ns))) (λ_ M↦xa M Hu1 xz rfl rfl) λa A↦?_
         rcases tf (uu t1.tr u1.tr) with hb42 | hb42
         ·
          refine zd (by kernel_rfl) (jf A 10 rfl rfl rfl rfl (zj rfl rfl (fun w => by kernel_rfl)) ((hb42 ▸ ih (by have := zwe mt1; omega) (Dt.keep M.bel _ rt1_) (Dt.keep M.bel _ ru1_))) ?_)
          rintro _ w44 ⟨rfl, hb43⟩
          replace M := M.call hb43
          refine ⟨_, rfl, (M.sub (cc (cc ns))), ?_⟩
          intro a A
          refine qe (v := bV false) A 11 rfl rfl rfl rfl hP (M.sub (cc (cc ns))) (λ_ M↦zi rfl zm) λa A↦?_
          refine ze (by kernel_rfl) ?_
          refine hK41 _ _ (wp_cond_false (A.ev rfl) ?_)
          refine wp_skip (hK40 _ _ (wrl (sdm A λa A↦?_)))
          refine sdo (v := iV (((j + 1 : Nat) : Int))) A (qg rfl rfl (fun w => (ja (ji (by omega) (by omega)) w).trans (by rw [show (((j : Nat) : Int) + 1 : Int) = ((j + 1 : Nat) : Int) from by omega]))) λa A↦?_
          refine sda A λa A↦?_
          refine qa ?_
          refine hK35 _ _ _ (by omega) ⟨j + 1, rfl, ⟨by omega, by rw [hin9, qzj it1 iu1, hb42, Bool.true_and]⟩, A.keep _ (by repeat' constructor), M⟩
         ·
          refine zd (by kernel_rfl) (jf A 10 rfl rfl rfl rfl (zj rfl rfl (fun w => by kernel_rfl)) ((hb42 ▸ ih (by have := zwe mt1; omega) (Dt.keep M.bel _ rt1_) (Dt.keep M.bel _ ru1_))) ?_)
          rintro _ w46 ⟨rfl, hb45⟩
          replace M := M.call hb45
          refine ⟨_, rfl, (M.sub (cc (cc ns))), ?_⟩
          intro a A
          refine qe (v := bV true) A 11 rfl rfl rfl rfl hP (M.sub (cc (cc ns))) (λ_ M↦zi rfl zm) λa A↦?_
          refine ze (by kernel_rfl) ?_
          refine hK41 _ _ (wp_cond_true (A.ev rfl) ?_)
          refine wsk fun K47 hK47 => wrl (sda A λa A↦?_)
          refine qa (hK47 _ _ (wp_ret (hret _ _ (en1 A rfl (qf rfl) ?_))))
          exact ⟨by rw [hsy, hin9, qzj it1 iu1, hb42]; rfl, M.bel⟩
        ·
         have hb39' := of_decide_eq_false hb39
         refine sdc A qw hb39 λa A↦?_
         refine qa (hK38 _ _ (wp_cond_false (A.ev rfl) ?_))
         refine wp_exit (hK32 _ _ (wsk fun K48 hK48 => wrl (sda A λa A↦?_)))
         refine qa (hK48 _ _ (wp_ret (hret _ _ (en1 A rfl (qf rfl) ?_))))
         exact ⟨by rw [hsy, hin9, zle (by omega)], M.bel⟩
      ·
       refine gcl A M (ef rfl rfl) (qpc (Dt.keep M.bel _ ht) (Dt.keep M.bel _ hu) hb17) fun w50 hb49 M a A => ?_
       refine sdo (v := bV true) A (zi rfl zm) λa A↦?_
       refine sdk (v := bV true) A λa A↦?_
       refine qa (hK7 _ _ (wp_cond_true (A.ev rfl) ?_))
       refine wsk fun K51 hK51 => wrl (sda A λa A↦?_)
       refine qa (hK51 _ _ (wp_ret (hret _ _ (en1 A rfl (qf rfl) ?_))))
       exact ⟨by rw [qag (.inr (.inr (.inr (.inr (.inr hb17)))))], M.bel⟩
   ·
    have hb12' := of_decide_eq_false hb12
    refine sdo (v := bV true) A (qg rfl rfl (fun w => (xe Tryz.underlying9 w).trans (by rw [hb12] <;> rfl))) λa A↦?_
    refine sdk (v := bV true) A λa A↦?_
    refine sdm A λa A↦?_
    iterate 7 refine qj A rfl rfl rfl λa A↦?_
    refine sdk (v := bV true) A λa A↦?_
    refine sdm A λa A↦?_
    iterate 7 refine qj A rfl rfl rfl λa A↦?_
    refine sdk (v := bV true) A λa A↦?_
    refine sdm A λa A↦?_
    iterate 6 refine qj A rfl rfl rfl λa A↦?_
    refine sdk (v := bV true) A λa A↦?_
    refine qa (hK7 _ _ (wp_cond_true (A.ev rfl) ?_))
    refine wsk fun K52 hK52 => wrl (sda A λa A↦?_)
    refine qa (hK52 _ _ (wp_ret (hret _ _ (en1 A rfl (qf rfl) ?_))))
    exact ⟨by rw [qag (.inr (.inr (.inl hb12')))], M.bel⟩
theorem qpd : ∀ n, RSames n
 | 0 => fun h => absurd h (Nat.not_lt_zero _)
 | n + 1 => zae (qpd n)
theorem qef {w : World} {tz ro : Option Addr} {tc rc : Nat} {ts : List Ty} {rs : List Rk} (hT : TR w tz ts) (hR : RR w ro rs) (hW : WS (ts.map Ty.k) (rs.map Rk.k)) {t : Int} (h0 : -1 ≤ t) (h1 : t < ((ts.length : Nat) : Int)) : Calls Tryz.prog 45 #[.agg (sC tz tc ts ro rc rs).toArray, iV t] w fun e w' => ∃ so' ca', e = .returned (.slice so' (chT (prs (ts.map Ty.k)) t).length ca') ∧ Mg w w' [.row 3 1 (.slice so' (chT (prs (ts.map Ty.k)) t).length ca') (chT (prs (ts.map Ty.k)) t).length (inC (chT (prs (ts.map Ty.k)) t))] := by
 have hkl := hW.kl
 have hrl := hW.rl
 rw [List.length_map] at hkl hrl
 have hcl := ub (prs (ts.map Ty.k)) t
 have M : Mg w w ([]) := Mg.start w
 refine qs (l := [(0, .agg (sC tz tc ts ro rc rs).toArray), (1, iV t)]) Tryz.func45 rfl Tryz.ntmps45 rfl rfl ?_
 intro Q hret hnorm hP a A
 refine wsk fun K1 hK1 => wrl (zy (vs := (sC tz tc ts ro rc rs)) (t := 29) A M rfl rfl rfl pg (zf rfl rfl) (by decide) ?_)
 intro g2 w3 M a A
 refine sda A λa A↦?_
 refine qa (hK1 _ _ (wsk fun K4 hK4 => wrl (xr (e := 3) (sz := 1) (m := 0) (vs := inC []) A M rfl rfl rfl (qy rfl (by kernel_rfl)) rfl rfl (.inl (by decide)) ?_)))
 intro g5 w6 M a A
 refine sda A λa A↦?_
 refine qa (hK4 _ _ (wsk fun K7 hK7 => wp_block (zt (fun m_ a w1 => ∃ (t1 : Int) (xs : List Int) (so_ : Option Addr) (ca_ : Nat), m_ = 1 + (t1 + 1).toNat ∧ (-1 ≤ t1 ∧ t1 < ((ts.length : Nat) : Int) ∧ xs ++ chT (prs (ts.map Ty.k)) t1 = (chT (prs (ts.map Ty.k)) t)) ∧ Sl a 20 [(0, .agg (sC tz tc ts ro rc rs).toArray), (1, iV t1), (2, pA g2 0), (4, .slice none 0 0), (5, .slice so_ xs.length ca_), (6, .slice (aO g5) 0 0)] ∧ Mg w w1 (.row 3 1 (.slice so_ xs.length ca_) xs.length (inC xs) :: .obj g2 (.cells (sC tz tc ts ro rc rs).toArray 29) :: [])) _ ⟨t, [], some ⟨g5, 0, none⟩, 0, rfl, ⟨h0, h1, rfl⟩, A.keep _ (by repeat' constructor), M⟩ ?_)))
 clear M A
 rintro m_ a w8 ⟨t1, xs, so_, ca_, rfl, hinv10, A, M⟩ K9 hK9
 obtain ⟨ht0, ht1, hxs⟩ := hinv10
 have hxl : xs.length ≤ (chT (prs (ts.map Ty.k)) t).length := by rw [← hxs, List.length_append]; omega
 refine wsk fun K11 hK11 => wsk fun K12 hK12 => wrl (sdm A λa A↦?_)
 rcases tf (decide (0 ≤ t1)) with hb13 | hb13
 ·
  have hb13' := of_decide_eq_true hb13
  refine sdc A zl hb13 λa A↦?_
  refine qa (hK12 _ _ (wp_cond_true (A.ev rfl) ?_))
  refine wp_skip (hK11 _ _ (wp_block (wsk fun K14 hK14 => wrl ?_)))
  iterate 2 refine sdm A λa A↦?_
  refine xr (e := 3) (sz := 1) (m := 1) (vs := inC [t1]) A M rfl rfl rfl (qy rfl (by kernel_rfl)) rfl rfl (.inl (by decide)) ?_
  intro g15 w16 M a A
  refine jo (e := 3) (sz := 1) (k := 1) (q := xs.length) (m := 1) (xs := inC xs) (news := inC [t1]) (L' := fun v17 => (.row 3 1 (.slice (aO g15) 1 1) 1 (inC [t1]) :: .row 3 1 (v17) (xs.length + 1) (inC xs ++ inC [t1]) :: .obj g2 (.cells (sC tz tc ts ro rc rs).toArray 29) :: [])) A rfl rfl rfl (xb (z := iV 0) (sz := 1) (by_ := 8) Tryz.underlying68 (by kernel_rfl) rfl rfl rfl M 1 rfl rfl rfl rfl (rc_own (M.has 0 rfl)) (zgj [t1]) (by first | omega | (simp only [List.length_nil]; omega))) (fun _ => rfl) ?_
  intro v17 w18 M a A
  replace M : Mg w w18 (.row 3 1 (.slice (aO g15) 1 1) 1 (inC [t1]) :: .row 3 1 (v17) ((xs ++ [t1]).length) (inC (xs ++ [t1])) :: .obj g2 (.cells (sC tz tc ts ro rc rs).toArray 29) :: []) := by
   rw [qmj, List.length_append]; exact M
  obtain ⟨so19, ca20, rfl⟩ := jg (M.has 1 rfl)
  refine sda A λa A↦?_
  refine qa (hK14 _ _ ?_)
  obtain ⟨ty21, bt22, ot23, it24, mt25, rt26, lt27, Ht28⟩ := hT.at_ (i := t1.toNat) (by omega)
  have hpl := hW.par_lt (zn it24)
  rw [show ty21.k.par = ty21.par from rfl] at hpl
  refine wrl (sdo (v := pA g2 0) A (qb xt rfl rfl) λa A↦?_)
  refine sdo A (qh M xn rfl 2 rfl rfl) λa A↦?_
  refine sdm A λa A↦?_
  refine sdo (v := pA bt22 (ot23 + t1.toNat * 7)) A (qx (k := t1.toNat) Tryz.underlying26 (by kernel_rfl) rfl rfl (by first | rfl | omega) lt27 (by omega)) λa A↦?_
  refine sdo (v := pA bt22 (ot23 + t1.toNat * 7 + 1)) A (qb ju rfl rfl) λa A↦?_
  refine sdo A (jj (j := 1) M Ht28 o93 rfl rfl rfl) λa A↦?_
  refine sda A λa A↦?_
  refine qa ?_
  replace M : Mg w w18 (.row 3 1 (.slice so19 ((xs ++ [t1]).length) ca20) ((xs ++ [t1]).length) (inC (xs ++ [t1])) :: .obj g2 (.cells (sC tz tc ts ro rc rs).toArray 29) :: []) := ((M.bring 2 rfl rfl).bring 2 rfl rfl).sub (cc (cc (cn (.refl _))))
  refine hK9 _ _ _ (by omega) ⟨ty21.par, xs ++ [t1], so19, ca20, rfl, ⟨hpl.1, by omega, by rw [List.append_assoc, ← hxs, qmg hW.wf (show 0 ≤ t1 by omega), qud (zn it24)]; rfl⟩, A.keep _ (by repeat' constructor), M⟩
 ·
  have hb13' := of_decide_eq_false hb13
  refine sdc A zl hb13 λa A↦?_
  refine qa (hK12 _ _ (wp_cond_false (A.ev rfl) ?_))
  refine wp_exit (hK7 _ _ (wsk fun K29 hK29 => wrl (sdm A λa A↦?_)))
  refine sda A λa A↦?_
  refine qa (hK29 _ _ (wp_ret (hret _ _ (en1 A rfl (qf rfl) ?_))))
  replace M : Mg w w8 (.row 3 1 (.slice so_ xs.length ca_) xs.length (inC xs) :: []) := by
   have h9 := M.sub (cc (cn (.refl _)))
   exact h9
  have e9 : xs = (chT (prs (ts.map Ty.k)) t) := by rw [← hxs, qub (show t1 < 0 by omega), List.append_nil]
  subst e9
  exact ⟨_, _, rfl, M⟩
theorem qeg {w : World} {tz ro : Option Addr} {tc rc : Nat} {ts : List Ty} {rs : List Rk} (hT : TR w tz ts) (hR : RR w ro rs) (hW : WS (ts.map Ty.k) (rs.map Rk.k)) {t : Int} (h0 : -1 ≤ t) (h1 : t < ((ts.length : Nat) : Int)) : Calls Tryz.prog 31 #[.agg (sC tz tc ts ro rc rs).toArray, iV t] w fun e w' => e = .returned (iV ((cnt (ts.map Ty.k) t : Nat) : Int)) ∧ Below w.heap.size w w' := by
 have hkl := hW.kl
 have hrl := hW.rl
 rw [List.length_map] at hkl hrl
 have hcl := ub (prs (ts.map Ty.k)) t
 have M : Mg w w ([]) := Mg.start w
 refine qs (l := [(0, .agg (sC tz tc ts ro rc rs).toArray), (1, iV t)]) Tryz.func31 rfl Tryz.ntmps31 rfl rfl ?_
 intro Q hret hnorm hP a A
 refine wsk fun K1 hK1 => wrl (zy (vs := (sC tz tc ts ro rc rs)) (t := 29) A M rfl rfl rfl pg (zf rfl rfl) (by decide) ?_)
 intro g2 w3 M a A
 refine sda A λa A↦?_
 refine qa (hK1 _ _ (wsk fun K4 hK4 => wrl (sda A λa A↦?_)))
 refine qa (hK4 _ _ (wsk fun K5 hK5 => wrl (sdo A (qz M jr rfl 0 rfl (cs := (sC tz tc ts ro rc rs)) rfl rfl) λa A↦?_)))
 refine sdm A λa A↦?_
 refine sct A (ef rfl rfl) (qef (hT.below M.bel) (hR.below M.bel) hW (by omega) (by omega)) ?_
 rintro _ w9 ⟨so6, ca7, rfl, hM8⟩
 replace M : Mg w w9 (.row 3 1 (.slice so6 ((chT (prs (ts.map Ty.k)) t).length) ca7) ((chT (prs (ts.map Ty.k)) t).length) (inC (chT (prs (ts.map Ty.k)) t)) :: .obj g2 (.cells (sC tz tc ts ro rc rs).toArray 29) :: []) := (M.both hM8 (qi (by simp) (qk qm)) (qi (by simp) (qk qm)))
 refine ⟨_, rfl, ?_⟩
 intro a A
 refine sda A λa A↦?_
 refine qa (hK5 _ _ (wsk fun K10 hK10 => wsk fun K11 hK11 => wrl (sda A λa A↦?_)))
 refine qa (hK11 _ _ (wp_block (zt (fun m_ a w1 => ∃ (i : Nat) (n : Nat), m_ = 1 + ((chT (prs (ts.map Ty.k)) t).length - i) ∧ (i ≤ (chT (prs (ts.map Ty.k)) t).length ∧ n = qmh (ts.map Ty.k) ((chT (prs (ts.map Ty.k)) t).take i)) ∧ Sl a 30 [(0, .agg (sC tz tc ts ro rc rs).toArray), (1, iV t), (2, pA g2 0), (4, iV 0), (5, iV (((n : Nat) : Int))), (6, .slice so6 ((chT (prs (ts.map Ty.k)) t).length) ca7), (7, iV (((i : Nat) : Int))), (8, .agg (sC tz tc ts ro rc rs).toArray), (9, iV t), (10, .slice so6 ((chT (prs (ts.map Ty.k)) t).length) ca7)] ∧ Mg w w1 (.row 3 1 (.slice so6 ((chT (prs (ts.map Ty.k)) t).length) ca7) ((chT (prs (ts.map Ty.k)) t).length) (inC (chT (prs (ts.map Ty.k)) t)) :: .obj g2 (.cells (sC tz tc ts ro rc rs).toArray 29) :: [])) _ ⟨0, 0, rfl, ⟨Nat.zero_le _, rfl⟩, A.keep _ (by repeat' constructor), M⟩ ?_)))
 clear M A
 rintro m_ a w12 ⟨i, n, rfl, hinv14, A, M⟩ K13 hK13
 obtain ⟨hi0, hn⟩ := hinv14
 have hsum := qvb hW (l := (chT (prs (ts.map Ty.k)) t)) (fun x hx => qaa hW.wf hx) (by rw [List.length_map]; exact h1) i
 refine wsk fun K15 hK15 => wsk fun K16 hK16 => wrl ?_
 iterate 2 refine sdm A λa A↦?_
 refine sdo A (qn Tryz.underlying68 rfl) λa A↦?_
 rcases tf (decide (((i : Nat) : Int) < (((chT (prs (ts.map Ty.k)) t).length : Nat) : Int))) with hb17 | hb17
 ·
  have hb17' := of_decide_eq_true hb17
  refine sdc A qw hb17 λa A↦?_
  refine qa (hK16 _ _ (wp_cond_true (A.ev rfl) ?_))
  refine wp_skip (hK15 _ _ (wsk fun K18 hK18 => wp_block (zp (S := fun w1 => Mg w w1 (.row 3 1 (.slice so6 ((chT (prs (ts.map Ty.k)) t).length) ca7) ((chT (prs (ts.map Ty.k)) t).length) (inC (chT (prs (ts.map Ty.k)) t)) :: .obj g2 (.cells (sC tz tc ts ro rc rs).toArray 29) :: [])) (by kernel_rfl) ?_)))
  replace M := M.drew
  refine qe A 0 rfl rfl rfl rfl hP (M.sub (cc (cc ns))) (λ_ M↦ql rfl) λa A↦?_
  refine qe (v := pA g2 0) A 1 rfl rfl rfl rfl hP (M.sub (cc (cc ns))) (λ_ M↦qb xt rfl rfl) λa A↦?_
  refine qe A 2 rfl rfl rfl rfl hP (M.sub (cc (cc ns))) (λ_ M↦qh M xn rfl 1 rfl rfl) λa A↦?_
  refine qe A 3 rfl rfl rfl rfl hP (M.sub (cc (cc ns))) (λ_ M↦ql rfl) λa A↦?_
  refine qe A 4 rfl rfl rfl rfl hP (M.sub (cc (cc ns))) (λ_ M↦ql rfl) λa A↦?_
  obtain ⟨bi19, oi20, zi21, hs22, hc23, hi24, hm25⟩ := qna (rc_own (M.has 0 rfl)) (i := i) (by omega)
  refine qe (v := pA bi19 (oi20 + i)) A 5 rfl rfl rfl rfl hP (M.sub (cc (cc ns))) (λ_ M↦zk (k := i) Tryz.underlying68 (by kernel_rfl) rfl rfl (by first | rfl | omega) hs22 (by omega)) λa A↦?_
  refine qe A 6 rfl rfl rfl rfl hP (M.sub (cc (cc ns))) (λ_ M↦qze M 0 rfl hi24 hs22 o93 rfl rfl) λa A↦?_
  have hzz := qaa hW.wf hm25
  obtain ⟨ty26, bt27, ot28, it29, mt30, rt31, lt32, Ht33⟩ := hT.at_ (i := zi21.toNat) (by omega)
  have hnf := hW.nf16 (zn it29)
  rw [show ty26.k.fs.length = ty26.fs.length from rfl] at hnf
  refine qe (v := pA bt27 (ot28 + zi21.toNat * 7)) A 7 rfl rfl rfl rfl hP (M.sub (cc (cc ns))) (λ_ M↦qx (k := zi21.toNat) Tryz.underlying26 (by kernel_rfl) rfl rfl (by first | rfl | omega) lt32 (by omega)) λa A↦?_
  refine qe (v := pA bt27 (ot28 + zi21.toNat * 7 + 2)) A 8 rfl rfl rfl rfl hP (M.sub (cc (cc ns))) (λ_ M↦qb xu rfl rfl) λa A↦?_
  refine qe A 9 rfl rfl rfl rfl hP (M.sub (cc (cc ns))) (λ_ M↦jj (j := 2) M Ht33 qai rfl rfl rfl) λa A↦?_
  refine qe (v := iV (((ty26.fs.length : Nat) : Int))) A 10 rfl rfl rfl rfl hP (M.sub (cc (cc ns))) (λ_ M↦qn Tryz.underlying30 rfl) λa A↦?_
  refine qe (v := iV (((n + ty26.fs.length : Nat) : Int))) A 11 rfl rfl rfl rfl hP (M.sub (cc (cc ns))) (λ_ M↦qg rfl rfl (fun w => (ja (ji (by omega) (by omega)) w).trans (by rw [show (((n : Nat) : Int) + ((ty26.fs.length : Nat) : Int) : Int) = ((n + ty26.fs.length : Nat) : Int) from by omega]))) λa A↦?_
  refine qe A 12 rfl rfl rfl rfl hP (M.sub (cc (cc ns))) (λ_ M↦qp rfl) λa A↦?_
  refine ze (by kernel_rfl) ?_
  refine hK18 _ _ (wrl (sdm A λa A↦?_))
  refine sdo (v := iV (((i + 1 : Nat) : Int))) A (qg rfl rfl (fun w => (ja (ji (by omega) (by omega)) w).trans (by rw [show (((i : Nat) : Int) + 1 : Int) = ((i + 1 : Nat) : Int) from by omega]))) λa A↦?_
  refine sda A λa A↦?_
  refine qa ?_
  replace M : Mg w w12.drew (.row 3 1 (.slice so6 ((chT (prs (ts.map Ty.k)) t).length) ca7) ((chT (prs (ts.map Ty.k)) t).length) (inC (chT (prs (ts.map Ty.k)) t)) :: .obj g2 (.cells (sC tz tc ts ro rc rs).toArray 29) :: []) := ((M.bring 1 rfl rfl).bring 1 rfl rfl)
  refine hK13 _ _ _ (by omega) ⟨i + 1, n + ty26.fs.length, rfl, ⟨by omega, by rw [qhj hi24, qia (zn it29), hn]; rfl⟩, A.keep _ (by repeat' constructor), M⟩
 ·
  have hb17' := of_decide_eq_false hb17
  refine sdc A qw hb17 λa A↦?_
  refine qa (hK16 _ _ (wp_cond_false (A.ev rfl) ?_))
  refine wp_exit (hK10 _ _ (wsk fun K34 hK34 => wrl (sdm A λa A↦?_)))
  refine sda A λa A↦?_
  refine qa (hK34 _ _ (wp_ret (hret _ _ (en1 A rfl (qf rfl) ?_))))
  have e9 : n = cnt (ts.map Ty.k) t := by rw [hn, List.take_of_length_le (by omega)]; rfl
  exact ⟨by rw [e9], M.bel⟩
theorem qbi {w : World} {tz ro : Option Addr} {tc rc : Nat} {ts : List Ty} {rs : List Rk} (hT : TR w tz ts) (hR : RR w ro rs) (hW : WS (ts.map Ty.k) (rs.map Rk.k)) {t : Int} : Calls Tryz.prog 12 #[.agg (sC tz tc ts ro rc rs).toArray, iV t] w fun e w' => e = .returned (.tuple #[iV (flS (ts.map Ty.k) t).1, iV (flS (ts.map Ty.k) t).2]) ∧ Below w.heap.size w w' := by
 have hkl := hW.kl
 have hrl := hW.rl
 rw [List.length_map] at hkl hrl
 have M : Mg w w ([]) := Mg.start w
 refine qs (l := [(0, .agg (sC tz tc ts ro rc rs).toArray), (1, iV t)]) Tryz.func12 rfl Tryz.ntmps12 rfl rfl ?_
 intro Q hret hnorm hP a A
 refine wsk fun K1 hK1 => wrl (zy (vs := (sC tz tc ts ro rc rs)) (t := 29) A M rfl rfl rfl pg (zf rfl rfl) (by decide) ?_)
 intro g2 w3 M a A
 iterate 2 refine sda A λa A↦?_
 refine qa (hK1 _ _ (wsk fun K4 hK4 => wsk fun K5 hK5 => wrl (sdm A λa A↦?_)))
 rcases tf (decide (t < 0)) with hb6 | hb6
 ·
  have hb6' := of_decide_eq_true hb6
  refine sdc A qw hb6 λa A↦?_
  refine sdm A λa A↦?_
  iterate 5 refine qj A rfl rfl rfl λa A↦?_
  refine sdk (v := bV true) A λa A↦?_
  refine qa (hK5 _ _ (wp_cond_true (A.ev rfl) ?_))
  refine wsk fun K7 hK7 => wrl ?_
  iterate 2 refine sda A λa A↦?_
  refine qa (hK7 _ _ (wp_ret (hret _ _ (en2 A rfl (qf rfl) (qf rfl) ?_))))
  exact ⟨by rw [qvi (show okT ts.length t = false by unfold okT; simp; omega)], M.bel⟩
 ·
  have hb6' := of_decide_eq_false hb6
  refine sdc A qw hb6 λa A↦?_
  iterate 2 refine sdm A λa A↦?_
  refine sdo (v := pA g2 0) A (qb xt rfl rfl) λa A↦?_
  refine sdo A (qh M xn rfl 0 rfl rfl) λa A↦?_
  refine sdo A (qn Tryz.underlying26 rfl) λa A↦?_
  rcases tf (decide (((ts.length : Nat) : Int) ≤ t)) with hb8 | hb8
  ·
   have hb8' := of_decide_eq_true hb8
   refine sdc A zl hb8 λa A↦?_
   refine sdk (v := bV true) A λa A↦?_
   refine qa (hK5 _ _ (wp_cond_true (A.ev rfl) ?_))
   refine wsk fun K9 hK9 => wrl ?_
   iterate 2 refine sda A λa A↦?_
   refine qa (hK9 _ _ (wp_ret (hret _ _ (en2 A rfl (qf rfl) (qf rfl) ?_))))
   exact ⟨by rw [qvi (show okT ts.length t = false by unfold okT; simp; omega)], M.bel⟩
  ·
   have hb8' := of_decide_eq_false hb8
   refine sdc A zl hb8 λa A↦?_
   refine sdk (v := bV false) A λa A↦?_
   refine qa (hK5 _ _ (wp_cond_false (A.ev rfl) ?_))
   refine wp_skip (hK4 _ _ (wsk fun K10 hK10 => wrl (sdo A (qz M jr rfl 0 rfl (cs := (sC tz tc ts ro rc rs)) rfl rfl) λa A↦?_)))
   refine sdm A λa A↦?_
   refine gcl A M (ef rfl rfl) (qeg (hT.below M.bel) (hR.below M.bel) hW (by omega) (by omega)) fun w12 hb11 M a A => ?_
   iterate 2 refine sda A λa A↦?_
   refine qa (hK10 _ _ (wp_ret (hret _ _ (en2 A rfl (qf rfl) (qf rfl) ?_))))
   exact ⟨by rw [zeb (show okT ts.length t = true by unfold okT; simp; omega)], M.bel⟩
set_option maxHeartbeats 2000000 in
theorem zaf {w : World} {ya yb : Ty} (hA1 : TyR w ya) (hB1 : TyR w yb) (ha1 : ya.fs.length ≤ 2000000) (hb1 : yb.fs.length ≤ 2000000) (ha2 : ya.ms.length ≤ 2000000) (hb2 : yb.ms.length ≤ 2000000) : Calls Tryz.prog 24 #[.agg ya.c.toArray, .agg yb.c.toArray] w fun e w' => e = .returned (bV (xm ya.k yb.k)) ∧ Below w.heap.size w w' := by
 have M : Mg w w ([]) := Mg.start w
 refine qs (l := [(0, .agg ya.c.toArray), (1, .agg yb.c.toArray)]) Tryz.func24 rfl Tryz.ntmps24 rfl rfl ?_
 intro Q hret hnorm hP a A
 refine wsk fun K1 hK1 => wrl (zy (vs := ya.c) (t := 33) A M rfl rfl rfl pg (zf rfl rfl) (by decide) ?_)
 intro g2 w3 M a A
 refine zy (vs := yb.c) (t := 33) A M rfl rfl rfl pg (zf rfl rfl) (by decide) ?_
 intro g4 w5 M a A
 refine sda A λa A↦?_
 refine qa (hK1 _ _ (wsk fun K6 hK6 => wsk fun K7 hK7 => wrl (sdo (v := pA g2 0) A (qb qnc rfl rfl) λa A↦?_)))
 refine sdo A (qh M o99 rfl 1 rfl rfl) λa A↦?_
 refine sdo (v := pA g4 0) A (qb qnc rfl rfl) λa A↦?_
 refine sdo A (qh M o99 rfl 0 rfl rfl) λa A↦?_
 rcases tf (decide (ya.nm = yb.nm)) with hb8 | hb8
 ·
  have hb8' := of_decide_eq_true hb8
  refine sdo (v := bV false) A (qg rfl rfl (fun w => (xe Tryz.underlying9 w).trans (by rw [hb8] <;> rfl))) λa A↦?_
  refine sdm A λa A↦?_
  refine sdo (v := pA g2 1) A (qb ju rfl rfl) λa A↦?_
  refine sdo A (qh M o93 rfl 1 rfl rfl) λa A↦?_
  refine sdo (v := pA g4 1) A (qb ju rfl rfl) λa A↦?_
  refine sdo A (qh M o93 rfl 0 rfl rfl) λa A↦?_
  rcases tf ((ya.par != yb.par)) with hb9 | hb9
  ·
   have hb9' := bne_iff_ne.1 hb9
   refine sdc A zg hb9 λa A↦?_
   refine sdk (v := bV true) A λa A↦?_
   refine sdm A λa A↦?_
   iterate 5 refine qj A rfl rfl rfl λa A↦?_
   refine sdk (v := bV true) A λa A↦?_
   refine sdm A λa A↦?_
   iterate 5 refine qj A rfl rfl rfl λa A↦?_
   refine sdk (v := bV true) A λa A↦?_
   refine sdm A λa A↦?_
   iterate 5 refine qj A rfl rfl rfl λa A↦?_
   refine sdk (v := bV true) A λa A↦?_
   refine sdm A λa A↦?_
   iterate 6 refine qj A rfl rfl rfl λa A↦?_
   refine sdk (v := bV true) A λa A↦?_
   refine sdm A λa A↦?_
   iterate 7 refine qj A rfl rfl rfl λa A↦?_
   refine sdk (v := bV true) A λa A↦?_
   refine qa (hK7 _ _ (wp_cond_true (A.ev rfl) ?_))
   refine wsk fun K10 hK10 => wrl (sda A λa A↦?_)
   refine qa (hK10 _ _ (wp_ret (hret _ _ (en1 A rfl (qf rfl) ?_))))
   exact ⟨by rw [Bool.eq_false_iff.2 (fun q9 => (fun e => (show ya.par ≠ yb.par by simpa using hb9) e.2.1) (ve.1 q9))], M.bel⟩
  ·
   have hb9' := bne_eq_false_iff_eq.1 hb9
   refine sdc A zg hb9 λa A↦?_
   refine sdk (v := bV false) A λa A↦?_
   refine sdm A λa A↦?_
   refine sdo (v := pA g2 4) A (qb qbf rfl rfl) λa A↦?_
   refine sdo A (qh M o94 rfl 1 rfl rfl) λa A↦?_
   refine sdo (v := pA g4 4) A (qb qbf rfl rfl) λa A↦?_
   refine sdo A (qh M o94 rfl 0 rfl rfl) λa A↦?_
   rcases tf (!(ya.sl == yb.sl)) with hb11 | hb11
   ·
    refine sdo (v := bV true) A (qg rfl rfl (fun w => ((vi Tryz.underlying4) w).trans (by rw [hb11]))) λa A↦?_
    refine sdk (v := bV true) A λa A↦?_
    refine sdm A λa A↦?_
    iterate 5 refine qj A rfl rfl rfl λa A↦?_
    refine sdk (v := bV true) A λa A↦?_
    refine sdm A λa A↦?_
    iterate 5 refine qj A rfl rfl rfl λa A↦?_
    refine sdk (v := bV true) A λa A↦?_
    refine sdm A λa A↦?_
    iterate 6 refine qj A rfl rfl rfl λa A↦?_
    refine sdk (v := bV true) A λa A↦?_
    refine sdm A λa A↦?_
    iterate 7 refine qj A rfl rfl rfl λa A↦?_
    refine sdk (v := bV true) A λa A↦?_
    refine qa (hK7 _ _ (wp_cond_true (A.ev rfl) ?_))
    refine wsk fun K12 hK12 => wrl (sda A λa A↦?_)
    refine qa (hK12 _ _ (wp_ret (hret _ _ (en1 A rfl (qf rfl) ?_))))
    exact ⟨by rw [Bool.eq_false_iff.2 (fun q9 => (fun e => (show ya.sl ≠ yb.sl by simpa using hb11) e.2.2.2.2.1) (ve.1 q9))], M.bel⟩
   ·
    refine sdo (v := bV false) A (qg rfl rfl (fun w => ((vi Tryz.underlying4) w).trans (by rw [hb11]))) λa A↦?_
    refine sdk (v := bV false) A λa A↦?_
    refine sdm A λa A↦?_
    refine sdo (v := pA g2 5) A (qb qeb rfl rfl) λa A↦?_
    refine sdo A (qh M o94 rfl 1 rfl rfl) λa A↦?_
    refine sdo (v := pA g4 5) A (qb qeb rfl rfl) λa A↦?_
    refine sdo A (qh M o94 rfl 0 rfl rfl) λa A↦?_
    rcases tf (!(ya.op == yb.op)) with hb13 | hb13
    ·
     refine sdo (v := bV true) A (qg rfl rfl (fun w => ((vi Tryz.underlying4) w).trans (by rw [hb13]))) λa A↦?_
     refine sdk (v := bV true) A λa A↦?_
     refine sdm A λa A↦?_
     iterate 5 refine qj A rfl rfl rfl λa A↦?_
     refine sdk (v := bV true) A λa A↦?_
     refine sdm A λa A↦?_
     iterate 6 refine qj A rfl rfl rfl λa A↦?_
     refine sdk (v := bV true) A λa A↦?_
     refine sdm A λa A↦?_
     iterate 7 refine qj A rfl rfl rfl λa A↦?_
     refine sdk (v := bV true) A λa A↦?_
     refine qa (hK7 _ _ (wp_cond_true (A.ev rfl) ?_))
     refine wsk fun K14 hK14 => wrl (sda A λa A↦?_)
     refine qa (hK14 _ _ (wp_ret (hret _ _ (en1 A rfl (qf rfl) ?_))))
     exact ⟨by rw [Bool.eq_false_iff.2 (fun q9 => (fun e => (show ya.op ≠ yb.op by simpa using hb13) e.2.2.2.2.2.1) (ve.1 q9))], M.bel⟩
    ·
     refine sdo (v := bV false) A (qg rfl rfl (fun w => ((vi Tryz.underlying4) w).trans (by rw [hb13]))) λa A↦?_
     refine sdk (v := bV false) A λa A↦?_
     refine sdm A λa A↦?_
     refine sdo (v := pA g2 6) A (qb yu rfl rfl) λa A↦?_
     refine sdo A (qh M o99 rfl 1 rfl rfl) λa A↦?_
     refine sdo (v := pA g4 6) A (qb yu rfl rfl) λa A↦?_
     refine sdo A (qh M o99 rfl 0 rfl rfl) λa A↦?_
     rcases tf (decide (ya.ui = yb.ui)) with hb15 | hb15
     ·
      have hb15' := of_decide_eq_true hb15
      refine sdo (v := bV false) A (qg rfl rfl (fun w => (xe Tryz.underlying9 w).trans (by rw [hb15] <;> rfl))) λa A↦?_
      refine sdk (v := bV false) A λa A↦?_
      refine sdm A λa A↦?_
      refine sdo (v := pA g2 2) A (qb xu rfl rfl) λa A↦?_
      refine sdo A (qh M qai rfl 1 rfl rfl) λa A↦?_
      refine sdo (v := pA g4 2) A (qb xu rfl rfl) λa A↦?_
      refine sdo A (qh M qai rfl 0 rfl rfl) λa A↦?_
      rcases tf (decide (ya.fs = yb.fs)) with hb16 | hb16
      ·
       have hb16' := of_decide_eq_true hb16
       refine gcl A M (ef rfl rfl) ((E.sameT_as (hA1.f.below M.bel) (by omega) (hB1.f.below M.bel) (by omega) hb16)) fun w18 hb17 M a A => ?_
       refine sdo (v := bV false) A (zi rfl zm) λa A↦?_
       refine sdk (v := bV false) A λa A↦?_
       refine sdm A λa A↦?_
       refine sdo (v := pA g2 3) A (qb kk rfl rfl) λa A↦?_
       refine sdo A (qh M qic rfl 1 rfl rfl) λa A↦?_
       refine sdo A (qn Tryz.underlying31 rfl) λa A↦?_
       refine sdo (v := pA g4 3) A (qb kk rfl rfl) λa A↦?_
       refine sdo A (qh M qic rfl 0 rfl rfl) λa A↦?_
       refine sdo A (qn Tryz.underlying31 rfl) λa A↦?_
       rcases tf ((((ya.ms.length : Nat) : Int) != ((yb.ms.length : Nat) : Int))) with hb19 | hb19
       ·
        have hb19' := bne_iff_ne.1 hb19
        refine sdc A zg hb19 λa A↦?_
        refine sdk (v := bV true) A λa A↦?_
        refine qa (hK7 _ _ (wp_cond_true (A.ev rfl) ?_))
        refine wsk fun K20 hK20 => wrl (sda A λa A↦?_)
        refine qa (hK20 _ _ (wp_ret (hret _ _ (en1 A rfl (qf rfl) ?_))))
        exact ⟨by rw [Bool.eq_false_iff.2 (fun q9 => (fun e => (by have := congrArg List.length e; omega)) (ve.1 q9).2.2.2.1)], M.bel⟩
       ·
        have hb19' := bne_eq_false_iff_eq.1 hb19
        refine sdc A zg hb19 λa A↦?_
        refine sdk (v := bV false) A λa A↦?_
        refine qa (hK7 _ _ (wp_cond_false (A.ev rfl) ?_))
        refine wp_skip (hK6 _ _ (wsk fun K21 hK21 => wsk fun K22 hK22 => wrl (sda A λa A↦?_)))
        refine qa (hK22 _ _ (wp_block ?_))
        have hnm9 := hb8
        have hfs9 := hb16
        have hui9 := hb15
        have hsl9 : ya.sl = yb.sl := by simpa using hb11
        have hop9 : ya.op = yb.op := by simpa using hb13
        have hpar9 : ya.par = yb.par := by simpa using hb9
        refine zt (fun m_ a w1 => ∃ (i : Nat), m_ = 1 + (ya.ms.length - i) ∧ (i ≤ ya.ms.length ∧ ∀ j : Nat, j < i → ya.ms[j]? = yb.ms[j]?) ∧ Sl a 74 [(0, .agg ya.c.toArray), (1, .agg yb.c.toArray), (2, pA g2 0), (3, pA g4 0), (5, iV (((i : Nat) : Int))), (6, pA g2 0), (7, .string ya.nm), (8, pA g4 0), (9, .string yb.nm), (10, bV false), (11, bV false), (12, pA g2 1), (13, iV ya.par), (14, pA g4 1), (15, iV yb.par), (16, bV false), (17, bV false), (18, bV false), (19, pA g2 4), (20, bV ya.sl), (21, pA g4 4), (22, bV yb.sl), (23, bV false), (24, bV false), (25, bV false), (26, pA g2 5), (27, bV ya.op), (28, pA g4 5), (29, bV yb.op), (30, bV false), (31, bV false), (32, bV false), (33, pA g2 6), (34, .string ya.ui), (35, pA g4 6), (36, .string yb.ui), (37, bV false), (38, bV false), (39, bV false), (40, pA g2 2), (41, .slice ya.fo ya.fs.length ya.fc), (42, pA g4 2), (43, .slice yb.fo yb.fs.length yb.fc), (44, bV true), (45, bV false), (46, bV false), (47, bV false), (48, pA g2 3), (49, .slice ya.mo ya.ms.length ya.mc), (50, iV (((ya.ms.length : Nat) : Int))), (51, pA g4 3), (52, .slice yb.mo yb.ms.length yb.mc), (53, iV (((yb.ms.length : Nat) : Int))), (54, bV false), (55, bV false)] ∧ Mg w w1 (.obj g4 (.cells yb.c.toArray 33) :: .obj g2 (.cells ya.c.toArray 33) :: [])) _ ⟨0, rfl, ⟨Nat.zero_le _, fun j h => absurd h (Nat.not_lt_zero _)⟩, A.keep _ (by repeat' constructor), M⟩ ?_
        clear M A
        rintro m_ a w23 ⟨i, rfl, hinv25, A, M⟩ K24 hK24
        obtain ⟨hi0, hin9⟩ := hinv25
        refine wsk fun K26 hK26 => wsk fun K27 hK27 => wrl (sdm A λa A↦?_)
        refine sdo (v := pA g2 3) A (qb kk rfl rfl) λa A↦?_
        refine sdo A (qh M qic rfl 1 rfl rfl) λa A↦?_
        refine sdo A (qn Tryz.underlying31 rfl) λa A↦?_
        rcases tf (decide (((i : Nat) : Int) < ((ya.ms.length : Nat) : Int))) with hb28 | hb28
        ·
         have hb28' := of_decide_eq_true hb28
         refine sdc A qw hb28 λa A↦?_
         refine qa (hK27 _ _ (wp_cond_true (A.ev rfl) ?_))
         refine wp_skip (hK26 _ _ (wsk fun K29 hK29 => wp_block (wsk fun K30 hK30 => zp (S := fun w1 => Mg w w1 (.obj g4 (.cells yb.c.toArray 33) :: .obj g2 (.cells ya.c.toArray 33) :: [])) (by kernel_rfl) ?_)))
         replace M := M.drew
         refine qe (v := pA g2 3) A 0 rfl rfl rfl rfl hP (M.sub (cc (cc ns))) (λ_ M↦qb kk rfl rfl) λa A↦?_
         refine qe A 1 rfl rfl rfl rfl hP (M.sub (cc (cc ns))) (λ_ M↦qh M qic rfl 1 rfl rfl) λa A↦?_
         refine qe A 2 rfl rfl rfl rfl hP (M.sub (cc (cc ns))) (λ_ M↦ql rfl) λa A↦?_
         obtain ⟨bx31, ox32, sx33, hs34, hc35, hi36⟩ := hA1.m.at_ (i := i) (by omega)
         refine qe (v := pA bx31 (ox32 + i)) A 3 rfl rfl rfl rfl hP (M.sub (cc (cc ns))) (λ_ M↦zk (k := i) Tryz.underlying31 (by kernel_rfl) rfl rfl (by first | rfl | omega) hs34 (by omega)) λa A↦?_
         refine qe A 4 rfl rfl rfl rfl hP (M.sub (cc (cc ns))) (λ_ M↦E.m_loadX M hc35 o94 rfl) λa A↦?_
         refine qe (v := pA g4 3) A 5 rfl rfl rfl rfl hP (M.sub (cc (cc ns))) (λ_ M↦qb kk rfl rfl) λa A↦?_
         refine qe A 6 rfl rfl rfl rfl hP (M.sub (cc (cc ns))) (λ_ M↦qh M qic rfl 0 rfl rfl) λa A↦?_
         refine qe A 7 rfl rfl rfl rfl hP (M.sub (cc (cc ns))) (λ_ M↦ql rfl) λa A↦?_
         obtain ⟨bx37, ox38, sx39, hs40, hc41, hi42⟩ := hB1.m.at_ (i := i) (by omega)
         refine qe (v := pA bx37 (ox38 + i)) A 8 rfl rfl rfl rfl hP (M.sub (cc (cc ns))) (λ_ M↦zk (k := i) Tryz.underlying31 (by kernel_rfl) rfl rfl (by first | rfl | omega) hs40 (by omega)) λa A↦?_
         refine qe A 9 rfl rfl rfl rfl hP (M.sub (cc (cc ns))) (λ_ M↦E.m_loadX M hc41 o94 rfl) λa A↦?_
         rcases tf (!(sx33 == sx39)) with hb43 | hb43
         ·
          refine qe (v := bV true) A 10 rfl rfl rfl rfl hP (M.sub (cc (cc ns))) (λ_ M↦qg rfl rfl (fun w => ((vi Tryz.underlying4) w).trans (by rw [hb43]))) λa A↦?_
          refine ze (by kernel_rfl) ?_
          refine hK30 _ _ (wp_cond_true (A.ev rfl) ?_)
          refine wsk fun K44 hK44 => wrl (sda A λa A↦?_)
          refine qa (hK44 _ _ (wp_ret (hret _ _ (en1 A rfl (qf rfl) ?_))))
          exact ⟨by rw [Bool.eq_false_iff.2 (fun q9 => (fun e => (by rw [e, hi42] at hi36; have e8 := Option.some.inj hi36; rw [e8] at hb43; simp at hb43)) (ve.1 q9).2.2.2.1)], M.bel⟩
         ·
          refine qe (v := bV false) A 10 rfl rfl rfl rfl hP (M.sub (cc (cc ns))) (λ_ M↦qg rfl rfl (fun w => ((vi Tryz.underlying4) w).trans (by rw [hb43]))) λa A↦?_
          refine ze (by kernel_rfl) ?_
          refine hK30 _ _ (wp_cond_false (A.ev rfl) ?_)
          refine wp_skip (hK29 _ _ (wrl (sdm A λa A↦?_)))
          refine sdo (v := iV (((i + 1 : Nat) : Int))) A (qg rfl rfl (fun w => (ja (ji (by omega) (by omega)) w).trans (by rw [show (((i : Nat) : Int) + 1 : Int) = ((i + 1 : Nat) : Int) from by omega]))) λa A↦?_
          refine sda A λa A↦?_
          refine qa ?_
          refine hK24 _ _ _ (by omega) ⟨i + 1, rfl, ⟨by omega, fun j hj => if h9 : j < i then hin9 j h9 else by have h8 : j = i := (by omega); subst h8; rw [hi36, hi42, show sx33 = sx39 from by simpa using hb43]⟩, A.keep _ (by repeat' constructor), M⟩
        ·
         have hb28' := of_decide_eq_false hb28
         refine sdc A qw hb28 λa A↦?_
         refine qa (hK27 _ _ (wp_cond_false (A.ev rfl) ?_))
         refine wp_exit (hK21 _ _ (wsk fun K45 hK45 => wrl (sda A λa A↦?_)))
         refine qa (hK45 _ _ (wp_ret (hret _ _ (en1 A rfl (qf rfl) ?_))))
         exact ⟨by rw [ve.2 ⟨of_decide_eq_true hnm9, hpar9, of_decide_eq_true hfs9, List.ext_getElem? fun j => if h9 : j < i then hin9 j h9 else (by rw [List.getElem?_eq_none (by omega), List.getElem?_eq_none (by omega)]), hsl9, hop9, of_decide_eq_true hui9⟩], M.bel⟩
      ·
       have hb16' := of_decide_eq_false hb16
       refine gcl A M (ef rfl rfl) ((E.sameT_as (hA1.f.below M.bel) (by omega) (hB1.f.below M.bel) (by omega) hb16)) fun w47 hb46 M a A => ?_
       refine sdo (v := bV true) A (zi rfl zm) λa A↦?_
       refine sdk (v := bV true) A λa A↦?_
       refine sdm A λa A↦?_
       iterate 7 refine qj A rfl rfl rfl λa A↦?_
       refine sdk (v := bV true) A λa A↦?_
       refine qa (hK7 _ _ (wp_cond_true (A.ev rfl) ?_))
       refine wsk fun K48 hK48 => wrl (sda A λa A↦?_)
       refine qa (hK48 _ _ (wp_ret (hret _ _ (en1 A rfl (qf rfl) ?_))))
       exact ⟨by rw [Bool.eq_false_iff.2 (fun q9 => (fun e => of_decide_eq_false hb16 e.2.2.1) (ve.1 q9))], M.bel⟩
     ·
      have hb15' := of_decide_eq_false hb15
      refine sdo (v := bV true) A (qg rfl rfl (fun w => (xe Tryz.underlying9 w).trans (by rw [hb15] <;> rfl))) λa A↦?_
      refine sdk (v := bV true) A λa A↦?_
      refine sdm A λa A↦?_
      iterate 6 refine qj A rfl rfl rfl λa A↦?_
      refine sdk (v := bV true) A λa A↦?_
      refine sdm A λa A↦?_
      iterate 7 refine qj A rfl rfl rfl λa A↦?_
      refine sdk (v := bV true) A λa A↦?_
      refine qa (hK7 _ _ (wp_cond_true (A.ev rfl) ?_))
      refine wsk fun K49 hK49 => wrl (sda A λa A↦?_)
      refine qa (hK49 _ _ (wp_ret (hret _ _ (en1 A rfl (qf rfl) ?_))))
      exact ⟨by rw [Bool.eq_false_iff.2 (fun q9 => (fun e => of_decide_eq_false hb15 e.2.2.2.2.2.2) (ve.1 q9))], M.bel⟩
 ·
  have hb8' := of_decide_eq_false hb8
  refine sdo (v := bV true) A (qg rfl rfl (fun w => (xe Tryz.underlying9 w).trans (by rw [hb8] <;> rfl))) λa A↦?_
  refine sdm A λa A↦?_
  iterate 5 refine qj A rfl rfl rfl λa A↦?_
  refine sdk (v := bV true) A λa A↦?_
  refine sdm A λa A↦?_
  iterate 5 refine qj A rfl rfl rfl λa A↦?_
  refine sdk (v := bV true) A λa A↦?_
  refine sdm A λa A↦?_
  iterate 5 refine qj A rfl rfl rfl λa A↦?_
  refine sdk (v := bV true) A λa A↦?_
  refine sdm A λa A↦?_
  iterate 5 refine qj A rfl rfl rfl λa A↦?_
  refine sdk (v := bV true) A λa A↦?_
  refine sdm A λa A↦?_
  iterate 6 refine qj A rfl rfl rfl λa A↦?_
  refine sdk (v := bV true) A λa A↦?_
  refine sdm A λa A↦?_
  iterate 7 refine qj A rfl rfl rfl λa A↦?_
  refine sdk (v := bV true) A λa A↦?_
  refine qa (hK7 _ _ (wp_cond_true (A.ev rfl) ?_))
  refine wsk fun K50 hK50 => wrl (sda A λa A↦?_)
  refine qa (hK50 _ _ (wp_ret (hret _ _ (en1 A rfl (qf rfl) ?_))))
  exact ⟨by rw [Bool.eq_false_iff.2 (fun q9 => (fun e => of_decide_eq_false hb8 e.1) (ve.1 q9))], M.bel⟩
theorem qeh {w : World} {ya yb : Ty} (hA1 : TyR w ya) (hB1 : TyR w yb) (ha1 : ya.fs.length ≤ 2000000) (hb1 : yb.fs.length ≤ 2000000) (ha2 : ya.ms.length ≤ 2000000) (hb2 : yb.ms.length ≤ 2000000) {v : Bool} (h : xm ya.k yb.k = v) : Calls Tryz.prog 24 #[.agg ya.c.toArray, .agg yb.c.toArray] w fun e w' => e = .returned (bV v) ∧ Below w.heap.size w w' := h ▸ zaf hA1 hB1 ha1 hb1 ha2 hb2
theorem zre {l : List Int} {t : Int} {i : Nat} (h : ∀ (j : Nat) u, j < i → l[j]? = some u → (u == t) = false) (hi : l.length ≤ i) : (l.any fun z => t == z) = false := by
 rw [List.any_eq_false]
 intro x hx
 obtain ⟨j, hj, rfl⟩ := List.getElem_of_mem hx
 have := h j _ (by omega) (List.getElem?_eq_getElem hj)
 intro e
 rw [eq_of_beq e] at this
 simp at this
theorem zid {w : World} {tz ro : Option Addr} {tc rc : Nat} {ts : List Ty} {rs : List Rk} (hT : TR w tz ts) (hR : RR w ro rs) (hW : WS (ts.map Ty.k) (rs.map Rk.k)) {r t : Int} : Calls Tryz.prog 19 #[.agg (sC tz tc ts ro rc rs).toArray, iV r, iV t] w fun e w' => e = .returned (.tuple #[bV (isS (ts.map Ty.k) (rs.map Rk.k) r t).1, iV (isS (ts.map Ty.k) (rs.map Rk.k) r t).2]) ∧ Below w.heap.size w w' := by
 have hkl := hW.kl
 have hrl := hW.rl
 rw [List.length_map] at hkl hrl
 have M : Mg w w ([]) := Mg.start w
 refine qs (l := [(0, .agg (sC tz tc ts ro rc rs).toArray), (1, iV r), (2, iV t)]) Tryz.func19 rfl Tryz.ntmps19 rfl rfl ?_
 intro Q hret hnorm hP a A
 refine wsk fun K1 hK1 => wrl (zy (vs := (sC tz tc ts ro rc rs)) (t := 29) A M rfl rfl rfl pg (zf rfl rfl) (by decide) ?_)
 intro g2 w3 M a A
 iterate 2 refine sda A λa A↦?_
 refine qa (hK1 _ _ (wsk fun K4 hK4 => wsk fun K5 hK5 => wrl (sdm A λa A↦?_)))
 rcases tf (decide (r < 0)) with hb6 | hb6
 ·
  have hb6' := of_decide_eq_true hb6
  refine sdc A qw hb6 λa A↦?_
  refine sdm A λa A↦?_
  iterate 5 refine qj A rfl rfl rfl λa A↦?_
  refine sdk (v := bV true) A λa A↦?_
  refine sdm A λa A↦?_
  iterate 2 refine qj A rfl rfl rfl λa A↦?_
  refine sdk (v := bV true) A λa A↦?_
  refine sdm A λa A↦?_
  iterate 5 refine qj A rfl rfl rfl λa A↦?_
  refine sdk (v := bV true) A λa A↦?_
  refine qa (hK5 _ _ (wp_cond_true (A.ev rfl) ?_))
  refine wsk fun K7 hK7 => wrl ?_
  iterate 2 refine sda A λa A↦?_
  refine qa (hK7 _ _ (wp_ret (hret _ _ (en2 A rfl (qf rfl) (qf rfl) ?_))))
  exact ⟨by rw [show isS (ts.map Ty.k) (rs.map Rk.k) r t = (false, 7) from by first | exact qyi (show okT rs.length r = false by unfold okT; simp; omega) | exact qyj (show okT ts.length t = false by unfold okT; simp; omega)], M.bel⟩
 ·
  have hb6' := of_decide_eq_false hb6
  refine sdc A qw hb6 λa A↦?_
  iterate 2 refine sdm A λa A↦?_
  refine sdo (v := pA g2 1) A (qb ky rfl rfl) λa A↦?_
  refine sdo A (qh M qpj rfl 0 rfl rfl) λa A↦?_
  refine sdo A (qn Tryz.underlying27 rfl) λa A↦?_
  rcases tf (decide (((rs.length : Nat) : Int) ≤ r)) with hb8 | hb8
  ·
   have hb8' := of_decide_eq_true hb8
   refine sdc A zl hb8 λa A↦?_
   refine sdk (v := bV true) A λa A↦?_
   refine sdm A λa A↦?_
   iterate 2 refine qj A rfl rfl rfl λa A↦?_
   refine sdk (v := bV true) A λa A↦?_
   refine sdm A λa A↦?_
   iterate 5 refine qj A rfl rfl rfl λa A↦?_
   refine sdk (v := bV true) A λa A↦?_
   refine qa (hK5 _ _ (wp_cond_true (A.ev rfl) ?_))
   refine wsk fun K9 hK9 => wrl ?_
   iterate 2 refine sda A λa A↦?_
   refine qa (hK9 _ _ (wp_ret (hret _ _ (en2 A rfl (qf rfl) (qf rfl) ?_))))
   exact ⟨by rw [show isS (ts.map Ty.k) (rs.map Rk.k) r t = (false, 7) from by first | exact qyi (show okT rs.length r = false by unfold okT; simp; omega) | exact qyj (show okT ts.length t = false by unfold okT; simp; omega)], M.bel⟩
  ·
   have hb8' := of_decide_eq_false hb8
   refine sdc A zl hb8 λa A↦?_
   refine sdk (v := bV false) A λa A↦?_
   iterate 2 refine sdm A λa A↦?_
   rcases tf (decide (t < 0)) with hb10 | hb10
   ·
    have hb10' := of_decide_eq_true hb10
    refine sdc A qw hb10 λa A↦?_
    refine sdk (v := bV true) A λa A↦?_
    refine sdm A λa A↦?_
    iterate 5 refine qj A rfl rfl rfl λa A↦?_
    refine sdk (v := bV true) A λa A↦?_
    refine qa (hK5 _ _ (wp_cond_true (A.ev rfl) ?_))
    refine wsk fun K11 hK11 => wrl ?_
    iterate 2 refine sda A λa A↦?_
    refine qa (hK11 _ _ (wp_ret (hret _ _ (en2 A rfl (qf rfl) (qf rfl) ?_))))
    exact ⟨by rw [show isS (ts.map Ty.k) (rs.map Rk.k) r t = (false, 7) from by first | exact qyi (show okT rs.length r = false by unfold okT; simp; omega) | exact qyj (show okT ts.length t = false by unfold okT; simp; omega)], M.bel⟩
   ·
    have hb10' := of_decide_eq_false hb10
    refine sdc A qw hb10 λa A↦?_
    refine sdk (v := bV false) A λa A↦?_
    iterate 2 refine sdm A λa A↦?_
    refine sdo (v := pA g2 0) A (qb xt rfl rfl) λa A↦?_
    refine sdo A (qh M xn rfl 0 rfl rfl) λa A↦?_
    refine sdo A (qn Tryz.underlying26 rfl) λa A↦?_
    rcases tf (decide (((ts.length : Nat) : Int) ≤ t)) with hb12 | hb12
    ·
     have hb12' := of_decide_eq_true hb12
     refine sdc A zl hb12 λa A↦?_
     refine sdk (v := bV true) A λa A↦?_
     refine qa (hK5 _ _ (wp_cond_true (A.ev rfl) ?_))
     refine wsk fun K13 hK13 => wrl ?_
     iterate 2 refine sda A λa A↦?_
     refine qa (hK13 _ _ (wp_ret (hret _ _ (en2 A rfl (qf rfl) (qf rfl) ?_))))
     exact ⟨by rw [show isS (ts.map Ty.k) (rs.map Rk.k) r t = (false, 7) from by first | exact qyi (show okT rs.length r = false by unfold okT; simp; omega) | exact qyj (show okT ts.length t = false by unfold okT; simp; omega)], M.bel⟩
    ·
     have hb12' := of_decide_eq_false hb12
     refine sdc A zl hb12 λa A↦?_
     refine sdk (v := bV false) A λa A↦?_
     refine qa (hK5 _ _ (wp_cond_false (A.ev rfl) ?_))
     refine wp_skip (hK4 _ _ (wsk fun K14 hK14 => ?_))
     obtain ⟨rk9, br9, or9, ir9, mr9, rr9, lr9, Hr9⟩ := hR.at_ (i := r.toNat) (by omega)
     have hrk15 := hW.rk _ (List.mem_of_getElem? (xg ir9))
     rw [List.length_map, show rk9.k.1 = rk9.kd from rfl, show rk9.k.2.length = rk9.vs.length from List.length_map _] at hrk15
     have hcl := ub (prs (ts.map Ty.k)) ((rk9.kd : Nat) : Int)
     refine zp (S := fun w1 => Mg w w1 (.obj g2 (.cells (sC tz tc ts ro rc rs).toArray 29) :: [])) (by kernel_rfl) ?_
     replace M := M.drew
     refine qe A 0 rfl rfl rfl rfl hP (M.sub (cc ns)) (λ_ M↦qz M jr rfl 0 rfl (cs := (sC tz tc ts ro rc rs)) rfl rfl) λa A↦?_
     refine qe (v := pA g2 1) A 1 rfl rfl rfl rfl hP (M.sub (cc ns)) (λ_ M↦qb ky rfl rfl) λa A↦?_
     refine qe A 2 rfl rfl rfl rfl hP (M.sub (cc ns)) (λ_ M↦qh M qpj rfl 0 rfl rfl) λa A↦?_
     refine qe A 3 rfl rfl rfl rfl hP (M.sub (cc ns)) (λ_ M↦ql rfl) λa A↦?_
     refine qe (v := pA br9 (or9 + r.toNat * 2)) A 4 rfl rfl rfl rfl hP (M.sub (cc ns)) (λ_ M↦qx (k := r.toNat) Tryz.underlying27 (by kernel_rfl) rfl rfl (by first | rfl | omega) lr9 (by omega)) λa A↦?_
     refine qe (v := pA br9 (or9 + r.toNat * 2)) A 5 rfl rfl rfl rfl hP (M.sub (cc ns)) (λ_ M↦qb zcg rfl rfl) λa A↦?_
     refine qe A 6 rfl rfl rfl rfl hP (M.sub (cc ns)) (λ_ M↦jj (j := 0) M Hr9 o93 rfl rfl rfl) λa A↦?_
     refine zd (by kernel_rfl) (jf A 7 rfl rfl rfl rfl (zj rfl rfl (fun w => by kernel_rfl)) (qef (hT.below M.bel) (hR.below M.bel) hW (by omega) (by omega)) ?_)
     rintro _ w19 ⟨so16, ca17, rfl, hM18⟩
     replace M : Mg w w19 (.row 3 1 (.slice so16 ((chT (prs (ts.map Ty.k)) (((rk9.kd : Nat) : Int))).length) ca17) ((chT (prs (ts.map Ty.k)) (((rk9.kd : Nat) : Int))).length) (inC (chT (prs (ts.map Ty.k)) (((rk9.kd : Nat) : Int)))) :: .obj g2 (.cells (sC tz tc ts ro rc rs).toArray 29) :: []) := (M.both hM18 (qi (by simp) (qk qm)) (qi (by simp) (qk qm)))
     refine ⟨_, rfl, (M.sub (cn (cc ns))), ?_⟩
     intro a A
     refine qe A 8 rfl rfl rfl rfl hP (M.sub (cn (cc ns))) (λ_ M↦qp rfl) λa A↦?_
     refine ze (by kernel_rfl) ?_
     refine hK14 _ _ (wsk fun K20 hK20 => wsk fun K21 hK21 => wrl (sda A λa A↦?_))
     refine qa (hK21 _ _ (wp_block (zt (fun m_ a w1 => ∃ (i : Nat), m_ = 1 + ((chT (prs (ts.map Ty.k)) ((rk9.kd : Nat) : Int)).length - i) ∧ (i ≤ (chT (prs (ts.map Ty.k)) ((rk9.kd : Nat) : Int)).length ∧ ∀ (j : Nat) u, j < i → (chT (prs (ts.map Ty.k)) ((rk9.kd : Nat) : Int))[j]? = some u → (u == t) = false) ∧ Sl a 50 [(0, .agg (sC tz tc ts ro rc rs).toArray), (1, iV r), (2, iV t), (3, pA g2 0), (8, .slice so16 ((chT (prs (ts.map Ty.k)) (((rk9.kd : Nat) : Int))).length) ca17), (9, iV (((i : Nat) : Int))), (10, iV r), (11, bV false), (12, bV false), (13, iV r), (14, pA g2 1), (15, .slice ro rs.length rc), (16, iV (((rs.length : Nat) : Int))), (17, bV false), (18, bV false), (19, bV false), (20, iV t), (21, bV false), (22, bV false), (23, bV false), (24, iV t), (25, pA g2 0), (26, .slice tz ts.length tc), (27, iV (((ts.length : Nat) : Int))), (28, bV false), (29, bV false), (30, .agg (sC tz tc ts ro rc rs).toArray), (31, pA g2 1), (32, .slice ro rs.length rc), (33, iV r), (34, pA br9 (or9 + r.toNat * 2)), (35, pA br9 (or9 + r.toNat * 2)), (36, iV (((rk9.kd : Nat) : Int))), (37, .slice so16 ((chT (prs (ts.map Ty.k)) (((rk9.kd : Nat) : Int))).length) ca17)] ∧ Mg w w1 (.row 3 1 (.slice so16 ((chT (prs (ts.map Ty.k)) (((rk9.kd : Nat) : Int))).length) ca17) ((chT (prs (ts.map Ty.k)) (((rk9.kd : Nat) : Int))).length) (inC (chT (prs (ts.map Ty.k)) (((rk9.kd : Nat) : Int)))) :: .obj g2 (.cells (sC tz tc ts ro rc rs).toArray 29) :: [])) _ ⟨0, rfl, ⟨Nat.zero_le _, fun j u h => absurd h (Nat.not_lt_zero _)⟩, A.keep _ (by repeat' constructor), M⟩ ?_)))
     clear M A
     rintro m_ a w22 ⟨i, rfl, hinv24, A, M⟩ K23 hK23
     obtain ⟨hi0, hin9⟩ := hinv24
     refine wsk fun K25 hK25 => wsk fun K26 hK26 => wrl ?_
     iterate 2 refine sdm A λa A↦?_
     refine sdo A (qn Tryz.underlying68 rfl) λa A↦?_
     rcases tf (decide (((i : Nat) : Int) < (((chT (prs (ts.map Ty.k)) (((rk9.kd : Nat) : Int))).length : Nat) : Int))) with hb27 | hb27
     ·
      have hb27' := of_decide_eq_true hb27
      refine sdc A qw hb27 λa A↦?_
      refine qa (hK26 _ _ (wp_cond_true (A.ev rfl) ?_))
      refine wp_skip (hK25 _ _ (wsk fun K28 hK28 => wp_block (wsk fun K29 hK29 => wrl ?_)))
      iterate 2 refine sdm A λa A↦?_
      obtain ⟨bi30, oi31, zi32, hs33, hc34, hi35, hm36⟩ := qna (rc_own (M.has 0 rfl)) (i := i) (by omega)
      refine sdo (v := pA bi30 (oi31 + i)) A (zk (k := i) Tryz.underlying68 (by kernel_rfl) rfl rfl (by first | rfl | omega) hs33 (by omega)) λa A↦?_
      refine sdo A (qfj hc34 o93 rfl) λa A↦?_
      refine sdm A λa A↦?_
      rcases tf ((zi32 == t)) with hb37 | hb37
      ·
       have hb37' := eq_of_beq hb37
       refine sdc A qr hb37 λa A↦?_
       refine qa (hK29 _ _ (wp_cond_true (A.ev rfl) ?_))
       refine wsk fun K38 hK38 => wrl ?_
       iterate 2 refine sda A λa A↦?_
       refine qa (hK38 _ _ (wp_ret (hret _ _ (en2 A rfl (qf rfl) (qf rfl) ?_))))
       exact ⟨by rw [zea (show okT rs.length r = true by unfold okT; simp; omega) (show okT ts.length t = true by unfold okT; simp; omega) ir9, show ((chT (prs (ts.map Ty.k)) ((rk9.kd : Nat) : Int)).any fun z => t == z) = true from List.any_eq_true.2 ⟨zi32, hm36, by rw [eq_of_beq hb37]; exact beq_self_eq_true _⟩], M.bel⟩
      ·
       have hb37' := ne_of_beq_false hb37
       refine sdc A qr hb37 λa A↦?_
       refine qa (hK29 _ _ (wp_cond_false (A.ev rfl) ?_))
       refine wp_skip (hK28 _ _ (wrl (sdm A λa A↦?_)))
       refine sdo (v := iV (((i + 1 : Nat) : Int))) A (qg rfl rfl (fun w => (ja (ji (by omega) (by omega)) w).trans (by rw [show (((i : Nat) : Int) + 1 : Int) = ((i + 1 : Nat) : Int) from by omega]))) λa A↦?_
       refine sda A λa A↦?_
       refine qa ?_
       replace M : Mg w w22 (.row 3 1 (.slice so16 ((chT (prs (ts.map Ty.k)) (((rk9.kd : Nat) : Int))).length) ca17) ((chT (prs (ts.map Ty.k)) (((rk9.kd : Nat) : Int))).length) (inC (chT (prs (ts.map Ty.k)) (((rk9.kd : Nat) : Int)))) :: .obj g2 (.cells (sC tz tc ts ro rc rs).toArray 29) :: []) := ((M.bring 1 rfl rfl).bring 1 rfl rfl)
       refine hK23 _ _ _ (by omega) ⟨i + 1, rfl, ⟨by omega, fun j u hj hu => if h9 : j < i then hin9 j u h9 hu else by have h8 : j = i := (by omega); subst h8; rw [hi35] at hu; rw [← Option.some.inj hu]; exact hb37⟩, A.keep _ (by repeat' constructor), M⟩
     ·
      have hb27' := of_decide_eq_false hb27
      refine sdc A qw hb27 λa A↦?_
      refine qa (hK26 _ _ (wp_cond_false (A.ev rfl) ?_))
      refine wp_exit (hK20 _ _ (wsk fun K39 hK39 => wrl ?_))
      iterate 2 refine sda A λa A↦?_
      refine qa (hK39 _ _ (wp_ret (hret _ _ (en2 A rfl (qf rfl) (qf rfl) ?_))))
      exact ⟨by rw [zea (show okT rs.length r = true by unfold okT; simp; omega) (show okT ts.length t = true by unfold okT; simp; omega) ir9, show ((chT (prs (ts.map Ty.k)) ((rk9.kd : Nat) : Int)).any fun z => t == z) = false from zre hin9 (by omega)], M.bel⟩
theorem qpe {w : World} {tz ro : Option Addr} {tc rc : Nat} {ts : List Ty} {rs : List Rk} (hT : TR w tz ts) (hR : RR w ro rs) (hW : WS (ts.map Ty.k) (rs.map Rk.k)) {r t i : Int} : Calls Tryz.prog 39 #[.agg (sC tz tc ts ro rc rs).toArray, iV r, iV t, iV i] w fun e w' => e = .returned (.tuple #[iV (plS (ts.map Ty.k) (rs.map Rk.k) r t i).1, iV (plS (ts.map Ty.k) (rs.map Rk.k) r t i).2]) ∧ Below w.heap.size w w' := by
 have hkl := hW.kl
 have hrl := hW.rl
 rw [List.length_map] at hkl hrl
 have M : Mg w w ([]) := Mg.start w
 refine qs (l := [(0, .agg (sC tz tc ts ro rc rs).toArray), (1, iV r), (2, iV t), (3, iV i)]) Tryz.func39 rfl Tryz.ntmps39 rfl rfl ?_
 intro Q hret hnorm hP a A
 refine wsk fun K1 hK1 => wrl (zy (vs := (sC tz tc ts ro rc rs)) (t := 29) A M rfl rfl rfl pg (zf rfl rfl) (by decide) ?_)
 intro g2 w3 M a A
 iterate 2 refine sda A λa A↦?_
 refine qa (hK1 _ _ (wsk fun K4 hK4 => wrl (sdo A (qz M jr rfl 0 rfl (cs := (sC tz tc ts ro rc rs)) rfl rfl) λa A↦?_)))
 iterate 2 refine sdm A λa A↦?_
 refine gcl A M (ef rfl rfl) (zid (hT.below M.bel) (hR.below M.bel) hW) fun w6 hb5 M a A => ?_
 refine sdm A λa A↦?_
 iterate 2 refine sdo A (zb (vs := [bV ((isS (ts.map Ty.k) (rs.map Rk.k) r t).1), iV ((isS (ts.map Ty.k) (rs.map Rk.k) r t).2)]) rfl rfl) λa A↦?_
 iterate 2 refine sda A λa A↦?_
 refine qa (hK4 _ _ (wsk fun K7 hK7 => wsk fun K8 hK8 => wrl (sdm A λa A↦?_)))
 rcases tf (((isS (ts.map Ty.k) (rs.map Rk.k) r t).2 != 0)) with hb9 | hb9
 ·
  have hb9' := bne_iff_ne.1 hb9
  refine sdc A zg hb9 λa A↦?_
  refine qa (hK8 _ _ (wp_cond_true (A.ev rfl) ?_))
  refine wsk fun K10 hK10 => wrl (sdm A λa A↦?_)
  iterate 2 refine sda A λa A↦?_
  refine qa (hK10 _ _ (wp_ret (hret _ _ (en2 A rfl (qf rfl) (qf rfl) ?_))))
  exact ⟨by rw [qvf (i := i) (show (isS (ts.map Ty.k) (rs.map Rk.k) r t).2 ≠ 0 by omega)], M.bel⟩
 ·
  have hb9' := bne_eq_false_iff_eq.1 hb9
  refine sdc A zg hb9 λa A↦?_
  refine qa (hK8 _ _ (wp_cond_false (A.ev rfl) ?_))
  refine wp_skip (hK7 _ _ (wsk fun K11 hK11 => wsk fun K12 hK12 => wrl (sdm A λa A↦?_)))
  refine sdo (v := bV (!((isS (ts.map Ty.k) (rs.map Rk.k) r t).1))) A (zi rfl zm) λa A↦?_
  refine qa (hK12 _ _ ?_)
  refine wp_cond_split (t := !((isS (ts.map Ty.k) (rs.map Rk.k) r t).1)) (A.ev rfl) (fun hc13 => ?_) (fun hc13 => ?_)
  ·
   refine wsk fun K14 hK14 => wrl ?_
   iterate 2 refine sda A λa A↦?_
   refine qa (hK14 _ _ (wp_ret (hret _ _ (en2 A rfl (qf rfl) (qf rfl) ?_))))
   exact ⟨by rw [qob (i := i) (show (isS (ts.map Ty.k) (rs.map Rk.k) r t).2 = 0 by omega) (by simpa using hc13)], M.bel⟩
  ·
   refine wp_skip (hK11 _ _ (wsk fun K15 hK15 => wsk fun K16 hK16 => ?_))
   have hz9 := qoa (show (isS (ts.map Ty.k) (rs.map Rk.k) r t).2 = 0 by omega)
   rw [List.length_map, List.length_map] at hz9
   have hr9 := ke hz9.1
   have ht9 := ke hz9.2
   obtain ⟨ty17, bt18, ot19, it20, mt21, rt22, lt23, Ht24⟩ := hT.at_ (i := t.toNat) (by omega)
   have hnf := hW.nf16 (zn it20)
   have hpl := hW.par_lt (zn it20)
   rw [show ty17.k.fs.length = ty17.fs.length from rfl, show ty17.k.par = ty17.par from rfl] at hnf
   rw [show ty17.k.par = ty17.par from rfl] at hpl
   refine wrl (sdm A λa A↦?_)
   rcases tf (decide (i < 0)) with hb25 | hb25
   ·
    have hb25' := of_decide_eq_true hb25
    refine sdc A qw hb25 λa A↦?_
    refine sdm A λa A↦?_
    iterate 9 refine qj A rfl rfl rfl λa A↦?_
    refine sdk (v := bV true) A λa A↦?_
    refine qa (hK16 _ _ (wp_cond_true (A.ev rfl) ?_))
    refine wsk fun K26 hK26 => wrl ?_
    iterate 2 refine sda A λa A↦?_
    refine qa (hK26 _ _ (wp_ret (hret _ _ (en2 A rfl (qf rfl) (qf rfl) ?_))))
    exact ⟨by rw [qgg (show (isS (ts.map Ty.k) (rs.map Rk.k) r t).2 = 0 by omega) (by simpa using hc13) (zn it20) (show i < 0 ∨ ((ty17.fs.length : Nat) : Int) ≤ i by omega)], M.bel⟩
   ·
    have hb25' := of_decide_eq_false hb25
    refine sdc A qw hb25 λa A↦?_
    iterate 2 refine sdm A λa A↦?_
    refine sdo (v := pA g2 0) A (qb xt rfl rfl) λa A↦?_
    refine sdo A (qh M xn rfl 0 rfl rfl) λa A↦?_
    refine sdm A λa A↦?_
    refine sdo (v := pA bt18 (ot19 + t.toNat * 7)) A (qx (k := t.toNat) Tryz.underlying26 (by kernel_rfl) rfl rfl (by first | rfl | omega) lt23 (by omega)) λa A↦?_
    refine sdo (v := pA bt18 (ot19 + t.toNat * 7 + 2)) A (qb xu rfl rfl) λa A↦?_
    refine sdo A (jj (j := 2) M Ht24 qai rfl rfl rfl) λa A↦?_
    refine sdo A (qn Tryz.underlying30 rfl) λa A↦?_
    rcases tf (decide (((ty17.fs.length : Nat) : Int) ≤ i)) with hb27 | hb27
    ·
     have hb27' := of_decide_eq_true hb27
     refine sdc A zl hb27 λa A↦?_
     refine sdk (v := bV true) A λa A↦?_
     refine qa (hK16 _ _ (wp_cond_true (A.ev rfl) ?_))
     refine wsk fun K28 hK28 => wrl ?_
     iterate 2 refine sda A λa A↦?_
     refine qa (hK28 _ _ (wp_ret (hret _ _ (en2 A rfl (qf rfl) (qf rfl) ?_))))
     exact ⟨by rw [qgg (show (isS (ts.map Ty.k) (rs.map Rk.k) r t).2 = 0 by omega) (by simpa using hc13) (zn it20) (show i < 0 ∨ ((ty17.fs.length : Nat) : Int) ≤ i by omega)], M.bel⟩
    ·
     have hb27' := of_decide_eq_false hb27
     refine sdc A zl hb27 λa A↦?_
     refine sdk (v := bV false) A λa A↦?_
     refine qa (hK16 _ _ (wp_cond_false (A.ev rfl) ?_))
     refine wp_skip (hK15 _ _ (wsk fun K29 hK29 => wrl (sda A λa A↦?_)))
     refine qa (hK29 _ _ (wsk fun K30 hK30 => wsk fun K31 hK31 => wrl (sdo (v := pA g2 0) A (qb xt rfl rfl) λa A↦?_)))
     refine sdo A (qh M xn rfl 0 rfl rfl) λa A↦?_
     refine sdm A λa A↦?_
     refine sdo (v := pA bt18 (ot19 + t.toNat * 7)) A (qx (k := t.toNat) Tryz.underlying26 (by kernel_rfl) rfl rfl (by first | rfl | omega) lt23 (by omega)) λa A↦?_
     refine sdo (v := pA bt18 (ot19 + t.toNat * 7 + 1)) A (qb ju rfl rfl) λa A↦?_
     refine sdo A (jj (j := 1) M Ht24 o93 rfl rfl rfl) λa A↦?_
     rcases tf (decide (0 ≤ ty17.par)) with hb32 | hb32
     ·
      have hb32' := of_decide_eq_true hb32
      refine sdc A zl hb32 λa A↦?_
      refine qa (hK31 _ _ (wp_cond_true (A.ev rfl) ?_))
      refine zp (S := fun w1 => Mg w w1 (.obj g2 (.cells (sC tz tc ts ro rc rs).toArray 29) :: [])) (by kernel_rfl) ?_
      replace M := M.drew
      refine qe A 0 rfl rfl rfl rfl hP (M.sub (cc ns)) (λ_ M↦qz M jr rfl 0 rfl (cs := (sC tz tc ts ro rc rs)) rfl rfl) λa A↦?_
      refine qe (v := pA g2 0) A 1 rfl rfl rfl rfl hP (M.sub (cc ns)) (λ_ M↦qb xt rfl rfl) λa A↦?_
      refine qe A 2 rfl rfl rfl rfl hP (M.sub (cc ns)) (λ_ M↦qh M xn rfl 0 rfl rfl) λa A↦?_
      refine qe A 3 rfl rfl rfl rfl hP (M.sub (cc ns)) (λ_ M↦ql rfl) λa A↦?_
      refine qe (v := pA bt18 (ot19 + t.toNat * 7)) A 4 rfl rfl rfl rfl hP (M.sub (cc ns)) (λ_ M↦qx (k := t.toNat) Tryz.underlying26 (by kernel_rfl) rfl rfl (by first | rfl | omega) lt23 (by omega)) λa A↦?_
      refine qe (v := pA bt18 (ot19 + t.toNat * 7 + 1)) A 5 rfl rfl rfl rfl hP (M.sub (cc ns)) (λ_ M↦qb ju rfl rfl) λa A↦?_
      refine qe A 6 rfl rfl rfl rfl hP (M.sub (cc ns)) (λ_ M↦jj (j := 1) M Ht24 o93 rfl rfl rfl) λa A↦?_
      refine zd (by kernel_rfl) (jf A 7 rfl rfl rfl rfl (zj rfl rfl (fun w => by kernel_rfl)) (qeg (hT.below M.bel) (hR.below M.bel) hW (by omega) (by omega)) ?_)
      rintro _ w34 ⟨rfl, hb33⟩
      replace M := M.call hb33
      refine ⟨_, rfl, (M.sub (cc ns)), ?_⟩
      intro a A
      refine qe A 8 rfl rfl rfl rfl hP (M.sub (cc ns)) (λ_ M↦qp rfl) λa A↦?_
      refine ze (by kernel_rfl) ?_
      refine hK30 _ _ (wsk fun K35 hK35 => wrl ?_)
      iterate 2 refine sdm A λa A↦?_
      refine sdo (v := iV (((cnt (ts.map Ty.k) ty17.par : Nat) : Int) + i)) A (qg rfl rfl (ja (ji (by omega) (by omega)))) λa A↦?_
      iterate 2 refine sda A λa A↦?_
      refine qa (hK35 _ _ (wp_ret (hret _ _ (en2 A rfl (qf rfl) (qf rfl) ?_))))
      exact ⟨by rw [qvg (show (isS (ts.map Ty.k) (rs.map Rk.k) r t).2 = 0 by omega) (by simpa using hc13) (zn it20) (show 0 ≤ i by omega) (show i < ((ty17.fs.length : Nat) : Int) by omega)]; rfl, M.bel⟩
     ·
      have hb32' := of_decide_eq_false hb32
      refine sdc A zl hb32 λa A↦?_
      refine qa (hK31 _ _ (wp_cond_false (A.ev rfl) ?_))
      refine wp_skip (hK30 _ _ (wsk fun K36 hK36 => wrl ?_))
      iterate 2 refine sdm A λa A↦?_
      refine sdo (v := iV (0 + i)) A (qg rfl rfl (ja (ji (by omega) (by omega)))) λa A↦?_
      iterate 2 refine sda A λa A↦?_
      refine qa (hK36 _ _ (wp_ret (hret _ _ (en2 A rfl (qf rfl) (qf rfl) ?_))))
      exact ⟨by rw [qvg (show (isS (ts.map Ty.k) (rs.map Rk.k) r t).2 = 0 by omega) (by simpa using hc13) (zn it20) (show 0 ≤ i by omega) (show i < ((ty17.fs.length : Nat) : Int) by omega), show cnt (ts.map Ty.k) ty17.k.par = 0 from que (show ty17.par < 0 by omega)]; simp, M.bel⟩
theorem zrf {ks : List TK} {t : Int} {i : Nat} (h : ∀ (j : Nat) u, j < i → (chT (prs ks) t)[j]? = some u → zjd ks u = false) (hi : (chT (prs ks) t).length ≤ i) : opq ks t = false := by
 unfold opq
 rw [List.any_eq_false]
 intro x hx
 obtain ⟨j, hj, rfl⟩ := List.getElem_of_mem hx
 rw [h j _ (by omega) (List.getElem?_eq_getElem hj)]
 decide
theorem zag {w : World} {tz ro : Option Addr} {tc rc : Nat} {ts : List Ty} {rs : List Rk} (hT : TR w tz ts) (hR : RR w ro rs) (hW : WS (ts.map Ty.k) (rs.map Rk.k)) {r : Int} : Calls Tryz.prog 21 #[.agg (sC tz tc ts ro rc rs).toArray, iV r] w fun e w' => e = .returned (.tuple #[iV (yv (ts.map Ty.k) (rs.map Rk.k) r).1, iV (yv (ts.map Ty.k) (rs.map Rk.k) r).2]) ∧ Below w.heap.size w w' := by
 have hkl := hW.kl
 have hrl := hW.rl
 rw [List.length_map] at hkl hrl
 have M : Mg w w ([]) := Mg.start w
 refine qs (l := [(0, .agg (sC tz tc ts ro rc rs).toArray), (1, iV r)]) Tryz.func21 rfl Tryz.ntmps21 rfl rfl ?_
 intro Q hret hnorm hP a A
 refine wsk fun K1 hK1 => wrl (zy (vs := (sC tz tc ts ro rc rs)) (t := 29) A M rfl rfl rfl pg (zf rfl rfl) (by decide) ?_)
 intro g2 w3 M a A
 iterate 2 refine sda A λa A↦?_
 refine qa (hK1 _ _ (wsk fun K4 hK4 => wsk fun K5 hK5 => wrl (sdm A λa A↦?_)))
 rcases tf (decide (r < 0)) with hb6 | hb6
 ·
  have hb6' := of_decide_eq_true hb6
  refine sdc A qw hb6 λa A↦?_
  refine sdm A λa A↦?_
  iterate 5 refine qj A rfl rfl rfl λa A↦?_
  refine sdk (v := bV true) A λa A↦?_
  refine qa (hK5 _ _ (wp_cond_true (A.ev rfl) ?_))
  refine wsk fun K7 hK7 => wrl ?_
  iterate 2 refine sda A λa A↦?_
  refine qa (hK7 _ _ (wp_ret (hret _ _ (en2 A rfl (qf rfl) (qf rfl) ?_))))
  exact ⟨by rw [qvh (show okT rs.length r = false by unfold okT; simp; omega)], M.bel⟩
 ·
  have hb6' := of_decide_eq_false hb6
  refine sdc A qw hb6 λa A↦?_
  iterate 2 refine sdm A λa A↦?_
  refine sdo (v := pA g2 1) A (qb ky rfl rfl) λa A↦?_
  refine sdo A (qh M qpj rfl 0 rfl rfl) λa A↦?_
  refine sdo A (qn Tryz.underlying27 rfl) λa A↦?_
  rcases tf (decide (((rs.length : Nat) : Int) ≤ r)) with hb8 | hb8
  ·
   have hb8' := of_decide_eq_true hb8
   refine sdc A zl hb8 λa A↦?_
   refine sdk (v := bV true) A λa A↦?_
   refine qa (hK5 _ _ (wp_cond_true (A.ev rfl) ?_))
   refine wsk fun K9 hK9 => wrl ?_
   iterate 2 refine sda A λa A↦?_
   refine qa (hK9 _ _ (wp_ret (hret _ _ (en2 A rfl (qf rfl) (qf rfl) ?_))))
   exact ⟨by rw [qvh (show okT rs.length r = false by unfold okT; simp; omega)], M.bel⟩
  ·
   have hb8' := of_decide_eq_false hb8
   refine sdc A zl hb8 λa A↦?_
   refine sdk (v := bV false) A λa A↦?_
   refine qa (hK5 _ _ (wp_cond_false (A.ev rfl) ?_))
   refine wp_skip (hK4 _ _ (wsk fun K10 hK10 => ?_))
   obtain ⟨rk9, br9, or9, ir9, mr9, rr9, lr9, Hr9⟩ := hR.at_ (i := r.toNat) (by omega)
   have hrk11 := hW.rk _ (List.mem_of_getElem? (xg ir9))
   rw [List.length_map, show rk9.k.1 = rk9.kd from rfl, show rk9.k.2.length = rk9.vs.length from List.length_map _] at hrk11
   have hcl := ub (prs (ts.map Ty.k)) ((rk9.kd : Nat) : Int)
   refine zp (S := fun w1 => Mg w w1 (.obj g2 (.cells (sC tz tc ts ro rc rs).toArray 29) :: [])) (by kernel_rfl) ?_
   replace M := M.drew
   refine qe A 0 rfl rfl rfl rfl hP (M.sub (cc ns)) (λ_ M↦qz M jr rfl 0 rfl (cs := (sC tz tc ts ro rc rs)) rfl rfl) λa A↦?_
   refine qe (v := pA g2 1) A 1 rfl rfl rfl rfl hP (M.sub (cc ns)) (λ_ M↦qb ky rfl rfl) λa A↦?_
   refine qe A 2 rfl rfl rfl rfl hP (M.sub (cc ns)) (λ_ M↦qh M qpj rfl 0 rfl rfl) λa A↦?_
   refine qe A 3 rfl rfl rfl rfl hP (M.sub (cc ns)) (λ_ M↦ql rfl) λa A↦?_
   refine qe (v := pA br9 (or9 + r.toNat * 2)) A 4 rfl rfl rfl rfl hP (M.sub (cc ns)) (λ_ M↦qx (k := r.toNat) Tryz.underlying27 (by kernel_rfl) rfl rfl (by first | rfl | omega) lr9 (by omega)) λa A↦?_
   refine qe (v := pA br9 (or9 + r.toNat * 2)) A 5 rfl rfl rfl rfl hP (M.sub (cc ns)) (λ_ M↦qb zcg rfl rfl) λa A↦?_
   refine qe A 6 rfl rfl rfl rfl hP (M.sub (cc ns)) (λ_ M↦jj (j := 0) M Hr9 o93 rfl rfl rfl) λa A↦?_
   refine zd (by kernel_rfl) (jf A 7 rfl rfl rfl rfl (zj rfl rfl (fun w => by kernel_rfl)) (qef (hT.below M.bel) (hR.below M.bel) hW (by omega) (by omega)) ?_)
   rintro _ w15 ⟨so12, ca13, rfl, hM14⟩
   replace M : Mg w w15 (.row 3 1 (.slice so12 ((chT (prs (ts.map Ty.k)) (((rk9.kd : Nat) : Int))).length) ca13) ((chT (prs (ts.map Ty.k)) (((rk9.kd : Nat) : Int))).length) (inC (chT (prs (ts.map Ty.k)) (((rk9.kd : Nat) : Int)))) :: .obj g2 (.cells (sC tz tc ts ro rc rs).toArray 29) :: []) := (M.both hM14 (qi (by simp) (qk qm)) (qi (by simp) (qk qm)))
   refine ⟨_, rfl, (M.sub (cn (cc ns))), ?_⟩
   intro a A
   refine qe A 8 rfl rfl rfl rfl hP (M.sub (cn (cc ns))) (λ_ M↦qp rfl) λa A↦?_
   refine ze (by kernel_rfl) ?_
   refine hK10 _ _ (wsk fun K16 hK16 => wsk fun K17 hK17 => wrl (sda A λa A↦?_))
   refine qa (hK17 _ _ (wp_block (zt (fun m_ a w1 => ∃ (i : Nat), m_ = 1 + ((chT (prs (ts.map Ty.k)) ((rk9.kd : Nat) : Int)).length - i) ∧ (i ≤ (chT (prs (ts.map Ty.k)) ((rk9.kd : Nat) : Int)).length ∧ ∀ (j : Nat) u, j < i → (chT (prs (ts.map Ty.k)) ((rk9.kd : Nat) : Int))[j]? = some u → zjd (ts.map Ty.k) u = false) ∧ Sl a 46 [(0, .agg (sC tz tc ts ro rc rs).toArray), (1, iV r), (2, pA g2 0), (6, .slice so12 ((chT (prs (ts.map Ty.k)) (((rk9.kd : Nat) : Int))).length) ca13), (7, iV (((i : Nat) : Int))), (8, iV r), (9, bV false), (10, bV false), (11, iV r), (12, pA g2 1), (13, .slice ro rs.length rc), (14, iV (((rs.length : Nat) : Int))), (15, bV false), (16, bV false), (17, .agg (sC tz tc ts ro rc rs).toArray), (18, pA g2 1), (19, .slice ro rs.length rc), (20, iV r), (21, pA br9 (or9 + r.toNat * 2)), (22, pA br9 (or9 + r.toNat * 2)), (23, iV (((rk9.kd : Nat) : Int))), (24, .slice so12 ((chT (prs (ts.map Ty.k)) (((rk9.kd : Nat) : Int))).length) ca13)] ∧ Mg w w1 (.row 3 1 (.slice so12 ((chT (prs (ts.map Ty.k)) (((rk9.kd : Nat) : Int))).length) ca13) ((chT (prs (ts.map Ty.k)) (((rk9.kd : Nat) : Int))).length) (inC (chT (prs (ts.map Ty.k)) (((rk9.kd : Nat) : Int)))) :: .obj g2 (.cells (sC tz tc ts ro rc rs).toArray 29) :: [])) _ ⟨0, rfl, ⟨Nat.zero_le _, fun j u h => absurd h (Nat.not_lt_zero _)⟩, A.keep _ (by repeat' constructor), M⟩ ?_)))
   clear M A
   rintro m_ a w18 ⟨i, rfl, hinv20, A, M⟩ K19 hK19
   obtain ⟨hi0, hin9⟩ := hinv20
   refine wsk fun K21 hK21 => wsk fun K22 hK22 => wrl ?_
   iterate 2 refine sdm A λa A↦?_
   refine sdo A (qn Tryz.underlying68 rfl) λa A↦?_
   rcases tf (decide (((i : Nat) : Int) < (((chT (prs (ts.map Ty.k)) (((rk9.kd : Nat) : Int))).length : Nat) : Int))) with hb23 | hb23
   ·
    have hb23' := of_decide_eq_true hb23
    refine sdc A qw hb23 λa A↦?_
    refine qa (hK22 _ _ (wp_cond_true (A.ev rfl) ?_))
    refine wp_skip (hK21 _ _ (wsk fun K24 hK24 => wp_block (wsk fun K25 hK25 => zp (S := fun w1 => Mg w w1 (.row 3 1 (.slice so12 ((chT (prs (ts.map Ty.k)) (((rk9.kd : Nat) : Int))).length) ca13) ((chT (prs (ts.map Ty.k)) (((rk9.kd : Nat) : Int))).length) (inC (chT (prs (ts.map Ty.k)) (((rk9.kd : Nat) : Int)))) :: .obj g2 (.cells (sC tz tc ts ro rc rs).toArray 29) :: [])) (by kernel_rfl) ?_)))
    replace M := M.drew
    refine qe (v := pA g2 0) A 0 rfl rfl rfl rfl hP (M.sub (cc (cc ns))) (λ_ M↦qb xt rfl rfl) λa A↦?_
    refine qe A 1 rfl rfl rfl rfl hP (M.sub (cc (cc ns))) (λ_ M↦qh M xn rfl 1 rfl rfl) λa A↦?_
    refine qe A 2 rfl rfl rfl rfl hP (M.sub (cc (cc ns))) (λ_ M↦ql rfl) λa A↦?_
    refine qe A 3 rfl rfl rfl rfl hP (M.sub (cc (cc ns))) (λ_ M↦ql rfl) λa A↦?_
    obtain ⟨bi26, oi27, zi28, hs29, hc30, hi31, hm32⟩ := qna (rc_own (M.has 0 rfl)) (i := i) (by omega)
    refine qe (v := pA bi26 (oi27 + i)) A 4 rfl rfl rfl rfl hP (M.sub (cc (cc ns))) (λ_ M↦zk (k := i) Tryz.underlying68 (by kernel_rfl) rfl rfl (by first | rfl | omega) hs29 (by omega)) λa A↦?_
    refine qe A 5 rfl rfl rfl rfl hP (M.sub (cc (cc ns))) (λ_ M↦qze M 0 rfl hi31 hs29 o93 rfl rfl) λa A↦?_
    have hzz := qaa hW.wf hm32
    obtain ⟨ty33, bt34, ot35, it36, mt37, rt38, lt39, Ht40⟩ := hT.at_ (i := zi28.toNat) (by omega)
    have hnf := hW.nf16 (zn it36)
    rw [show ty33.k.fs.length = ty33.fs.length from rfl] at hnf
    refine qe (v := pA bt34 (ot35 + zi28.toNat * 7)) A 6 rfl rfl rfl rfl hP (M.sub (cc (cc ns))) (λ_ M↦qx (k := zi28.toNat) Tryz.underlying26 (by kernel_rfl) rfl rfl (by first | rfl | omega) lt39 (by omega)) λa A↦?_
    refine qe (v := pA bt34 (ot35 + zi28.toNat * 7 + 5)) A 7 rfl rfl rfl rfl hP (M.sub (cc (cc ns))) (λ_ M↦qb qeb rfl rfl) λa A↦?_
    refine qe A 8 rfl rfl rfl rfl hP (M.sub (cc (cc ns))) (λ_ M↦jj (j := 5) M Ht40 o94 rfl rfl rfl) λa A↦?_
    refine ze (by kernel_rfl) ?_
    refine hK25 _ _ ?_
    refine wp_cond_split (t := ty33.op) (A.ev rfl) (fun hc41 => ?_) (fun hc41 => ?_)
    ·
     refine wsk fun K42 hK42 => wrl ?_
     iterate 2 refine sda A λa A↦?_
     refine qa (hK42 _ _ (wp_ret (hret _ _ (en2 A rfl (qf rfl) (qf rfl) ?_))))
     exact ⟨by rw [qzb (show okT rs.length r = true by unfold okT; simp; omega) ir9 (show opq (ts.map Ty.k) ((rk9.kd : Nat) : Int) = true from List.any_eq_true.2 ⟨zi28, hm32, by rw [quc (zn it36)]; exact hc41⟩)], M.bel⟩
    ·
     refine wp_skip (hK24 _ _ (wrl (sdm A λa A↦?_)))
     refine sdo (v := iV (((i + 1 : Nat) : Int))) A (qg rfl rfl (fun w => (ja (ji (by omega) (by omega)) w).trans (by rw [show (((i : Nat) : Int) + 1 : Int) = ((i + 1 : Nat) : Int) from by omega]))) λa A↦?_
     refine sda A λa A↦?_
     refine qa ?_
     replace M : Mg w w18.drew (.row 3 1 (.slice so12 ((chT (prs (ts.map Ty.k)) (((rk9.kd : Nat) : Int))).length) ca13) ((chT (prs (ts.map Ty.k)) (((rk9.kd : Nat) : Int))).length) (inC (chT (prs (ts.map Ty.k)) (((rk9.kd : Nat) : Int)))) :: .obj g2 (.cells (sC tz tc ts ro rc rs).toArray 29) :: []) := ((M.bring 1 rfl rfl).bring 1 rfl rfl)
     refine hK19 _ _ _ (by omega) ⟨i + 1, rfl, ⟨by omega, fun j u hj hu => if h9 : j < i then hin9 j u h9 hu else by have h8 : j = i := (by omega); subst h8; rw [hi31] at hu; rw [← Option.some.inj hu, quc (zn it36)]; exact hc41⟩, A.keep _ (by repeat' constructor), M⟩
   ·
    have hb23' := of_decide_eq_false hb23
    refine sdc A qw hb23 λa A↦?_
    refine qa (hK22 _ _ (wp_cond_false (A.ev rfl) ?_))
    refine wp_exit (hK16 _ _ (wsk fun K43 hK43 => wrl (sdo (v := pA g2 1) A (qb ky rfl rfl) λa A↦?_)))
    refine sdo A (qh M qpj rfl 1 rfl rfl) λa A↦?_
    refine sdm A λa A↦?_
    refine sdo (v := pA br9 (or9 + r.toNat * 2)) A (qx (k := r.toNat) Tryz.underlying27 (by kernel_rfl) rfl rfl (by first | rfl | omega) lr9 (by omega)) λa A↦?_
    refine sdo (v := pA br9 (or9 + r.toNat * 2)) A (qb zcg rfl rfl) λa A↦?_
    refine sdo A (jj (j := 0) M Hr9 o93 rfl rfl rfl) λa A↦?_
    iterate 2 refine sda A λa A↦?_
    refine qa (hK43 _ _ (wp_ret (hret _ _ (en2 A rfl (qf rfl) (qf rfl) ?_))))
    exact ⟨by rw [zhe (show okT rs.length r = true by unfold okT; simp; omega) ir9 (show opq (ts.map Ty.k) ((rk9.kd : Nat) : Int) = false from zrf hin9 (by omega))], M.bel⟩
theorem zrg {w : World} {tz ro : Option Addr} {tc rc : Nat} {ts : List Ty} {rs : List Rk} (hT : TR w tz ts) (hR : RR w ro rs) (hW : WS (ts.map Ty.k) (rs.map Rk.k)) {r t i : Int} : Calls Tryz.prog 14 #[.agg (sC tz tc ts ro rc rs).toArray, iV r, iV t, iV i] w fun e w' => ∃ d2 : Dt, e = .returned (.tuple #[.agg (d2.d.cells d2.ts.length).toArray, iV (plS (ts.map Ty.k) (rs.map Rk.k) r t i).2]) ∧ ((d2 = jq ∨ ∃ x ∈ rs, d2 ∈ x.vs) ∧ d2.tr = gtT (ts.map Ty.k) (rs.map Rk.k) r t i) ∧ Below w.heap.size w w' := by
 have hkl := hW.kl
 have hrl := hW.rl
 rw [List.length_map] at hkl hrl
 have M : Mg w w ([]) := Mg.start w
 refine qs (l := [(0, .agg (sC tz tc ts ro rc rs).toArray), (1, iV r), (2, iV t), (3, iV i)]) Tryz.func14 rfl Tryz.ntmps14 rfl rfl ?_
 intro Q hret hnorm hP a A
 refine wsk fun K1 hK1 => wrl (zy (vs := (sC tz tc ts ro rc rs)) (t := 29) A M rfl rfl rfl pg (zf rfl rfl) (by decide) ?_)
 intro g2 w3 M a A
 refine zy (vs := (jq.d.cells jq.ts.length)) (t := 42) A M rfl rfl rfl pg (zv (z := .agg (jq.d.cells jq.ts.length).toArray) (by kernel_rfl) rfl) (by decide) ?_
 intro g4 w5 M a A
 refine sda A λa A↦?_
 refine qa (hK1 _ _ (wsk fun K6 hK6 => wrl (sdo A (qz M jr rfl 1 rfl (cs := (sC tz tc ts ro rc rs)) rfl rfl) λa A↦?_)))
 iterate 3 refine sdm A λa A↦?_
 refine gcl A M (ef rfl rfl) (qpe (hT.below M.bel) (hR.below M.bel) hW) fun w8 hb7 M a A => ?_
 refine sdm A λa A↦?_
 iterate 2 refine sdo A (zb (vs := [iV ((plS (ts.map Ty.k) (rs.map Rk.k) r t i).1), iV ((plS (ts.map Ty.k) (rs.map Rk.k) r t i).2)]) rfl rfl) λa A↦?_
 iterate 2 refine sda A λa A↦?_
 refine qa (hK6 _ _ (wsk fun K9 hK9 => wsk fun K10 hK10 => wrl (sdm A λa A↦?_)))
 rcases tf (((plS (ts.map Ty.k) (rs.map Rk.k) r t i).2 != 0)) with hb11 | hb11
 ·
  have hb11' := bne_iff_ne.1 hb11
  refine sdc A zg hb11 λa A↦?_
  refine qa (hK10 _ _ (wp_cond_true (A.ev rfl) ?_))
  refine wsk fun K12 hK12 => wrl (sdo (v := .agg (jq.d.cells jq.ts.length).toArray) A (jb rfl (fun w => by kernel_rfl)) λa A↦?_)
  refine sdm A λa A↦?_
  refine zq (L' := (.obj g4 (.cells (jq.d.cells jq.ts.length).toArray 42) :: .obj g2 (.cells (sC tz tc ts ro rc rs).toArray 29) :: [])) A M rfl rfl (za rfl rfl rfl (by kernel_rfl) M 0 rfl rfl rfl) 0 rfl rfl rfl ?_
  intro w13 M
  refine sda A λa A↦?_
  refine qa (hK12 _ _ (wp_ret (hret _ _ (en2 A rfl (zu M xz rfl 0 rfl (cs := [iV 0, iV 0, bV false, .slice none 0 0, .slice none 0 0, bV false, .slice none 0 0, .slice none 0 0, .string (⟨#[]⟩), .slice none 0 0, .slice none 0 0]) rfl rfl) (qf rfl) ?_))))
  exact ⟨jq, rfl, ⟨.inl rfl, (zpf (show (plS (ts.map Ty.k) (rs.map Rk.k) r t i).2 ≠ 0 by omega)).symm⟩, M.bel⟩
 ·
  have hb11' := bne_eq_false_iff_eq.1 hb11
  refine sdc A zg hb11 λa A↦?_
  refine qa (hK10 _ _ (wp_cond_false (A.ev rfl) ?_))
  refine wp_skip (hK9 _ _ (wsk fun K14 hK14 => ?_))
  obtain ⟨x9, k9, hx9, hk9, p1, p2, p3, p4, p5, p6, p7, p8, p9, p10⟩ := qri hW (show (plS (ts.map Ty.k) (rs.map Rk.k) r t i).2 = 0 by omega)
  rw [List.length_map] at p2 p4
  obtain ⟨rk15, br16, or17, ir18, mr19, rr20, lr21, Hr22⟩ := hR.at_ (i := r.toNat) (by omega)
  obtain rfl : x9 = rk15.k := Option.some.inj (hx9.symm.trans (xg ir18))
  rw [show rk15.k.2.length = rk15.vs.length from List.length_map _] at p9 p10
  refine wrl (sdo (v := pA g2 1) A (qb ky rfl rfl) λa A↦?_)
  refine sdo A (qh M qpj rfl 1 rfl rfl) λa A↦?_
  refine sdm A λa A↦?_
  refine sdo (v := pA br16 (or17 + r.toNat * 2)) A (qx (k := r.toNat) Tryz.underlying27 (by kernel_rfl) rfl rfl (by first | rfl | omega) lr21 (by omega)) λa A↦?_
  refine sdo (v := pA br16 (or17 + r.toNat * 2 + 1)) A (qb zch rfl rfl) λa A↦?_
  refine sdo A (jj (j := 1) M Hr22 kw rfl rfl rfl) λa A↦?_
  refine sdm A λa A↦?_
  obtain ⟨tk23, btk23, otk23, itk23, mtk23, rtk23_, ltk23, Htk23⟩ := zte rr20.v rr20.d (i := ((plS (ts.map Ty.k) (rs.map Rk.k) r t i).1).toNat) (by omega)
  refine sdo (v := pA btk23 (otk23 + ((plS (ts.map Ty.k) (rs.map Rk.k) r t i).1).toNat * 11)) A (qx (k := ((plS (ts.map Ty.k) (rs.map Rk.k) r t i).1).toNat) Tryz.underlying34 (by kernel_rfl) rfl rfl (by first | rfl | omega) ltk23 (by omega)) λa A↦?_
  refine sdo A (xa M Htk23 xz rfl rfl) λa A↦?_
  refine zq (L' := (.obj g4 (.cells (tk23.d.cells tk23.ts.length).toArray 42) :: .obj g2 (.cells (sC tz tc ts ro rc rs).toArray 29) :: [])) A M rfl rfl (za rfl rfl rfl (by kernel_rfl) M 0 rfl rfl rfl) 0 rfl rfl rfl ?_
  intro w24 M
  refine sda A λa A↦?_
  refine qa (hK14 _ _ (wp_ret (hret _ _ (en2 A rfl (zu M xz rfl 0 rfl (cs := [iV tk23.d.k, iV tk23.d.n, bV tk23.d.y.q.b1, .slice tk23.d.y.o1 tk23.d.y.q.t1.length tk23.d.y.c1, .slice tk23.d.y.o2 tk23.d.y.q.q1.length tk23.d.y.c2, bV tk23.d.y.q.b2, .slice tk23.d.y.o3 tk23.d.y.q.t2.length tk23.d.y.c3, .slice tk23.d.y.o4 tk23.d.y.q.q2.length tk23.d.y.c4, .string tk23.d.s, .slice tk23.d.ro tk23.d.rl.length tk23.d.rc, .slice tk23.d.lo tk23.ts.length tk23.d.lc]) rfl rfl) (qf rfl) ?_))))
  exact ⟨tk23, by first | (rw [show (plS (ts.map Ty.k) (rs.map Rk.k) r t i).2 = 0 by omega]; done) | (rw [show (plS (ts.map Ty.k) (rs.map Rk.k) r t i).2 = 0 by omega]; rfl), ⟨.inr ⟨_, mr19, mtk23⟩, (zpe (show (plS (ts.map Ty.k) (rs.map Rk.k) r t i).2 = 0 by omega) hx9 (show (List.map Dt.tr _)[_]? = some tk23.tr by rw [List.getElem?_map, itk23]; rfl)).symm⟩, M.bel⟩
set_option maxHeartbeats 2000000 in
theorem zma {w : World} {tz ro : Option Addr} {tc rc : Nat} {ts : List Ty} {rs : List Rk} (hT : TR w tz ts) (hR : RR w ro rs) (hW : WS (ts.map Ty.k) (rs.map Rk.k)) {u : Ty} (hU : TyR w u) (hul : u.fs.length ≤ 2000000) (hum : u.ms.length ≤ 2000000) : Calls Tryz.prog 9 #[.agg (sC tz tc ts ro rc rs).toArray, .agg u.c.toArray] w fun e w' => (((tyS (ts.map Ty.k) u.k).2.2 = false ∧ e = .returned (.tuple #[iV (tyS (ts.map Ty.k) u.k).1, iV (tyS (ts.map Ty.k) u.k).2.1, .agg (sC tz tc ts ro rc rs).toArray]) ∧ Below w.heap.size w w') ∨ ((tyS (ts.map Ty.k) u.k).2.2 = true ∧ ∃ (tz' : Option Addr) (tc' : Nat), e = .returned (.tuple #[iV ((ts.length : Nat) : Int), iV 0, .agg #[.slice tz' (ts ++ [u]).length tc', .slice ro rs.length rc]]) ∧ Mg w w' [.row 33 7 (.slice tz' (ts ++ [u]).length tc') (ts ++ [u]).length (qt Ty.c (ts ++ [u]))])) := by
 have hkl := hW.kl
 have hrl := hW.rl
 rw [List.length_map] at hkl hrl
 have M : Mg w w ([]) := Mg.start w
 refine qs (l := [(0, .agg (sC tz tc ts ro rc rs).toArray), (1, .agg u.c.toArray)]) Tryz.func9 rfl Tryz.ntmps9 rfl rfl ?_
 intro Q hret hnorm hP a A
 refine wsk fun K1 hK1 => wrl (zy (vs := (sC tz tc ts ro rc rs)) (t := 29) A M rfl rfl rfl pg (zf rfl rfl) (by decide) ?_)
 intro g2 w3 M a A
 refine zy (vs := u.c) (t := 33) A M rfl rfl rfl pg (zf rfl rfl) (by decide) ?_
 intro g4 w5 M a A
 iterate 2 refine sda A λa A↦?_
 refine zy (vs := [.slice none 0 0, .slice none 0 0]) (t := 29) A M rfl rfl rfl pg (zv (z := .agg #[.slice none 0 0, .slice none 0 0]) (by kernel_rfl) rfl) (by decide) ?_
 intro g6 w7 M a A
 refine qa (hK1 _ _ (wsk fun K8 hK8 => wsk fun K9 hK9 => wrl (sdo (v := pA g4 3) A (qb kk rfl rfl) λa A↦?_)))
 refine sdo A (qh M qic rfl 1 rfl rfl) λa A↦?_
 refine sdo A (qn Tryz.underlying31 rfl) λa A↦?_
 refine sdo (v := pA g4 2) A (qb xu rfl rfl) λa A↦?_
 refine sdo A (qh M qai rfl 1 rfl rfl) λa A↦?_
 refine sdo A (qn Tryz.underlying30 rfl) λa A↦?_
 rcases tf ((((u.ms.length : Nat) : Int) != ((u.fs.length : Nat) : Int))) with hb10 | hb10
 ·
  have hb10' := bne_iff_ne.1 hb10
  refine sdc A zg hb10 λa A↦?_
  refine sdm A λa A↦?_
  iterate 3 refine qj A rfl rfl rfl λa A↦?_
  refine sdk (v := bV true) A λa A↦?_
  refine sdm A λa A↦?_
  iterate 3 refine qj A rfl rfl rfl λa A↦?_
  refine sdk (v := bV true) A λa A↦?_
  refine sdm A λa A↦?_
  iterate 6 refine qj A rfl rfl rfl λa A↦?_
  refine sdk (v := bV true) A λa A↦?_
  refine qa (hK9 _ _ (wp_cond_true (A.ev rfl) ?_))
  refine wsk fun K11 hK11 => zp (S := fun w1 => Mg w w1 (.obj g2 (.cells (sC tz tc ts ro rc rs).toArray 29) :: [])) (by kernel_rfl) ?_
  replace M := M.drew
  refine qe A 0 rfl rfl rfl rfl hP (M.sub (cn (cn (cc ns)))) (λ_ M↦qz M jr rfl 0 rfl (cs := (sC tz tc ts ro rc rs)) rfl rfl) λa A↦?_
  refine qe A 1 rfl rfl rfl rfl hP (M.sub (cn (cn (cc ns)))) (λ_ M↦qp rfl) λa A↦?_
  refine qe A 2 rfl rfl rfl rfl hP (M.sub (cn (cn (cc ns)))) (λ_ M↦qp rfl) λa A↦?_
  refine zd (by kernel_rfl) (jm (L' := (.obj g6 (.cells (sC tz tc ts ro rc rs).toArray 29) :: .obj g4 (.cells u.c.toArray 33) :: .obj g2 (.cells (sC tz tc ts ro rc rs).toArray 29) :: [])) A M 3 rfl rfl rfl (za rfl rfl rfl (by kernel_rfl) M 0 rfl rfl rfl) 0 rfl rfl rfl ?_)
  intro w12 M
  refine ⟨(M.sub (cn (cn (cc ns)))), ?_⟩
  refine ze (by kernel_rfl) ?_
  refine hK11 _ _ (wp_ret (hret _ _ (en3 A rfl (qf rfl) (qf rfl) (zu M jr rfl 0 rfl (cs := [.slice tz ts.length tc, .slice ro rs.length rc]) rfl rfl) ?_)))
  exact .inl ⟨by rw [yf (show gdB (ts.map Ty.k).length u.k = false by rw [List.length_map]; exact qbd (k := u.k) (.inl (show u.ms.length ≠ u.fs.length by omega)))], by rw [yf (show gdB (ts.map Ty.k).length u.k = false by rw [List.length_map]; exact qbd (k := u.k) (.inl (show u.ms.length ≠ u.fs.length by omega)))]; try rfl, M.bel⟩
 ·
  have hb10' := bne_eq_false_iff_eq.1 hb10
  refine sdc A zg hb10 λa A↦?_
  refine sdm A λa A↦?_
  refine sdo (v := pA g4 2) A (qb xu rfl rfl) λa A↦?_
  refine sdo A (qh M qai rfl 1 rfl rfl) λa A↦?_
  rcases tf (E.twS u.fs) with hb13 | hb13
  ·
   refine gcl A M (ef rfl rfl) ((hb13 ▸ E.rtwice_any (hU.f.below M.bel) (by omega))) fun w15 hb14 M a A => ?_
   refine sdk (v := bV true) A λa A↦?_
   refine sdm A λa A↦?_
   iterate 3 refine qj A rfl rfl rfl λa A↦?_
   refine sdk (v := bV true) A λa A↦?_
   refine sdm A λa A↦?_
   iterate 6 refine qj A rfl rfl rfl λa A↦?_
   refine sdk (v := bV true) A λa A↦?_
   refine qa (hK9 _ _ (wp_cond_true (A.ev rfl) ?_))
   refine wsk fun K16 hK16 => zp (S := fun w1 => Mg w w1 (.obj g2 (.cells (sC tz tc ts ro rc rs).toArray 29) :: [])) (by kernel_rfl) ?_
   replace M := M.drew
   refine qe A 0 rfl rfl rfl rfl hP (M.sub (cn (cn (cc ns)))) (λ_ M↦qz M jr rfl 0 rfl (cs := (sC tz tc ts ro rc rs)) rfl rfl) λa A↦?_
   refine qe A 1 rfl rfl rfl rfl hP (M.sub (cn (cn (cc ns)))) (λ_ M↦qp rfl) λa A↦?_
   refine qe A 2 rfl rfl rfl rfl hP (M.sub (cn (cn (cc ns)))) (λ_ M↦qp rfl) λa A↦?_
   refine zd (by kernel_rfl) (jm (L' := (.obj g6 (.cells (sC tz tc ts ro rc rs).toArray 29) :: .obj g4 (.cells u.c.toArray 33) :: .obj g2 (.cells (sC tz tc ts ro rc rs).toArray 29) :: [])) A M 3 rfl rfl rfl (za rfl rfl rfl (by kernel_rfl) M 0 rfl rfl rfl) 0 rfl rfl rfl ?_)
   intro w17 M
   refine ⟨(M.sub (cn (cn (cc ns)))), ?_⟩
   refine ze (by kernel_rfl) ?_
   refine hK16 _ _ (wp_ret (hret _ _ (en3 A rfl (qf rfl) (qf rfl) (zu M jr rfl 0 rfl (cs := [.slice tz ts.length tc, .slice ro rs.length rc]) rfl rfl) ?_)))
   exact .inl ⟨by rw [yf (show gdB (ts.map Ty.k).length u.k = false by rw [List.length_map]; exact qbd (k := u.k) (.inr (.inl hb13)))], by rw [yf (show gdB (ts.map Ty.k).length u.k = false by rw [List.length_map]; exact qbd (k := u.k) (.inr (.inl hb13)))]; try rfl, M.bel⟩
  ·
   refine gcl A M (ef rfl rfl) ((hb13 ▸ E.rtwice_any (hU.f.below M.bel) (by omega))) fun w19 hb18 M a A => ?_
   refine sdk (v := bV false) A λa A↦?_
   refine sdm A λa A↦?_
   refine sdo (v := pA g4 1) A (qb ju rfl rfl) λa A↦?_
   refine sdo A (qh M o93 rfl 1 rfl rfl) λa A↦?_
   rcases tf (decide (u.par < -1)) with hb20 | hb20
   ·
    have hb20' := of_decide_eq_true hb20
    refine sdc A qw hb20 λa A↦?_
    refine sdk (v := bV true) A λa A↦?_
    refine sdm A λa A↦?_
    iterate 6 refine qj A rfl rfl rfl λa A↦?_
    refine sdk (v := bV true) A λa A↦?_
    refine qa (hK9 _ _ (wp_cond_true (A.ev rfl) ?_))
    refine wsk fun K21 hK21 => zp (S := fun w1 => Mg w w1 (.obj g2 (.cells (sC tz tc ts ro rc rs).toArray 29) :: [])) (by kernel_rfl) ?_
    replace M := M.drew
    refine qe A 0 rfl rfl rfl rfl hP (M.sub (cn (cn (cc ns)))) (λ_ M↦qz M jr rfl 0 rfl (cs := (sC tz tc ts ro rc rs)) rfl rfl) λa A↦?_
    refine qe A 1 rfl rfl rfl rfl hP (M.sub (cn (cn (cc ns)))) (λ_ M↦qp rfl) λa A↦?_
    refine qe A 2 rfl rfl rfl rfl hP (M.sub (cn (cn (cc ns)))) (λ_ M↦qp rfl) λa A↦?_
    refine zd (by kernel_rfl) (jm (L' := (.obj g6 (.cells (sC tz tc ts ro rc rs).toArray 29) :: .obj g4 (.cells u.c.toArray 33) :: .obj g2 (.cells (sC tz tc ts ro rc rs).toArray 29) :: [])) A M 3 rfl rfl rfl (za rfl rfl rfl (by kernel_rfl) M 0 rfl rfl rfl) 0 rfl rfl rfl ?_)
    intro w22 M
    refine ⟨(M.sub (cn (cn (cc ns)))), ?_⟩
    refine ze (by kernel_rfl) ?_
    refine hK21 _ _ (wp_ret (hret _ _ (en3 A rfl (qf rfl) (qf rfl) (zu M jr rfl 0 rfl (cs := [.slice tz ts.length tc, .slice ro rs.length rc]) rfl rfl) ?_)))
    exact .inl ⟨by rw [yf (show gdB (ts.map Ty.k).length u.k = false by rw [List.length_map]; exact qbd (k := u.k) (.inr (.inr (show u.par < -1 ∨ ((ts.length : Nat) : Int) ≤ u.par by omega))))], by rw [yf (show gdB (ts.map Ty.k).length u.k = false by rw [List.length_map]; exact qbd (k := u.k) (.inr (.inr (show u.par < -1 ∨ ((ts.length : Nat) : Int) ≤ u.par by omega))))]; try rfl, M.bel⟩
   ·
    have hb20' := of_decide_eq_false hb20
    refine sdc A qw hb20 λa A↦?_
    refine sdk (v := bV false) A λa A↦?_
    refine sdm A λa A↦?_
    refine sdo (v := pA g4 1) A (qb ju rfl rfl) λa A↦?_
    refine sdo A (qh M o93 rfl 1 rfl rfl) λa A↦?_
    refine sdo (v := pA g2 0) A (qb xt rfl rfl) λa A↦?_
    refine sdo A (qh M xn rfl 2 rfl rfl) λa A↦?_
    refine sdo A (qn Tryz.underlying26 rfl) λa A↦?_
    rcases tf (decide (((ts.length : Nat) : Int) ≤ u.par)) with hb23 | hb23
    ·
     have hb23' := of_decide_eq_true hb23
     refine sdc A zl hb23 λa A↦?_
     refine sdk (v := bV true) A λa A↦?_
     refine qa (hK9 _ _ (wp_cond_true (A.ev rfl) ?_))
     refine wsk fun K24 hK24 => zp (S := fun w1 => Mg w w1 (.obj g2 (.cells (sC tz tc ts ro rc rs).toArray 29) :: [])) (by kernel_rfl) ?_
     replace M := M.drew
     refine qe A 0 rfl rfl rfl rfl hP (M.sub (cn (cn (cc ns)))) (λ_ M↦qz M jr rfl 0 rfl (cs := (sC tz tc ts ro rc rs)) rfl rfl) λa A↦?_
     refine qe A 1 rfl rfl rfl rfl hP (M.sub (cn (cn (cc ns)))) (λ_ M↦qp rfl) λa A↦?_
     refine qe A 2 rfl rfl rfl rfl hP (M.sub (cn (cn (cc ns)))) (λ_ M↦qp rfl) λa A↦?_
     refine zd (by kernel_rfl) (jm (L' := (.obj g6 (.cells (sC tz tc ts ro rc rs).toArray 29) :: .obj g4 (.cells u.c.toArray 33) :: .obj g2 (.cells (sC tz tc ts ro rc rs).toArray 29) :: [])) A M 3 rfl rfl rfl (za rfl rfl rfl (by kernel_rfl) M 0 rfl rfl rfl) 0 rfl rfl rfl ?_)
     intro w25 M
     refine ⟨(M.sub (cn (cn (cc ns)))), ?_⟩
     refine ze (by kernel_rfl) ?_
     refine hK24 _ _ (wp_ret (hret _ _ (en3 A rfl (qf rfl) (qf rfl) (zu M jr rfl 0 rfl (cs := [.slice tz ts.length tc, .slice ro rs.length rc]) rfl rfl) ?_)))
     exact .inl ⟨by rw [yf (show gdB (ts.map Ty.k).length u.k = false by rw [List.length_map]; exact qbd (k := u.k) (.inr (.inr (show u.par < -1 ∨ ((ts.length : Nat) : Int) ≤ u.par by omega))))], by rw [yf (show gdB (ts.map Ty.k).length u.k = false by rw [List.length_map]; exact qbd (k := u.k) (.inr (.inr (show u.par < -1 ∨ ((ts.length : Nat) : Int) ≤ u.par by omega))))]; try rfl, M.bel⟩
    ·
     have hb23' := of_decide_eq_false hb23
     refine sdc A zl hb23 λa A↦?_
     refine sdk (v := bV false) A λa A↦?_
     refine qa (hK9 _ _ (wp_cond_false (A.ev rfl) ?_))
     refine wp_skip (hK8 _ _ (wsk fun K26 hK26 => ?_))
     have hJ27 : ∀ a w1, ((¬ 0 ≤ uix (ts.map Ty.k) u.k.ui ∧ gdB ts.length u.k = true) ∧ Sl a 110 [(0, .agg (sC tz tc ts ro rc rs).toArray), (1, .agg u.c.toArray), (2, pA g2 0), (3, pA g4 0), (6, pA g6 0), (10, pA g4 3), (11, .slice u.mo u.ms.length u.mc), (12, iV (((u.ms.length : Nat) : Int))), (13, pA g4 2), (14, .slice u.fo u.fs.length u.fc), (15, iV (((u.fs.length : Nat) : Int))), (16, bV false), (17, bV false), (18, pA g4 2), (19, .slice u.fo u.fs.length u.fc), (20, bV false), (21, bV false), (22, bV false), (23, pA g4 1), (24, iV u.par), (25, bV false), (26, bV false), (27, bV false), (28, pA g4 1), (29, iV u.par), (30, pA g2 0), (31, .slice tz ts.length tc), (32, iV (((ts.length : Nat) : Int))), (33, bV false), (34, bV false)] ∧ Mg w w1 (.obj g6 (.cells #[.slice none 0 0, .slice none 0 0] 29) :: .obj g4 (.cells u.c.toArray 33) :: .obj g2 (.cells (sC tz tc ts ro rc rs).toArray 29) :: [])) → K26 a w1 := by
      clear A M
      rintro a w28 ⟨hf29, A, M⟩
      obtain ⟨hux9, hgd9⟩ := hf29
      obtain ⟨-, -, hp0, hp1⟩ := zoc hgd9
      rw [show u.k.par = u.par from rfl] at hp0 hp1
      have hc16 := hW.cnt16 (t := u.par) (by rw [List.length_map]; exact hp1)
      refine hK26 _ _ (wsk fun K30 hK30 => wrl (sdo (v := pA g4 2) A (qb xu rfl rfl) λa A↦?_))
      refine sdo A (qh M qai rfl 1 rfl rfl) λa A↦?_
      refine sdo A (qn Tryz.underlying30 rfl) λa A↦?_
      refine sda A λa A↦?_
      refine qa (hK30 _ _ (wsk fun K31 hK31 => ?_))
      have hJ32 : ∀ a w1, (∃ (n9 : Nat), (n9 = u.fs.length + cnt (ts.map Ty.k) u.par ∧ slP (ts.map Ty.k) u.par = false) ∧ Sl a 110 [(0, .agg (sC tz tc ts ro rc rs).toArray), (1, .agg u.c.toArray), (2, pA g2 0), (3, pA g4 0), (6, pA g6 0), (8, iV (((n9 : Nat) : Int))), (10, pA g4 3), (11, .slice u.mo u.ms.length u.mc), (12, iV (((u.ms.length : Nat) : Int))), (13, pA g4 2), (14, .slice u.fo u.fs.length u.fc), (15, iV (((u.fs.length : Nat) : Int))), (16, bV false), (17, bV false), (18, pA g4 2), (19, .slice u.fo u.fs.length u.fc), (20, bV false), (21, bV false), (22, bV false), (23, pA g4 1), (24, iV u.par), (25, bV false), (26, bV false), (27, bV false), (28, pA g4 1), (29, iV u.par), (30, pA g2 0), (31, .slice tz ts.length tc), (32, iV (((ts.length : Nat) : Int))), (33, bV false), (34, bV false), (67, pA g4 2), (68, .slice u.fo u.fs.length u.fc), (69, iV (((u.fs.length : Nat) : Int)))] ∧ Mg w w1 (.obj g6 (.cells #[.slice none 0 0, .slice none 0 0] 29) :: .obj g4 (.cells u.c.toArray 33) :: .obj g2 (.cells (sC tz tc ts ro rc rs).toArray 29) :: [])) → K31 a w1 := by
       clear A M
       rintro a w33 ⟨n9, hf34, A, M⟩
       obtain ⟨hn9, hsl9⟩ := hf34
       refine hK31 _ _ (wsk fun K35 hK35 => wsk fun K36 hK36 => wrl (sdm A λa A↦?_))
       rcases tf (decide (16 < ((n9 : Nat) : Int))) with hb37 | hb37
       ·
        have hb37' := of_decide_eq_true hb37
        refine sdc A jk hb37 λa A↦?_
        refine sdm A λa A↦?_
        iterate 4 refine qj A rfl rfl rfl λa A↦?_
        refine sdk (v := bV true) A λa A↦?_
        refine qa (hK36 _ _ (wp_cond_true (A.ev rfl) ?_))
        refine wsk fun K38 hK38 => zp (S := fun w1 => Mg w w1 (.obj g2 (.cells (sC tz tc ts ro rc rs).toArray 29) :: [])) (by kernel_rfl) ?_
        replace M := M.drew
        refine qe A 0 rfl rfl rfl rfl hP (M.sub (cn (cn (cc ns)))) (λ_ M↦qz M jr rfl 0 rfl (cs := (sC tz tc ts ro rc rs)) rfl rfl) λa A↦?_
        refine qe A 1 rfl rfl rfl rfl hP (M.sub (cn (cn (cc ns)))) (λ_ M↦qp rfl) λa A↦?_
        refine qe A 2 rfl rfl rfl rfl hP (M.sub (cn (cn (cc ns)))) (λ_ M↦qp rfl) λa A↦?_
        refine zd (by kernel_rfl) (jm (L' := (.obj g6 (.cells (sC tz tc ts ro rc rs).toArray 29) :: .obj g4 (.cells u.c.toArray 33) :: .obj g2 (.cells (sC tz tc ts ro rc rs).toArray 29) :: [])) A M 3 rfl rfl rfl (za rfl rfl rfl (by kernel_rfl) M 0 rfl rfl rfl) 0 rfl rfl rfl ?_)
        intro w39 M
        refine ⟨(M.sub (cn (cn (cc ns)))), ?_⟩
        refine ze (by kernel_rfl) ?_
        refine hK38 _ _ (wp_ret (hret _ _ (en3 A rfl (qf rfl) (qf rfl) (zu M jr rfl 0 rfl (cs := [.slice tz ts.length tc, .slice ro rs.length rc]) rfl rfl) ?_)))
        exact .inl ⟨by rw [vn (show gdB (ts.map Ty.k).length u.k = true by rw [List.length_map]; exact hgd9) hux9 (show slP (ts.map Ty.k) u.k.par = false from hsl9) (show ¬ (cnt (ts.map Ty.k) u.par + u.fs.length ≤ 16 ∧ (ts.map Ty.k).length < 4096) by rw [List.length_map]; omega)], by rw [vn (show gdB (ts.map Ty.k).length u.k = true by rw [List.length_map]; exact hgd9) hux9 (show slP (ts.map Ty.k) u.k.par = false from hsl9) (show ¬ (cnt (ts.map Ty.k) u.par + u.fs.length ≤ 16 ∧ (ts.map Ty.k).length < 4096) by rw [List.length_map]; omega)]; try rfl, M.bel⟩
       ·
        have hb37' := of_decide_eq_false hb37
        refine sdc A jk hb37 λa A↦?_
        refine sdm A λa A↦?_
        refine sdo (v := pA g2 0) A (qb xt rfl rfl) λa A↦?_
        refine sdo A (qh M xn rfl 2 rfl rfl) λa A↦?_
        refine sdo A (qn Tryz.underlying26 rfl) λa A↦?_
        rcases tf (decide (4096 ≤ ((ts.length : Nat) : Int))) with hb40 | hb40
        ·
         have hb40' := of_decide_eq_true hb40
         refine sdc A zl hb40 λa A↦?_
         refine sdk (v := bV true) A λa A↦?_
         refine qa (hK36 _ _ (wp_cond_true (A.ev rfl) ?_))
         refine wsk fun K41 hK41 => zp (S := fun w1 => Mg w w1 (.obj g2 (.cells (sC tz tc ts ro rc rs).toArray 29) :: [])) (by kernel_rfl) ?_
         replace M := M.drew
         refine qe A 0 rfl rfl rfl rfl hP (M.sub (cn (cn (cc ns)))) (λ_ M↦qz M jr rfl 0 rfl (cs := (sC tz tc ts ro rc rs)) rfl rfl) λa A↦?_
         refine qe A 1 rfl rfl rfl rfl hP (M.sub (cn (cn (cc ns)))) (λ_ M↦qp rfl) λa A↦?_
         refine qe A 2 rfl rfl rfl rfl hP (M.sub (cn (cn (cc ns)))) (λ_ M↦qp rfl) λa A↦?_
         refine zd (by kernel_rfl) (jm (L' := (.obj g6 (.cells (sC tz tc ts ro rc rs).toArray 29) :: .obj g4 (.cells u.c.toArray 33) :: .obj g2 (.cells (sC tz tc ts ro rc rs).toArray 29) :: [])) A M 3 rfl rfl rfl (za rfl rfl rfl (by kernel_rfl) M 0 rfl rfl rfl) 0 rfl rfl rfl ?_)
         intro w42 M
         refine ⟨(M.sub (cn (cn (cc ns)))), ?_⟩
         refine ze (by kernel_rfl) ?_
         refine hK41 _ _ (wp_ret (hret _ _ (en3 A rfl (qf rfl) (qf rfl) (zu M jr rfl 0 rfl (cs := [.slice tz ts.length tc, .slice ro rs.length rc]) rfl rfl) ?_)))
         exact .inl ⟨by rw [vn (show gdB (ts.map Ty.k).length u.k = true by rw [List.length_map]; exact hgd9) hux9 (show slP (ts.map Ty.k) u.k.par = false from hsl9) (show ¬ (cnt (ts.map Ty.k) u.par + u.fs.length ≤ 16 ∧ (ts.map Ty.k).length < 4096) by rw [List.length_map]; omega)], by rw [vn (show gdB (ts.map Ty.k).length u.k = true by rw [List.length_map]; exact hgd9) hux9 (show slP (ts.map Ty.k) u.k.par = false from hsl9) (show ¬ (cnt (ts.map Ty.k) u.par + u.fs.length ≤ 16 ∧ (ts.map Ty.k).length < 4096) by rw [List.length_map]; omega)]; try rfl, M.bel⟩
        ·
         have hb40' := of_decide_eq_false hb40
         refine sdc A zl hb40 λa A↦?_
         refine sdk (v := bV false) A λa A↦?_
         refine qa (hK36 _ _ (wp_cond_false (A.ev rfl) ?_))
         refine wp_skip (hK35 _ _ (wsk fun K43 hK43 => wrl (xr (e := 33) (sz := 7) (m := 0) (vs := qt Ty.c []) A M rfl rfl rfl (qy rfl (by kernel_rfl)) rfl rfl (.inl (by decide)) ?_)))
         intro g44 w45 M a A
         refine sdo (v := pA g2 0) A (qb xt rfl rfl) λa A↦?_
         refine sdo A (qh M xn rfl 3 rfl rfl) λa A↦?_
         refine jo (e := 33) (sz := 7) (k := 0) (q := 0) (m := ts.length) (xs := qt Ty.c []) (news := qt Ty.c ts) (L' := fun v46 => (.row 33 7 (v46) (0 + ts.length) (qt Ty.c [] ++ qt Ty.c ts) :: .obj g6 (.cells #[.slice none 0 0, .slice none 0 0] 29) :: .obj g4 (.cells u.c.toArray 33) :: .obj g2 (.cells (sC tz tc ts ro rc rs).toArray 29) :: [])) A rfl rfl rfl (xb (z := .agg #[.string (⟨#[]⟩), iV 0, .slice none 0 0, .slice none 0 0, bV false, bV false, .string (⟨#[]⟩)]) (sz := 7) (by_ := 96) Tryz.underlying26 (by kernel_rfl) rfl rfl rfl M 0 rfl rfl rfl (yt qmd ts) (hT.row.below M.bel) (qme ts) (by first | omega | (simp only [List.length_nil]; omega))) (fun _ => rfl) ?_
         intro v46 w47 M a A
         replace M : Mg w w47 (.row 33 7 (v46) ts.length (qt Ty.c ts) :: .obj g6 (.cells #[.slice none 0 0, .slice none 0 0] 29) :: .obj g4 (.cells u.c.toArray 33) :: .obj g2 (.cells (sC tz tc ts ro rc rs).toArray 29) :: []) := by
          have h9 := M
          rw [show 0 + ts.length = ts.length from by simp] at h9
          exact h9
         obtain ⟨so48, ca49, rfl⟩ := jg (M.has 0 rfl)
         refine sda A λa A↦?_
         refine qa (hK43 _ _ (wsk fun K50 hK50 => wrl (sdm A λa A↦?_)))
         refine sdo A (qz M qaj rfl 2 rfl (cs := u.c) rfl rfl) λa A↦?_
         refine xr (e := 33) (sz := 7) (m := 1) (vs := qt Ty.c [u]) A M rfl rfl rfl (qy rfl (by kernel_rfl)) rfl rfl (.inl (by decide)) ?_
         intro g51 w52 M a A
         refine jo (e := 33) (sz := 7) (k := 1) (q := ts.length) (m := 1) (xs := qt Ty.c ts) (news := qt Ty.c [u]) (L' := fun v53 => (.row 33 7 (.slice (aO g51) 1 1) 1 (qt Ty.c [u]) :: .row 33 7 (v53) (ts.length + 1) (qt Ty.c ts ++ qt Ty.c [u]) :: .obj g6 (.cells #[.slice none 0 0, .slice none 0 0] 29) :: .obj g4 (.cells u.c.toArray 33) :: .obj g2 (.cells (sC tz tc ts ro rc rs).toArray 29) :: [])) A rfl rfl rfl (xb (z := .agg #[.string (⟨#[]⟩), iV 0, .slice none 0 0, .slice none 0 0, bV false, bV false, .string (⟨#[]⟩)]) (sz := 7) (by_ := 96) Tryz.underlying26 (by kernel_rfl) rfl rfl rfl M 1 rfl rfl rfl rfl (rc_own (M.has 0 rfl)) (qme [u]) (by first | omega | (simp only [List.length_nil]; omega))) (fun _ => rfl) ?_
         intro v53 w54 M a A
         replace M : Mg w w54 (.row 33 7 (.slice (aO g51) 1 1) 1 (qt Ty.c [u]) :: .row 33 7 (v53) ((ts ++ [u]).length) (qt Ty.c (ts ++ [u])) :: .obj g6 (.cells #[.slice none 0 0, .slice none 0 0] 29) :: .obj g4 (.cells u.c.toArray 33) :: .obj g2 (.cells (sC tz tc ts ro rc rs).toArray 29) :: []) := by
          rw [jx, List.length_append]; exact M
         obtain ⟨so55, ca56, rfl⟩ := jg (M.has 1 rfl)
         refine sdo (v := pA g2 0) A (qb xt rfl rfl) λa A↦?_
         refine zq (L' := (.row 33 7 (.slice (aO g51) 1 1) 1 (qt Ty.c [u]) :: .row 33 7 (.slice so55 ((ts ++ [u]).length) ca56) ((ts ++ [u]).length) (qt Ty.c (ts ++ [u])) :: .obj g6 (.cells #[.slice none 0 0, .slice none 0 0] 29) :: .obj g4 (.cells u.c.toArray 33) :: .obj g2 (.cells #[.slice so55 ((ts ++ [u]).length) ca56, .slice ro rs.length rc] 29) :: [])) A M rfl rfl (za rfl rfl rfl (by kernel_rfl) M 4 rfl rfl rfl) 4 rfl rfl rfl ?_
         intro w57 M
         refine qa (hK50 _ _ (wsk fun K58 hK58 => zp (S := fun w1 => Mg w w1 (.obj g2 (.cells #[.slice so55 ((ts ++ [u]).length) ca56, .slice ro rs.length rc] 29) :: [])) (by kernel_rfl) ?_))
         replace M := M.drew
         refine qe (v := pA g2 0) A 0 rfl rfl rfl rfl hP (M.sub (cn (cn (cn (cn (cc ns)))))) (λ_ M↦qb xt rfl rfl) λa A↦?_
         refine qe A 1 rfl rfl rfl rfl hP (M.sub (cn (cn (cn (cn (cc ns)))))) (λ_ M↦qh M xn rfl 0 rfl rfl) λa A↦?_
         refine qe (v := iV ((((ts ++ [u]).length : Nat) : Int))) A 2 rfl rfl rfl rfl hP (M.sub (cn (cn (cn (cn (cc ns)))))) (λ_ M↦qn Tryz.underlying26 rfl) λa A↦?_
         have hln9 : (ts ++ [u]).length = ts.length + 1 := by rw [List.length_append]; rfl
         refine qe (v := iV ((((ts ++ [u]).length - 1 : Nat) : Int))) A 3 rfl rfl rfl rfl hP (M.sub (cn (cn (cn (cn (cc ns)))))) (λ_ M↦qg rfl rfl (fun w => (kn (ji (by omega) (by omega)) w).trans (by rw [show ((((ts ++ [u]).length : Nat) : Int) - 1 : Int) = (((ts ++ [u]).length - 1 : Nat) : Int) from by omega]))) λa A↦?_
         refine qe A 4 rfl rfl rfl rfl hP (M.sub (cn (cn (cn (cn (cc ns)))))) (λ_ M↦qz M jr rfl 0 rfl (cs := [.slice so55 ((ts ++ [u]).length) ca56, .slice ro rs.length rc]) rfl rfl) λa A↦?_
         refine qe A 5 rfl rfl rfl rfl hP (M.sub (cn (cn (cn (cn (cc ns)))))) (λ_ M↦qp rfl) λa A↦?_
         refine qe A 6 rfl rfl rfl rfl hP (M.sub (cn (cn (cn (cn (cc ns)))))) (λ_ M↦qp rfl) λa A↦?_
         refine zd (by kernel_rfl) (jm (L' := (.row 33 7 (.slice (aO g51) 1 1) 1 (qt Ty.c [u]) :: .row 33 7 (.slice so55 ((ts ++ [u]).length) ca56) ((ts ++ [u]).length) (qt Ty.c (ts ++ [u])) :: .obj g6 (.cells #[.slice so55 ((ts ++ [u]).length) ca56, .slice ro rs.length rc] 29) :: .obj g4 (.cells u.c.toArray 33) :: .obj g2 (.cells #[.slice so55 ((ts ++ [u]).length) ca56, .slice ro rs.length rc] 29) :: [])) A M 7 rfl rfl rfl (za rfl rfl rfl (by kernel_rfl) M 2 rfl rfl rfl) 2 rfl rfl rfl ?_)
         intro w59 M
         refine ⟨(M.sub (cn (cn (cn (cn (cc ns)))))), ?_⟩
         refine ze (by kernel_rfl) ?_
         refine hK58 _ _ (wp_ret (hret _ _ (en3 A rfl (qf rfl) (qf rfl) (zu M jr rfl 2 rfl (cs := [.slice so55 ((ts ++ [u]).length) ca56, .slice ro rs.length rc]) rfl rfl) ?_)))
         replace M : Mg w w59 (.row 33 7 (.slice so55 ((ts ++ [u]).length) ca56) ((ts ++ [u]).length) (qt Ty.c (ts ++ [u])) :: []) := (M.bring 1 rfl rfl).sub (cc (cn (cn (cn (cn (.refl _))))))
         have hln : (ts ++ [u]).length = ts.length + 1 := by rw [List.length_append]; rfl
         have hty8 := qkd (show gdB (ts.map Ty.k).length u.k = true by rw [List.length_map]; exact hgd9) hux9 (show slP (ts.map Ty.k) u.k.par = false from hsl9) (show cnt (ts.map Ty.k) u.par + u.fs.length ≤ 16 ∧ (ts.map Ty.k).length < 4096 by rw [List.length_map]; omega)
         exact .inr ⟨by rw [hty8], so55, ca56, by rw [show (ts ++ [u]).length - 1 = ts.length by omega], M⟩
      refine wsk fun K60 hK60 => wrl (sdo (v := pA g4 1) A (qb ju rfl rfl) λa A↦?_)
      refine sdo A (qh M o93 rfl 1 rfl rfl) λa A↦?_
      rcases tf (decide (0 ≤ u.par)) with hb61 | hb61
      ·
       have hb61' := of_decide_eq_true hb61
       refine sdc A zl hb61 λa A↦?_
       refine qa (hK60 _ _ (wp_cond_true (A.ev rfl) ?_))
       refine wsk fun K62 hK62 => wsk fun K63 hK63 => wrl (sdo (v := pA g2 0) A (qb xt rfl rfl) λa A↦?_)
       refine sdo A (qh M xn rfl 2 rfl rfl) λa A↦?_
       refine sdo (v := pA g4 1) A (qb ju rfl rfl) λa A↦?_
       refine sdo A (qh M o93 rfl 1 rfl rfl) λa A↦?_
       obtain ⟨ty64, bt65, ot66, it67, mt68, rt69, lt70, Ht71⟩ := hT.at_ (i := (u.par).toNat) (by omega)
       refine sdo (v := pA bt65 (ot66 + (u.par).toNat * 7)) A (qx (k := (u.par).toNat) Tryz.underlying26 (by kernel_rfl) rfl rfl (by first | rfl | omega) lt70 (by omega)) λa A↦?_
       refine sdo (v := pA bt65 (ot66 + (u.par).toNat * 7 + 4)) A (qb qbf rfl rfl) λa A↦?_
       refine sdo A (jj (j := 4) M Ht71 o94 rfl rfl rfl) λa A↦?_
       refine qa (hK63 _ _ ?_)
       refine wp_cond_split (t := ty64.sl) (A.ev rfl) (fun hc72 => ?_) (fun hc72 => ?_)
       ·
        refine wsk fun K73 hK73 => zp (S := fun w1 => Mg w w1 (.obj g2 (.cells (sC tz tc ts ro rc rs).toArray 29) :: [])) (by kernel_rfl) ?_
        replace M := M.drew
        refine qe A 0 rfl rfl rfl rfl hP (M.sub (cn (cn (cc ns)))) (λ_ M↦qz M jr rfl 0 rfl (cs := (sC tz tc ts ro rc rs)) rfl rfl) λa A↦?_
        refine qe A 1 rfl rfl rfl rfl hP (M.sub (cn (cn (cc ns)))) (λ_ M↦qp rfl) λa A↦?_
        refine qe A 2 rfl rfl rfl rfl hP (M.sub (cn (cn (cc ns)))) (λ_ M↦qp rfl) λa A↦?_
        refine zd (by kernel_rfl) (jm (L' := (.obj g6 (.cells (sC tz tc ts ro rc rs).toArray 29) :: .obj g4 (.cells u.c.toArray 33) :: .obj g2 (.cells (sC tz tc ts ro rc rs).toArray 29) :: [])) A M 3 rfl rfl rfl (za rfl rfl rfl (by kernel_rfl) M 0 rfl rfl rfl) 0 rfl rfl rfl ?_)
        intro w74 M
        refine ⟨(M.sub (cn (cn (cc ns)))), ?_⟩
        refine ze (by kernel_rfl) ?_
        refine hK73 _ _ (wp_ret (hret _ _ (en3 A rfl (qf rfl) (qf rfl) (zu M jr rfl 0 rfl (cs := [.slice tz ts.length tc, .slice ro rs.length rc]) rfl rfl) ?_)))
        exact .inl ⟨by rw [qnb (show gdB (ts.map Ty.k).length u.k = true by rw [List.length_map]; exact hgd9) hux9 (show slP (ts.map Ty.k) u.k.par = true from ((qbe (show 0 ≤ u.par by omega) (zn it67)).trans hc72))], by rw [qnb (show gdB (ts.map Ty.k).length u.k = true by rw [List.length_map]; exact hgd9) hux9 (show slP (ts.map Ty.k) u.k.par = true from ((qbe (show 0 ≤ u.par by omega) (zn it67)).trans hc72))]; try rfl, M.bel⟩
       ·
        refine wp_skip (hK62 _ _ (wrl (sdm A λa A↦?_)))
        refine sdo A (qz M jr rfl 2 rfl (cs := (sC tz tc ts ro rc rs)) rfl rfl) λa A↦?_
        refine sdo (v := pA g4 1) A (qb ju rfl rfl) λa A↦?_
        refine sdo A (qh M o93 rfl 1 rfl rfl) λa A↦?_
        refine gcl A M (ef rfl rfl) (qeg (hT.below M.bel) (hR.below M.bel) hW (by omega) (by omega)) fun w76 hb75 M a A => ?_
        refine sdo (v := iV (((u.fs.length + cnt (ts.map Ty.k) u.par : Nat) : Int))) A (qg rfl rfl (fun w => (ja (ji (by omega) (by omega)) w).trans (by rw [show (((u.fs.length : Nat) : Int) + ((cnt (ts.map Ty.k) u.par : Nat) : Int) : Int) = ((u.fs.length + cnt (ts.map Ty.k) u.par : Nat) : Int) from by omega]))) λa A↦?_
        refine sda A λa A↦?_
        refine qa ?_
        exact hJ32 _ _ ⟨u.fs.length + cnt (ts.map Ty.k) u.par, ⟨rfl, ((qbe (show 0 ≤ u.par by omega) (zn it67)).trans hc72)⟩, A.keep _ (by repeat' constructor), M⟩
      ·
       have hb61' := of_decide_eq_false hb61
       refine sdc A zl hb61 λa A↦?_
       refine qa (hK60 _ _ (wp_cond_false (A.ev rfl) ?_))
       refine wp_skip ?_
       exact hJ32 _ _ ⟨u.fs.length, ⟨by rw [que (show u.par < 0 by omega)]; rfl, (qgc (show u.par < 0 by omega))⟩, A.keep _ (by repeat' constructor), M⟩
     refine wsk fun K77 hK77 => wrl (sda A λa A↦?_)
     refine qa (hK77 _ _ (wp_block ?_))
     have hgd9 : gdB ts.length u.k = true := zod (show u.ms.length = u.fs.length by omega) hb13 (show -1 ≤ u.par by omega) (show u.par < ((ts.length : Nat) : Int) by omega)
     have hp0 : -1 ≤ u.par := by omega
     have hp1 : u.par < ((ts.length : Nat) : Int) := by omega
     have hc16 := hW.cnt16 (t := u.par) (by rw [List.length_map]; exact hp1)
     refine zt (fun m_ a w1 => ∃ (i : Nat), m_ = 1 + (ts.length - i) ∧ (i ≤ ts.length ∧ ∀ (j : Nat) y, j < i → ts[j]? = some y → y.ui ≠ u.ui) ∧ Sl a 110 [(0, .agg (sC tz tc ts ro rc rs).toArray), (1, .agg u.c.toArray), (2, pA g2 0), (3, pA g4 0), (6, pA g6 0), (7, iV (((i : Nat) : Int))), (10, pA g4 3), (11, .slice u.mo u.ms.length u.mc), (12, iV (((u.ms.length : Nat) : Int))), (13, pA g4 2), (14, .slice u.fo u.fs.length u.fc), (15, iV (((u.fs.length : Nat) : Int))), (16, bV false), (17, bV false), (18, pA g4 2), (19, .slice u.fo u.fs.length u.fc), (20, bV false), (21, bV false), (22, bV false), (23, pA g4 1), (24, iV u.par), (25, bV false), (26, bV false), (27, bV false), (28, pA g4 1), (29, iV u.par), (30, pA g2 0), (31, .slice tz ts.length tc), (32, iV (((ts.length : Nat) : Int))), (33, bV false), (34, bV false)] ∧ Mg w w1 (.obj g6 (.cells #[.slice none 0 0, .slice none 0 0] 29) :: .obj g4 (.cells u.c.toArray 33) :: .obj g2 (.cells (sC tz tc ts ro rc rs).toArray 29) :: [])) _ ⟨0, rfl, ⟨Nat.zero_le _, fun j u h => absurd h (Nat.not_lt_zero _)⟩, A.keep _ (by repeat' constructor), M⟩ ?_
     clear M A
     rintro m_ a w78 ⟨i, rfl, hinv80, A, M⟩ K79 hK79
     obtain ⟨hi0, hin9⟩ := hinv80
     refine wsk fun K81 hK81 => wsk fun K82 hK82 => wrl (sdm A λa A↦?_)
     refine sdo (v := pA g2 0) A (qb xt rfl rfl) λa A↦?_
     refine sdo A (qh M xn rfl 2 rfl rfl) λa A↦?_
     refine sdo A (qn Tryz.underlying26 rfl) λa A↦?_
     rcases tf (decide (((i : Nat) : Int) < ((ts.length : Nat) : Int))) with hb83 | hb83
     ·
      have hb83' := of_decide_eq_true hb83
      refine sdc A qw hb83 λa A↦?_
      refine sdm A λa A↦?_
      refine sdo (v := pA g4 6) A (qb yu rfl rfl) λa A↦?_
      refine sdo A (qh M o99 rfl 1 rfl rfl) λa A↦?_
      rcases tf (decide (u.ui = ⟨#[]⟩)) with hb84 | hb84
      ·
       have hb84' := of_decide_eq_true hb84
       refine sdo (v := bV false) A (qg rfl rfl (fun w => (xe Tryz.underlying9 w).trans (by rw [hb84] <;> rfl))) λa A↦?_
       refine sdk (v := bV false) A λa A↦?_
       refine qa (hK82 _ _ (wp_cond_false (A.ev rfl) ?_))
       refine wp_exit ?_
       exact hJ27 _ _ ⟨⟨qzd hin9 (.inl (of_decide_eq_true hb84)), hgd9⟩, A.keep _ (by repeat' constructor), M⟩
      ·
       have hb84' := of_decide_eq_false hb84
       refine sdo (v := bV true) A (qg rfl rfl (fun w => (xe Tryz.underlying9 w).trans (by rw [hb84] <;> rfl))) λa A↦?_
       refine sdk (v := bV true) A λa A↦?_
       refine qa (hK82 _ _ (wp_cond_true (A.ev rfl) ?_))
       refine wp_skip (hK81 _ _ (wsk fun K85 hK85 => wp_block (wsk fun K86 hK86 => wsk fun K87 hK87 => zp (S := fun w1 => Mg w w1 (.obj g4 (.cells u.c.toArray 33) :: .obj g2 (.cells (sC tz tc ts ro rc rs).toArray 29) :: [])) (by kernel_rfl) ?_)))
       replace M := M.drew
       refine qe (v := pA g2 0) A 0 rfl rfl rfl rfl hP (M.sub (cn (cc (cc ns)))) (λ_ M↦qb xt rfl rfl) λa A↦?_
       refine qe A 1 rfl rfl rfl rfl hP (M.sub (cn (cc (cc ns)))) (λ_ M↦qh M xn rfl 1 rfl rfl) λa A↦?_
       refine qe A 2 rfl rfl rfl rfl hP (M.sub (cn (cc (cc ns)))) (λ_ M↦ql rfl) λa A↦?_
       obtain ⟨ty88, bt89, ot90, it91, mt92, rt93, lt94, Ht95⟩ := hT.at_ (i := i) (by omega)
       refine qe (v := pA bt89 (ot90 + i * 7)) A 3 rfl rfl rfl rfl hP (M.sub (cn (cc (cc ns)))) (λ_ M↦qx (k := i) Tryz.underlying26 (by kernel_rfl) rfl rfl (by first | rfl | omega) lt94 (by omega)) λa A↦?_
       refine qe (v := pA bt89 (ot90 + i * 7 + 6)) A 4 rfl rfl rfl rfl hP (M.sub (cn (cc (cc ns)))) (λ_ M↦qb yu rfl rfl) λa A↦?_
       refine qe A 5 rfl rfl rfl rfl hP (M.sub (cn (cc (cc ns)))) (λ_ M↦jj (j := 6) M Ht95 o99 rfl rfl rfl) λa A↦?_
       refine qe (v := pA g4 6) A 6 rfl rfl rfl rfl hP (M.sub (cn (cc (cc ns)))) (λ_ M↦qb yu rfl rfl) λa A↦?_
       refine qe A 7 rfl rfl rfl rfl hP (M.sub (cn (cc (cc ns)))) (λ_ M↦qh M o99 rfl 0 rfl rfl) λa A↦?_
       rcases tf (decide (ty88.ui = u.ui)) with hb96 | hb96
       ·
        have hb96' := of_decide_eq_true hb96
        refine qe (v := bV false) A 8 rfl rfl rfl rfl hP (M.sub (cn (cc (cc ns)))) (λ_ M↦qg rfl rfl (fun w => (xe Tryz.underlying9 w).trans (by rw [hb96] <;> rfl))) λa A↦?_
        refine ze (by kernel_rfl) ?_
        refine hK87 _ _ (wp_cond_false (A.ev rfl) ?_)
        refine wp_skip (hK86 _ _ (wsk fun K97 hK97 => wsk fun K98 hK98 => ?_))
        have hnf := hW.nf16 (zn it91)
        have hml := hW.ml _ (List.mem_of_getElem? (zn it91))
        rw [show ty88.k.fs.length = ty88.fs.length from rfl] at hnf
        rw [show ty88.k.fs.length = ty88.fs.length from rfl, show ty88.k.ms.length = ty88.ms.length from rfl] at hml
        refine zp (S := fun w1 => Mg w w1 (.obj g4 (.cells u.c.toArray 33) :: .obj g2 (.cells (sC tz tc ts ro rc rs).toArray 29) :: [])) (by kernel_rfl) ?_
        replace M := M.drew
        refine qe (v := pA g2 0) A 0 rfl rfl rfl rfl hP (M.sub (cn (cc (cc ns)))) (λ_ M↦qb xt rfl rfl) λa A↦?_
        refine qe A 1 rfl rfl rfl rfl hP (M.sub (cn (cc (cc ns)))) (λ_ M↦qh M xn rfl 1 rfl rfl) λa A↦?_
        refine qe A 2 rfl rfl rfl rfl hP (M.sub (cn (cc (cc ns)))) (λ_ M↦ql rfl) λa A↦?_
        refine qe (v := pA bt89 (ot90 + i * 7)) A 3 rfl rfl rfl rfl hP (M.sub (cn (cc (cc ns)))) (λ_ M↦qx (k := i) Tryz.underlying26 (by kernel_rfl) rfl rfl (by first | rfl | omega) lt94 (by omega)) λa A↦?_
        refine qe (v := .agg ty88.c.toArray) A 4 rfl rfl rfl rfl hP (M.sub (cn (cc (cc ns)))) (λ_ M↦xa M Ht95 qaj rfl rfl) λa A↦?_
        refine qe A 5 rfl rfl rfl rfl hP (M.sub (cn (cc (cc ns)))) (λ_ M↦qz M qaj rfl 0 rfl (cs := u.c) rfl rfl) λa A↦?_
        rcases tf (xm ty88.k u.k) with hb99 | hb99
        ·
         refine zd (by kernel_rfl) (jf A 6 rfl rfl rfl rfl (zj rfl rfl (fun w => by kernel_rfl)) (qeh (ya := ty88) (yb := u) (rt93.below M.bel) (hU.below M.bel) (by omega) (by omega) (by omega) (by omega) hb99) ?_)
         rintro _ w101 ⟨rfl, hb100⟩
         replace M := M.call hb100
         refine ⟨_, rfl, (M.sub (cn (cc (cc ns)))), ?_⟩
         intro a A
         refine ze (by kernel_rfl) ?_
         refine hK98 _ _ (wp_cond_true (A.ev rfl) ?_)
         refine wsk fun K102 hK102 => zp (S := fun w1 => Mg w w1 (.obj g2 (.cells (sC tz tc ts ro rc rs).toArray 29) :: [])) (by kernel_rfl) ?_
         replace M := M.drew
         refine qe A 0 rfl rfl rfl rfl hP (M.sub (cn (cn (cc ns)))) (λ_ M↦ql rfl) λa A↦?_
         refine qe A 1 rfl rfl rfl rfl hP (M.sub (cn (cn (cc ns)))) (λ_ M↦qz M jr rfl 0 rfl (cs := (sC tz tc ts ro rc rs)) rfl rfl) λa A↦?_
         refine qe A 2 rfl rfl rfl rfl hP (M.sub (cn (cn (cc ns)))) (λ_ M↦qp rfl) λa A↦?_
         refine qe A 3 rfl rfl rfl rfl hP (M.sub (cn (cn (cc ns)))) (λ_ M↦qp rfl) λa A↦?_
         refine zd (by kernel_rfl) (jm (L' := (.obj g6 (.cells (sC tz tc ts ro rc rs).toArray 29) :: .obj g4 (.cells u.c.toArray 33) :: .obj g2 (.cells (sC tz tc ts ro rc rs).toArray 29) :: [])) A M 4 rfl rfl rfl (za rfl rfl rfl (by kernel_rfl) M 0 rfl rfl rfl) 0 rfl rfl rfl ?_)
         intro w103 M
         refine ⟨(M.sub (cn (cn (cc ns)))), ?_⟩
         refine ze (by kernel_rfl) ?_
         refine hK102 _ _ (wp_ret (hret _ _ (en3 A rfl (qf rfl) (qf rfl) (zu M jr rfl 0 rfl (cs := [.slice tz ts.length tc, .slice ro rs.length rc]) rfl rfl) ?_)))
         have hux8 : uix (ts.map Ty.k) u.k.ui = ((i : Nat) : Int) := zhj (of_decide_eq_false hb84) hin9 it91 (of_decide_eq_true hb96)
         have hty8 : tyS (ts.map Ty.k) u.k = if xm ty88.k u.k = true then (uix (ts.map Ty.k) u.k.ui, 0, false) else (0, 8, false) := qug (show gdB (ts.map Ty.k).length u.k = true by rw [List.length_map]; exact hgd9) (by rw [hux8]; omega) (by rw [hux8]; exact zn it91)
         exact .inl ⟨by rw [hty8, if_pos hb99], by rw [hty8, if_pos hb99, hux8]; try rfl, M.bel⟩
        ·
         refine zd (by kernel_rfl) (jf A 6 rfl rfl rfl rfl (zj rfl rfl (fun w => by kernel_rfl)) (qeh (ya := ty88) (yb := u) (rt93.below M.bel) (hU.below M.bel) (by omega) (by omega) (by omega) (by omega) hb99) ?_)
         rintro _ w105 ⟨rfl, hb104⟩
         replace M := M.call hb104
         refine ⟨_, rfl, (M.sub (cn (cc (cc ns)))), ?_⟩
         intro a A
         refine ze (by kernel_rfl) ?_
         refine hK98 _ _ (wp_cond_false (A.ev rfl) ?_)
         refine wp_skip (hK97 _ _ (wsk fun K106 hK106 => zp (S := fun w1 => Mg w w1 (.obj g2 (.cells (sC tz tc ts ro rc rs).toArray 29) :: [])) (by kernel_rfl) ?_))
         replace M := M.drew
         refine qe A 0 rfl rfl rfl rfl hP (M.sub (cn (cn (cc ns)))) (λ_ M↦qz M jr rfl 0 rfl (cs := (sC tz tc ts ro rc rs)) rfl rfl) λa A↦?_
         refine qe A 1 rfl rfl rfl rfl hP (M.sub (cn (cn (cc ns)))) (λ_ M↦qp rfl) λa A↦?_
         refine qe A 2 rfl rfl rfl rfl hP (M.sub (cn (cn (cc ns)))) (λ_ M↦qp rfl) λa A↦?_
         refine zd (by kernel_rfl) (jm (L' := (.obj g6 (.cells (sC tz tc ts ro rc rs).toArray 29) :: .obj g4 (.cells u.c.toArray 33) :: .obj g2 (.cells (sC tz tc ts ro rc rs).toArray 29) :: [])) A M 3 rfl rfl rfl (za rfl rfl rfl (by kernel_rfl) M 0 rfl rfl rfl) 0 rfl rfl rfl ?_)
         intro w107 M
         refine ⟨(M.sub (cn (cn (cc ns)))), ?_⟩
         refine ze (by kernel_rfl) ?_
         refine hK106 _ _ (wp_ret (hret _ _ (en3 A rfl (qf rfl) (qf rfl) (zu M jr rfl 0 rfl (cs := [.slice tz ts.length tc, .slice ro rs.length rc]) rfl rfl) ?_)))
         have hux8 : uix (ts.map Ty.k) u.k.ui = ((i : Nat) : Int) := zhj (of_decide_eq_false hb84) hin9 it91 (of_decide_eq_true hb96)
         have hty8 : tyS (ts.map Ty.k) u.k = if xm ty88.k u.k = true then (uix (ts.map Ty.k) u.k.ui, 0, false) else (0, 8, false) := qug (show gdB (ts.map Ty.k).length u.k = true by rw [List.length_map]; exact hgd9) (by rw [hux8]; omega) (by rw [hux8]; exact zn it91)
         exact .inl ⟨by rw [hty8, if_neg (by rw [hb99]; decide)], by rw [hty8, if_neg (by rw [hb99]; decide)]; try rfl, M.bel⟩
       ·
        have hb96' := of_decide_eq_false hb96
        refine qe (v := bV true) A 8 rfl rfl rfl rfl hP (M.sub (cn (cc (cc ns)))) (λ_ M↦qg rfl rfl (fun w => (xe Tryz.underlying9 w).trans (by rw [hb96] <;> rfl))) λa A↦?_
        refine ze (by kernel_rfl) ?_
        refine hK87 _ _ (wp_cond_true (A.ev rfl) ?_)
        refine wp_exit (hK85 _ _ (wrl (sdm A λa A↦?_)))
        refine sdo (v := iV (((i + 1 : Nat) : Int))) A (qg rfl rfl (fun w => (ja (ji (by omega) (by omega)) w).trans (by rw [show (((i : Nat) : Int) + 1 : Int) = ((i + 1 : Nat) : Int) from by omega]))) λa A↦?_
        refine sda A λa A↦?_
        refine qa ?_
        refine hK79 _ _ _ (by omega) ⟨i + 1, rfl, ⟨by omega, fun j y hj hy => if h9 : j < i then hin9 j y h9 hy else by have h8 : j = i := (by omega); subst h8; rw [it91] at hy; rw [← Option.some.inj hy]; exact of_decide_eq_false hb96⟩, A.keep _ (by repeat' constructor), M⟩
     ·
      have hb83' := of_decide_eq_false hb83
      refine sdc A qw hb83 λa A↦?_
      refine sdm A λa A↦?_
      iterate 3 refine qj A rfl rfl rfl λa A↦?_
      refine sdk (v := bV false) A λa A↦?_
      refine qa (hK82 _ _ (wp_cond_false (A.ev rfl) ?_))
      refine wp_exit ?_
      exact hJ27 _ _ ⟨⟨qzd hin9 (.inr (by omega)), hgd9⟩, A.keep _ (by repeat' constructor), M⟩
theorem zmb {w : World} {tz ro : Option Addr} {tc rc : Nat} {ts : List Ty} {rs : List Rk} (hT : TR w tz ts) (hR : RR w ro rs) (hW : WS (ts.map Ty.k) (rs.map Rk.k)) {t : Int} (h : okT ts.length t = true) : Calls Tryz.prog 12 #[.agg (sC tz tc ts ro rc rs).toArray, iV t] w fun e w' => e = .returned (.tuple #[iV ((cnt (ts.map Ty.k) t : Nat) : Int), iV 0]) ∧ Below w.heap.size w w' := by
 have := qbi (tc := tc) (rc := rc) (t := t) hT hR hW
 rw [zeb h] at this
 exact this
theorem zmc {w : World} {tz ro : Option Addr} {tc rc : Nat} {ts : List Ty} {rs : List Rk} (hT : TR w tz ts) (hR : RR w ro rs) (hW : WS (ts.map Ty.k) (rs.map Rk.k)) {t : Int} (h : okT ts.length t = false) : Calls Tryz.prog 12 #[.agg (sC tz tc ts ro rc rs).toArray, iV t] w fun e w' => e = .returned (.tuple #[iV 0, iV 7]) ∧ Below w.heap.size w w' := by
 have := qbi (tc := tc) (rc := rc) (t := t) hT hR hW
 rw [qvi h] at this
 exact this
theorem qci {w : World} {t : Dt} (ht : t.rd w) (hb : t.tr.bulk ≤ 4000000) {v : Bool} (h : jh zx t.tr = v) : Calls Tryz.prog 36 #[.agg (t.d.cells t.ts.length).toArray] w fun e w' => e = .returned (bV v) ∧ Below w.heap.size w w' := h ▸ rsound_any ht hb
theorem zff {vs : List Dt} {i : Nat} (h : ∀ (j : Nat) u, j < i → vs[j]? = some u → jh zx u.tr = true) (hi : vs.length ≤ i) : (vs.map Dt.tr).all (jh zx) = true := by
 rw [List.all_eq_true]
 intro x hx
 obtain ⟨u, hu, rfl⟩ := List.mem_map.1 hx
 obtain ⟨j, hj⟩ := List.mem_iff_getElem?.1 hu
 exact h j u (by have := (List.getElem?_eq_some_iff.1 hj).1; omega) hj
theorem zie {vs : List Dt} {u : Dt} (hu : u ∈ vs) (h : jh zx u.tr = false) : (vs.map Dt.tr).all (jh zx) = false := by
 refine Bool.eq_false_iff.2 fun e => ?_
 rw [List.all_eq_true.1 e u.tr (List.mem_map.2 ⟨u, hu, rfl⟩)] at h
 cases h
set_option maxHeartbeats 2000000 in
theorem zmd {w : World} {tz ro : Option Addr} {tc rc : Nat} {ts : List Ty} {rs : List Rk} (hT : TR w tz ts) (hR : RR w ro rs) (hW : WS (ts.map Ty.k) (rs.map Rk.k)) {vo : Option Addr} {vc : Nat} {vs : List Dt} (hV : Rt w vo vs) (hD : ∀ d ∈ vs, d.rd w) (hvb : ∀ d ∈ vs, d.tr.bulk ≤ 4000000) (hvl : vs.length ≤ 2000000) {t : Int} : Calls Tryz.prog 11 #[.agg (sC tz tc ts ro rc rs).toArray, iV t, .slice vo vs.length vc] w fun e w' => (((mkS (ts.map Ty.k) rs.length t (vs.map Dt.tr)).2.2 = false ∧ e = .returned (.tuple #[iV (mkS (ts.map Ty.k) rs.length t (vs.map Dt.tr)).1, iV (mkS (ts.map Ty.k) rs.length t (vs.map Dt.tr)).2.1, .agg (sC tz tc ts ro rc rs).toArray]) ∧ Below w.heap.size w w') ∨ ((mkS (ts.map Ty.k) rs.length t (vs.map Dt.tr)).2.2 = true ∧ ∃ (ro' : Option Addr) (rc' : Nat) (vo' : Option Addr) (vc' : Nat), e = .returned (.tuple #[iV ((rs.length : Nat) : Int), iV 0, .agg #[.slice tz ts.length tc, .slice ro' (rs ++ [(Rk.mk t.toNat vo' vc' vs)]).length rc']]) ∧ Mg w w' [.row 88 2 (.slice ro' (rs ++ [(Rk.mk t.toNat vo' vc' vs)]).length rc') (rs ++ [(Rk.mk t.toNat vo' vc' vs)]).length (qt Rk.c (rs ++ [(Rk.mk t.toNat vo' vc' vs)])), .row 42 11 (.slice vo' vs.length vc') vs.length (cellsOf vs)])) := by
 have hkl := hW.kl
 have hrl := hW.rl
 rw [List.length_map] at hkl hrl
 have M : Mg w w ([]) := Mg.start w
 refine qs (l := [(0, .agg (sC tz tc ts ro rc rs).toArray), (1, iV t), (2, .slice vo vs.length vc)]) Tryz.func11 rfl Tryz.ntmps11 rfl rfl ?_
 intro Q hret hnorm hP a A
 refine wsk fun K1 hK1 => wrl (zy (vs := (sC tz tc ts ro rc rs)) (t := 29) A M rfl rfl rfl pg (zf rfl rfl) (by decide) ?_)
 intro g2 w3 M a A
 iterate 2 refine sda A λa A↦?_
 refine zy (vs := [.slice none 0 0, .slice none 0 0]) (t := 29) A M rfl rfl rfl pg (zv (z := .agg #[.slice none 0 0, .slice none 0 0]) (by kernel_rfl) rfl) (by decide) ?_
 intro g4 w5 M a A
 refine qa (hK1 _ _ (wsk fun K6 hK6 => wrl (sdo A (qz M jr rfl 1 rfl (cs := (sC tz tc ts ro rc rs)) rfl rfl) λa A↦?_)))
 refine sdm A λa A↦?_
 rcases tf (okT ts.length t) with hb7 | hb7
 ·
  have hok9 := ke hb7
  refine gcl A M (ef rfl rfl) (zmb (hT.below M.bel) (hR.below M.bel) hW hb7) fun w9 hb8 M a A => ?_
  refine sdm A λa A↦?_
  iterate 2 refine sdo A (zb (vs := [iV (((cnt (ts.map Ty.k) t : Nat) : Int)), iV 0]) rfl rfl) λa A↦?_
  iterate 2 refine sda A λa A↦?_
  refine qa (hK6 _ _ (wsk fun K10 hK10 => wsk fun K11 hK11 => wrl (sdm A λa A↦?_)))
  refine sdo (v := bV false) A (qg rfl rfl (fun w => by kernel_rfl)) λa A↦?_
  refine qa (hK11 _ _ (wp_cond_false (A.ev rfl) ?_))
  refine wp_skip (hK10 _ _ (wsk fun K12 hK12 => wsk fun K13 hK13 => wrl ?_))
  iterate 2 refine sdm A λa A↦?_
  refine sdo A (qn Tryz.underlying34 rfl) λa A↦?_
  rcases tf ((((cnt (ts.map Ty.k) t : Nat) : Int) != ((vs.length : Nat) : Int))) with hb14 | hb14
  ·
   have hb14' := bne_iff_ne.1 hb14
   refine sdc A zg hb14 λa A↦?_
   refine qa (hK13 _ _ (wp_cond_true (A.ev rfl) ?_))
   refine wsk fun K15 hK15 => zp (S := fun w1 => Mg w w1 (.obj g2 (.cells (sC tz tc ts ro rc rs).toArray 29) :: [])) (by kernel_rfl) ?_
   replace M := M.drew
   refine qe A 0 rfl rfl rfl rfl hP (M.sub (cn (cc ns))) (λ_ M↦qz M jr rfl 0 rfl (cs := (sC tz tc ts ro rc rs)) rfl rfl) λa A↦?_
   refine qe A 1 rfl rfl rfl rfl hP (M.sub (cn (cc ns))) (λ_ M↦qp rfl) λa A↦?_
   refine qe A 2 rfl rfl rfl rfl hP (M.sub (cn (cc ns))) (λ_ M↦qp rfl) λa A↦?_
   refine zd (by kernel_rfl) (jm (L' := (.obj g4 (.cells (sC tz tc ts ro rc rs).toArray 29) :: .obj g2 (.cells (sC tz tc ts ro rc rs).toArray 29) :: [])) A M 3 rfl rfl rfl (za rfl rfl rfl (by kernel_rfl) M 0 rfl rfl rfl) 0 rfl rfl rfl ?_)
   intro w16 M
   refine ⟨(M.sub (cn (cc ns))), ?_⟩
   refine ze (by kernel_rfl) ?_
   refine hK15 _ _ (wp_ret (hret _ _ (en3 A rfl (qf rfl) (qf rfl) (zu M jr rfl 0 rfl (cs := [.slice tz ts.length tc, .slice ro rs.length rc]) rfl rfl) ?_)))
   exact .inl ⟨by rw [qvj hb7 (show (vs.map Dt.tr).length ≠ cnt (ts.map Ty.k) t by rw [List.length_map]; omega)], by rw [qvj hb7 (show (vs.map Dt.tr).length ≠ cnt (ts.map Ty.k) t by rw [List.length_map]; omega)]; try rfl, M.bel⟩
  ·
   have hb14' := bne_eq_false_iff_eq.1 hb14
   refine sdc A zg hb14 λa A↦?_
   refine qa (hK13 _ _ (wp_cond_false (A.ev rfl) ?_))
   refine wp_skip (hK12 _ _ (wsk fun K17 hK17 => wsk fun K18 hK18 => wrl (sda A λa A↦?_)))
   refine qa (hK18 _ _ (wp_block (zt (fun m_ a w1 => ∃ (i : Nat), m_ = 1 + (vs.length - i) ∧ (i ≤ vs.length ∧ ∀ (j : Nat) u, j < i → vs[j]? = some u → jh zx u.tr = true) ∧ Sl a 63 [(0, .agg (sC tz tc ts ro rc rs).toArray), (1, iV t), (2, .slice vo vs.length vc), (3, pA g2 0), (8, pA g4 0), (9, iV (((cnt (ts.map Ty.k) t : Nat) : Int))), (10, iV 0), (11, iV (((i : Nat) : Int))), (13, .tuple #[iV (((cnt (ts.map Ty.k) t : Nat) : Int)), iV 0]), (14, .agg (sC tz tc ts ro rc rs).toArray), (15, iV t), (16, .tuple #[iV (((cnt (ts.map Ty.k) t : Nat) : Int)), iV 0]), (17, iV (((cnt (ts.map Ty.k) t : Nat) : Int))), (18, iV 0), (19, iV 0), (20, bV false), (23, iV (((cnt (ts.map Ty.k) t : Nat) : Int))), (24, .slice vo vs.length vc), (25, iV (((vs.length : Nat) : Int))), (26, bV false)] ∧ Mg w w1 (.obj g4 (.cells #[.slice none 0 0, .slice none 0 0] 29) :: .obj g2 (.cells (sC tz tc ts ro rc rs).toArray 29) :: [])) _ ⟨0, rfl, ⟨Nat.zero_le _, fun j u h => absurd h (Nat.not_lt_zero _)⟩, A.keep _ (by repeat' constructor), M⟩ ?_)))
   clear M A
   rintro m_ a w19 ⟨i, rfl, hinv21, A, M⟩ K20 hK20
   obtain ⟨hi0, hin9⟩ := hinv21
   refine wsk fun K22 hK22 => wsk fun K23 hK23 => wrl ?_
   iterate 2 refine sdm A λa A↦?_
   rcases tf (decide (((i : Nat) : Int) < ((cnt (ts.map Ty.k) t : Nat) : Int))) with hb24 | hb24
   ·
    have hb24' := of_decide_eq_true hb24
    refine sdc A qw hb24 λa A↦?_
    refine qa (hK23 _ _ (wp_cond_true (A.ev rfl) ?_))
    refine wp_skip (hK22 _ _ (wsk fun K25 hK25 => wp_block (wsk fun K26 hK26 => wrl ?_)))
    iterate 2 refine sdm A λa A↦?_
    obtain ⟨tk27, btk27, otk27, itk27, mtk27, rtk27_, ltk27, Htk27⟩ := zte hV hD (i := i) (by omega)
    refine sdo (v := pA btk27 (otk27 + i * 11)) A (qx (k := i) Tryz.underlying34 (by kernel_rfl) rfl rfl (by first | rfl | omega) ltk27 (by omega)) λa A↦?_
    refine sdo A (xa M Htk27 xz rfl rfl) λa A↦?_
    rcases tf (jh zx tk27.tr) with hb28 | hb28
    ·
     refine gcl A M (ef rfl rfl) (qci (Dt.keep M.bel _ rtk27_) (hvb _ mtk27) hb28) fun w30 hb29 M a A => ?_
     refine sdo (v := bV false) A (zi rfl zm) λa A↦?_
     refine qa (hK26 _ _ (wp_cond_false (A.ev rfl) ?_))
     refine wp_skip (hK25 _ _ (wrl (sdm A λa A↦?_)))
     refine sdo (v := iV (((i + 1 : Nat) : Int))) A (qg rfl rfl (fun w => (ja (ji (by omega) (by omega)) w).trans (by rw [show (((i : Nat) : Int) + 1 : Int) = ((i + 1 : Nat) : Int) from by omega]))) λa A↦?_
     refine sda A λa A↦?_
     refine qa ?_
     refine hK20 _ _ _ (by omega) ⟨i + 1, rfl, ⟨by omega, fun j u hj hu => if h9 : j < i then hin9 j u h9 hu else by have h8 : j = i := (by omega); subst h8; rw [itk27] at hu; rw [← Option.some.inj hu]; exact hb28⟩, A.keep _ (by repeat' constructor), M⟩
    ·
     refine gcl A M (ef rfl rfl) (qci (Dt.keep M.bel _ rtk27_) (hvb _ mtk27) hb28) fun w32 hb31 M a A => ?_
     refine sdo (v := bV true) A (zi rfl zm) λa A↦?_
     refine qa (hK26 _ _ (wp_cond_true (A.ev rfl) ?_))
     refine wsk fun K33 hK33 => zp (S := fun w1 => Mg w w1 (.obj g2 (.cells (sC tz tc ts ro rc rs).toArray 29) :: [])) (by kernel_rfl) ?_
     replace M := M.drew
     refine qe A 0 rfl rfl rfl rfl hP (M.sub (cn (cc ns))) (λ_ M↦qz M jr rfl 0 rfl (cs := (sC tz tc ts ro rc rs)) rfl rfl) λa A↦?_
     refine qe A 1 rfl rfl rfl rfl hP (M.sub (cn (cc ns))) (λ_ M↦qp rfl) λa A↦?_
     refine qe A 2 rfl rfl rfl rfl hP (M.sub (cn (cc ns))) (λ_ M↦qp rfl) λa A↦?_
     refine zd (by kernel_rfl) (jm (L' := (.obj g4 (.cells (sC tz tc ts ro rc rs).toArray 29) :: .obj g2 (.cells (sC tz tc ts ro rc rs).toArray 29) :: [])) A M 3 rfl rfl rfl (za rfl rfl rfl (by kernel_rfl) M 0 rfl rfl rfl) 0 rfl rfl rfl ?_)
     intro w34 M
     refine ⟨(M.sub (cn (cc ns))), ?_⟩
     refine ze (by kernel_rfl) ?_
     refine hK33 _ _ (wp_ret (hret _ _ (en3 A rfl (qf rfl) (qf rfl) (zu M jr rfl 0 rfl (cs := [.slice tz ts.length tc, .slice ro rs.length rc]) rfl rfl) ?_)))
     exact .inl ⟨by rw [qoc hb7 (show (vs.map Dt.tr).length = cnt (ts.map Ty.k) t by rw [List.length_map]; omega) (zie mtk27 hb28)], by rw [qoc hb7 (show (vs.map Dt.tr).length = cnt (ts.map Ty.k) t by rw [List.length_map]; omega) (zie mtk27 hb28)]; try rfl, M.bel⟩
   ·
    have hb24' := of_decide_eq_false hb24
    refine sdc A qw hb24 λa A↦?_
    refine qa (hK23 _ _ (wp_cond_false (A.ev rfl) ?_))
    refine wp_exit (hK17 _ _ (wsk fun K35 hK35 => wsk fun K36 hK36 => wrl (sdo (v := pA g2 1) A (qb ky rfl rfl) λa A↦?_)))
    refine sdo A (qh M qpj rfl 1 rfl rfl) λa A↦?_
    refine sdo A (qn Tryz.underlying27 rfl) λa A↦?_
    rcases tf (decide (20000 ≤ ((rs.length : Nat) : Int))) with hb37 | hb37
    ·
     have hb37' := of_decide_eq_true hb37
     refine sdc A zl hb37 λa A↦?_
     refine qa (hK36 _ _ (wp_cond_true (A.ev rfl) ?_))
     refine wsk fun K38 hK38 => zp (S := fun w1 => Mg w w1 (.obj g2 (.cells (sC tz tc ts ro rc rs).toArray 29) :: [])) (by kernel_rfl) ?_
     replace M := M.drew
     refine qe A 0 rfl rfl rfl rfl hP (M.sub (cn (cc ns))) (λ_ M↦qz M jr rfl 0 rfl (cs := (sC tz tc ts ro rc rs)) rfl rfl) λa A↦?_
     refine qe A 1 rfl rfl rfl rfl hP (M.sub (cn (cc ns))) (λ_ M↦qp rfl) λa A↦?_
     refine qe A 2 rfl rfl rfl rfl hP (M.sub (cn (cc ns))) (λ_ M↦qp rfl) λa A↦?_
     refine zd (by kernel_rfl) (jm (L' := (.obj g4 (.cells (sC tz tc ts ro rc rs).toArray 29) :: .obj g2 (.cells (sC tz tc ts ro rc rs).toArray 29) :: [])) A M 3 rfl rfl rfl (za rfl rfl rfl (by kernel_rfl) M 0 rfl rfl rfl) 0 rfl rfl rfl ?_)
     intro w39 M
     refine ⟨(M.sub (cn (cc ns))), ?_⟩
     refine ze (by kernel_rfl) ?_
     refine hK38 _ _ (wp_ret (hret _ _ (en3 A rfl (qf rfl) (qf rfl) (zu M jr rfl 0 rfl (cs := [.slice tz ts.length tc, .slice ro rs.length rc]) rfl rfl) ?_)))
     exact .inl ⟨by rw [qod hb7 (show (vs.map Dt.tr).length = cnt (ts.map Ty.k) t by rw [List.length_map]; omega) (zff hin9 (by omega)) (by omega)], by rw [qod hb7 (show (vs.map Dt.tr).length = cnt (ts.map Ty.k) t by rw [List.length_map]; omega) (zff hin9 (by omega)) (by omega)]; try rfl, M.bel⟩
    ·
     have hb37' := of_decide_eq_false hb37
     refine sdc A zl hb37 λa A↦?_
     refine qa (hK36 _ _ (wp_cond_false (A.ev rfl) ?_))
     refine wp_skip (hK35 _ _ (wsk fun K40 hK40 => wrl (xr (e := 88) (sz := 2) (m := 0) (vs := qt Rk.c []) A M rfl rfl rfl (qy rfl (by kernel_rfl)) rfl rfl (.inl (by decide)) ?_)))
     intro g41 w42 M a A
     refine sdo (v := pA g2 1) A (qb ky rfl rfl) λa A↦?_
     refine sdo A (qh M qpj rfl 2 rfl rfl) λa A↦?_
     refine jo (e := 88) (sz := 2) (k := 0) (q := 0) (m := rs.length) (xs := qt Rk.c []) (news := qt Rk.c rs) (L' := fun v43 => (.row 88 2 (v43) (0 + rs.length) (qt Rk.c [] ++ qt Rk.c rs) :: .obj g4 (.cells #[.slice none 0 0, .slice none 0 0] 29) :: .obj g2 (.cells (sC tz tc ts ro rc rs).toArray 29) :: [])) A rfl rfl rfl (xb (z := .agg #[iV 0, .slice none 0 0]) (sz := 2) (by_ := 32) Tryz.underlying27 (by kernel_rfl) rfl rfl rfl M 0 rfl rfl rfl (yt uz rs) (hR.row.below M.bel) (qhi rs) (by first | omega | (simp only [List.length_nil]; omega))) (fun _ => rfl) ?_
     intro v43 w44 M a A
     replace M : Mg w w44 (.row 88 2 (v43) rs.length (qt Rk.c rs) :: .obj g4 (.cells #[.slice none 0 0, .slice none 0 0] 29) :: .obj g2 (.cells (sC tz tc ts ro rc rs).toArray 29) :: []) := by
      have h9 := M
      rw [show 0 + rs.length = rs.length from by simp] at h9
      exact h9
     obtain ⟨so45, ca46, rfl⟩ := jg (M.has 0 rfl)
     refine sda A λa A↦?_
     refine qa (hK40 _ _ (wsk fun K47 hK47 => wrl ?_))
     iterate 2 refine sdm A λa A↦?_
     refine xr (e := 42) (sz := 11) (m := 0) (vs := cellsOf []) A M rfl rfl rfl (qy rfl (by kernel_rfl)) rfl rfl (.inl (by decide)) ?_
     intro g48 w49 M a A
     refine sdm A λa A↦?_
     refine jo (e := 42) (sz := 11) (k := 0) (q := 0) (m := vs.length) (xs := cellsOf []) (news := cellsOf vs) (L' := fun v50 => (.row 42 11 (v50) (0 + vs.length) (cellsOf [] ++ cellsOf vs) :: .row 88 2 (.slice so45 rs.length ca46) rs.length (qt Rk.c rs) :: .obj g4 (.cells #[.slice none 0 0, .slice none 0 0] 29) :: .obj g2 (.cells (sC tz tc ts ro rc rs).toArray 29) :: [])) A rfl rfl rfl (xb (z := .agg #[iV 0, iV 0, bV false, .slice none 0 0, .slice none 0 0, bV false, .slice none 0 0, .slice none 0 0, .string (⟨#[]⟩), .slice none 0 0, .slice none 0 0]) (sz := 11) (by_ := 192) Tryz.underlying34 (by kernel_rfl) rfl rfl rfl M 0 rfl rfl rfl (xx vs) ((zne hV).below M.bel) (ye vs) (by first | omega | (simp only [List.length_nil]; omega))) (fun _ => rfl) ?_
     intro v50 w51 M a A
     replace M : Mg w w51 (.row 42 11 (v50) vs.length (cellsOf vs) :: .row 88 2 (.slice so45 rs.length ca46) rs.length (qt Rk.c rs) :: .obj g4 (.cells #[.slice none 0 0, .slice none 0 0] 29) :: .obj g2 (.cells (sC tz tc ts ro rc rs).toArray 29) :: []) := by
      have h9 := M
      rw [show 0 + vs.length = vs.length from by simp] at h9
      exact h9
     obtain ⟨so52, ca53, rfl⟩ := jg (M.has 0 rfl)
     refine sdo (v := .agg #[iV (((t.toNat : Nat) : Int)), .slice so52 vs.length ca53]) A (jb rfl (fun w => by rw [show ((t.toNat : Nat) : Int) = t by omega]; kernel_rfl)) λa A↦?_
     refine xr (e := 88) (sz := 2) (m := 1) (vs := qt Rk.c [(Rk.mk t.toNat so52 ca53 vs)]) A M rfl rfl rfl (qy rfl (by kernel_rfl)) rfl rfl (.inl (by decide)) ?_
     intro g54 w55 M a A
     refine jo (e := 88) (sz := 2) (k := 2) (q := rs.length) (m := 1) (xs := qt Rk.c rs) (news := qt Rk.c [(Rk.mk t.toNat so52 ca53 vs)]) (L' := fun v56 => (.row 88 2 (.slice (aO g54) 1 1) 1 (qt Rk.c [(Rk.mk t.toNat so52 ca53 vs)]) :: .row 42 11 (.slice so52 vs.length ca53) vs.length (cellsOf vs) :: .row 88 2 (v56) (rs.length + 1) (qt Rk.c rs ++ qt Rk.c [(Rk.mk t.toNat so52 ca53 vs)]) :: .obj g4 (.cells #[.slice none 0 0, .slice none 0 0] 29) :: .obj g2 (.cells (sC tz tc ts ro rc rs).toArray 29) :: [])) A rfl rfl rfl (xb (z := .agg #[iV 0, .slice none 0 0]) (sz := 2) (by_ := 32) Tryz.underlying27 (by kernel_rfl) rfl rfl rfl M 2 rfl rfl rfl rfl (rc_own (M.has 0 rfl)) (qhi [(Rk.mk t.toNat so52 ca53 vs)]) (by first | omega | (simp only [List.length_nil]; omega))) (fun _ => rfl) ?_
     intro v56 w57 M a A
     replace M : Mg w w57 (.row 88 2 (.slice (aO g54) 1 1) 1 (qt Rk.c [(Rk.mk t.toNat so52 ca53 vs)]) :: .row 42 11 (.slice so52 vs.length ca53) vs.length (cellsOf vs) :: .row 88 2 (v56) ((rs ++ [(Rk.mk t.toNat so52 ca53 vs)]).length) (qt Rk.c (rs ++ [(Rk.mk t.toNat so52 ca53 vs)])) :: .obj g4 (.cells #[.slice none 0 0, .slice none 0 0] 29) :: .obj g2 (.cells (sC tz tc ts ro rc rs).toArray 29) :: []) := by
      rw [jx, List.length_append]; exact M
     obtain ⟨so58, ca59, rfl⟩ := jg (M.has 2 rfl)
     refine sdo (v := pA g2 1) A (qb ky rfl rfl) λa A↦?_
     refine zq (L' := (.row 88 2 (.slice (aO g54) 1 1) 1 (qt Rk.c [(Rk.mk t.toNat so52 ca53 vs)]) :: .row 42 11 (.slice so52 vs.length ca53) vs.length (cellsOf vs) :: .row 88 2 (.slice so58 ((rs ++ [(Rk.mk t.toNat so52 ca53 vs)]).length) ca59) ((rs ++ [(Rk.mk t.toNat so52 ca53 vs)]).length) (qt Rk.c (rs ++ [(Rk.mk t.toNat so52 ca53 vs)])) :: .obj g4 (.cells #[.slice none 0 0, .slice none 0 0] 29) :: .obj g2 (.cells #[.slice tz ts.length tc, .slice so58 ((rs ++ [(Rk.mk t.toNat so52 ca53 vs)]).length) ca59] 29) :: [])) A M rfl rfl (za rfl rfl rfl (by kernel_rfl) M 4 rfl rfl rfl) 4 rfl rfl rfl ?_
     intro w60 M
     refine qa (hK47 _ _ (wsk fun K61 hK61 => zp (S := fun w1 => Mg w w1 (.obj g2 (.cells #[.slice tz ts.length tc, .slice so58 ((rs ++ [(Rk.mk t.toNat so52 ca53 vs)]).length) ca59] 29) :: [])) (by kernel_rfl) ?_))
     replace M := M.drew
     refine qe (v := pA g2 1) A 0 rfl rfl rfl rfl hP (M.sub (cn (cn (cn (cn (cc ns)))))) (λ_ M↦qb ky rfl rfl) λa A↦?_
     refine qe A 1 rfl rfl rfl rfl hP (M.sub (cn (cn (cn (cn (cc ns)))))) (λ_ M↦qh M qpj rfl 0 rfl rfl) λa A↦?_
     refine qe (v := iV ((((rs ++ [(Rk.mk t.toNat so52 ca53 vs)]).length : Nat) : Int))) A 2 rfl rfl rfl rfl hP (M.sub (cn (cn (cn (cn (cc ns)))))) (λ_ M↦qn Tryz.underlying27 rfl) λa A↦?_
     have hln9 : (rs ++ [(Rk.mk t.toNat so52 ca53 vs)]).length = rs.length + 1 := by rw [List.length_append]; rfl
     refine qe (v := iV ((((rs ++ [(Rk.mk t.toNat so52 ca53 vs)]).length - 1 : Nat) : Int))) A 3 rfl rfl rfl rfl hP (M.sub (cn (cn (cn (cn (cc ns)))))) (λ_ M↦qg rfl rfl (fun w => (kn (ji (by omega) (by omega)) w).trans (by rw [show ((((rs ++ [(Rk.mk t.toNat so52 ca53 vs)]).length : Nat) : Int) - 1 : Int) = (((rs ++ [(Rk.mk t.toNat so52 ca53 vs)]).length - 1 : Nat) : Int) from by omega]))) λa A↦?_
     refine qe A 4 rfl rfl rfl rfl hP (M.sub (cn (cn (cn (cn (cc ns)))))) (λ_ M↦qz M jr rfl 0 rfl (cs := [.slice tz ts.length tc, .slice so58 ((rs ++ [(Rk.mk t.toNat so52 ca53 vs)]).length) ca59]) rfl rfl) λa A↦?_
     refine qe A 5 rfl rfl rfl rfl hP (M.sub (cn (cn (cn (cn (cc ns)))))) (λ_ M↦qp rfl) λa A↦?_
     refine qe A 6 rfl rfl rfl rfl hP (M.sub (cn (cn (cn (cn (cc ns)))))) (λ_ M↦qp rfl) λa A↦?_
     refine zd (by kernel_rfl) (jm (L' := (.row 88 2 (.slice (aO g54) 1 1) 1 (qt Rk.c [(Rk.mk t.toNat so52 ca53 vs)]) :: .row 42 11 (.slice so52 vs.length ca53) vs.length (cellsOf vs) :: .row 88 2 (.slice so58 ((rs ++ [(Rk.mk t.toNat so52 ca53 vs)]).length) ca59) ((rs ++ [(Rk.mk t.toNat so52 ca53 vs)]).length) (qt Rk.c (rs ++ [(Rk.mk t.toNat so52 ca53 vs)])) :: .obj g4 (.cells #[.slice tz ts.length tc, .slice so58 ((rs ++ [(Rk.mk t.toNat so52 ca53 vs)]).length) ca59] 29) :: .obj g2 (.cells #[.slice tz ts.length tc, .slice so58 ((rs ++ [(Rk.mk t.toNat so52 ca53 vs)]).length) ca59] 29) :: [])) A M 7 rfl rfl rfl (za rfl rfl rfl (by kernel_rfl) M 3 rfl rfl rfl) 3 rfl rfl rfl ?_)
     intro w62 M
     refine ⟨(M.sub (cn (cn (cn (cn (cc ns)))))), ?_⟩
     refine ze (by kernel_rfl) ?_
     refine hK61 _ _ (wp_ret (hret _ _ (en3 A rfl (qf rfl) (qf rfl) (zu M jr rfl 3 rfl (cs := [.slice tz ts.length tc, .slice so58 ((rs ++ [(Rk.mk t.toNat so52 ca53 vs)]).length) ca59]) rfl rfl) ?_)))
     replace M : Mg w w62 (.row 88 2 (.slice so58 ((rs ++ [(Rk.mk t.toNat so52 ca53 vs)]).length) ca59) ((rs ++ [(Rk.mk t.toNat so52 ca53 vs)]).length) (qt Rk.c (rs ++ [(Rk.mk t.toNat so52 ca53 vs)])) :: .row 42 11 (.slice so52 vs.length ca53) vs.length (cellsOf vs) :: []) := ((M.bring 1 rfl rfl).bring 2 rfl rfl).sub (cc (cc (cn (cn (cn (.refl _))))))
     have hln : ((rs ++ [(Rk.mk t.toNat so52 ca53 vs)])).length = rs.length + 1 := by rw [List.length_append]; rfl
     exact .inr ⟨by rw [zed hb7 (show (vs.map Dt.tr).length = cnt (ts.map Ty.k) t by rw [List.length_map]; omega) (zff hin9 (by omega)) (by omega)], so58, ca59, so52, ca53, by rw [show ((rs ++ [(Rk.mk t.toNat so52 ca53 vs)])).length - 1 = rs.length by omega], M⟩
 ·
  have hok9 := qgb hb7
  refine gcl A M (ef rfl rfl) (zmc (hT.below M.bel) (hR.below M.bel) hW hb7) fun w64 hb63 M a A => ?_
  refine sdm A λa A↦?_
  iterate 2 refine sdo A (zb (vs := [iV 0, iV 7]) rfl rfl) λa A↦?_
  iterate 2 refine sda A λa A↦?_
  refine qa (hK6 _ _ (wsk fun K65 hK65 => wsk fun K66 hK66 => wrl (sdm A λa A↦?_)))
  refine sdo (v := bV true) A (qg rfl rfl (fun w => by kernel_rfl)) λa A↦?_
  refine qa (hK66 _ _ (wp_cond_true (A.ev rfl) ?_))
  refine wsk fun K67 hK67 => zp (S := fun w1 => Mg w w1 (.obj g2 (.cells (sC tz tc ts ro rc rs).toArray 29) :: [])) (by kernel_rfl) ?_
  replace M := M.drew
  refine qe A 0 rfl rfl rfl rfl hP (M.sub (cn (cc ns))) (λ_ M↦ql rfl) λa A↦?_
  refine qe A 1 rfl rfl rfl rfl hP (M.sub (cn (cc ns))) (λ_ M↦qz M jr rfl 0 rfl (cs := (sC tz tc ts ro rc rs)) rfl rfl) λa A↦?_
  refine qe A 2 rfl rfl rfl rfl hP (M.sub (cn (cc ns))) (λ_ M↦qp rfl) λa A↦?_
  refine qe A 3 rfl rfl rfl rfl hP (M.sub (cn (cc ns))) (λ_ M↦qp rfl) λa A↦?_
  refine zd (by kernel_rfl) (jm (L' := (.obj g4 (.cells (sC tz tc ts ro rc rs).toArray 29) :: .obj g2 (.cells (sC tz tc ts ro rc rs).toArray 29) :: [])) A M 4 rfl rfl rfl (za rfl rfl rfl (by kernel_rfl) M 0 rfl rfl rfl) 0 rfl rfl rfl ?_)
  intro w68 M
  refine ⟨(M.sub (cn (cc ns))), ?_⟩
  refine ze (by kernel_rfl) ?_
  refine hK67 _ _ (wp_ret (hret _ _ (en3 A rfl (qf rfl) (qf rfl) (zu M jr rfl 0 rfl (cs := [.slice tz ts.length tc, .slice ro rs.length rc]) rfl rfl) ?_)))
  exact .inl ⟨by rw [zec hb7], by rw [zec hb7]; try rfl, M.bel⟩
section
variable {P : Program} {w0 w : World} {L : List Ck} {l : List (Nat × Value)} {ops : List Oper} {Q : Exit → Act → World → Prop} {a : Act} {n : Nat} {o : Oper} {rest : List Oper}
theorem zah (A : Sl a n l) (M : Mg w0 w L) (hg : zr l ops o = true) (hdst : o.dst = none) {g q m cap : Nat} {cs xs us : List Value} {e : TypeId} {sz : Nat} {so : Option Addr} (he : Sets P l o w (w.setCells g q cs)) (hso : so = some ⟨g, 0, none⟩) (k : Nat) (hk0 : L[k]? = some (.row e sz (.slice so m cap) m xs)) (hus : over xs q cs = us) {L' : List Ck} (hL : L.set k (.row e sz (.slice so m cap) m us) = L')
  (hk : ∀ w', Mg w0 w' L' → wpList P ops.toArray Q rest a w') : wpList P ops.toArray Q (o :: rest) a w := by
 subst hso
 exact qre A M hg hdst he k hk0 hus hL (fun w' h1 _ => hk w' h1)
end
theorem zzf {rs : List Rk} {j : Nat} {x : Rk} (hx : rs[j]? = some x) {so : Option Addr} {ca : Nat} {v : List Dt} (hv : v.length = x.vs.length) : over (qt Rk.c rs) (j * 2 + 1) [.slice so x.vs.length ca] = qt Rk.c (rs.set j (Rk.mk x.kd so ca v)) := by
 have hj := (List.getElem?_eq_some_iff.1 hx).1
 rw [← qxj uz _ hj]
 show _ = over (qt Rk.c rs) (j * 2) [iV ((x.kd : Nat) : Int), .slice so v.length ca]
 rw [hv]
 have h0 : (qt Rk.c rs)[j * 2]? = some (iV ((x.kd : Nat) : Int)) := by
  have h4 := qkb uz hx
  have h5 : (Rk.c x)[0]? = some (iV ((x.kd : Nat) : Int)) := rfl
  rw [← h4, List.getElem?_take, if_pos (by decide), List.getElem?_drop] at h5
  exact h5
 have h1 := qrj (xs := qt Rk.c rs) (o := j * 2) (cs := [iV ((x.kd : Nat) : Int)]) (by
  have hl := (List.getElem?_eq_some_iff.1 h0).1
  have h6 := (List.getElem?_eq_some_iff.1 h0).2
  rw [List.drop_eq_getElem_cons hl, h6]; rfl)
 rw [show over (qt Rk.c rs) (j * 2) [iV ((x.kd : Nat) : Int), .slice so x.vs.length ca] = over (over (qt Rk.c rs) (j * 2) [iV ((x.kd : Nat) : Int)]) (j * 2 + 1) [.slice so x.vs.length ca] from rfl, h1]
set_option maxHeartbeats 2000000 in
theorem zrh {w : World} {tz ro : Option Addr} {tc rc : Nat} {ts : List Ty} {rs : List Rk} (hT : TR w tz ts) (hR : RR w ro rs) (hW : WS (ts.map Ty.k) (rs.map Rk.k)) {v : Dt} (hv : v.rd w) (hvb : v.tr.bulk ≤ 4000000) {r t i : Int} : Calls Tryz.prog 17 #[.agg (sC tz tc ts ro rc rs).toArray, iV r, iV t, iV i, .agg (v.d.cells v.ts.length).toArray] w fun e w' => (((seS (ts.map Ty.k) (rs.map Rk.k) r t i v.tr) ≠ 0 ∧ e = .returned (.tuple #[iV (seS (ts.map Ty.k) (rs.map Rk.k) r t i v.tr), .agg (sC tz tc ts ro rc rs).toArray]) ∧ Below w.heap.size w w') ∨ ((seS (ts.map Ty.k) (rs.map Rk.k) r t i v.tr) = 0 ∧ ∃ (x : Rk) (ro' : Option Addr) (rc' : Nat) (vo' : Option Addr) (vc' : Nat), rs[r.toNat]? = some x ∧ e = .returned (.tuple #[iV 0, .agg #[.slice tz ts.length tc, .slice ro' rs.length rc']]) ∧ Mg w w' [.row 88 2 (.slice ro' rs.length rc') rs.length (qt Rk.c (rs.set r.toNat (Rk.mk x.kd vo' vc' (x.vs.set (plS (ts.map Ty.k) (rs.map Rk.k) r t i).1.toNat v)))), .row 42 11 (.slice vo' x.vs.length vc') x.vs.length (cellsOf (x.vs.set (plS (ts.map Ty.k) (rs.map Rk.k) r t i).1.toNat v))])) := by
 have hkl := hW.kl
 have hrl := hW.rl
 rw [List.length_map] at hkl hrl
 have M : Mg w w ([]) := Mg.start w
 refine qs (l := [(0, .agg (sC tz tc ts ro rc rs).toArray), (1, iV r), (2, iV t), (3, iV i), (4, .agg (v.d.cells v.ts.length).toArray)]) Tryz.func17 rfl Tryz.ntmps17 rfl rfl ?_
 intro Q hret hnorm hP a A
 refine wsk fun K1 hK1 => wrl (zy (vs := (sC tz tc ts ro rc rs)) (t := 29) A M rfl rfl rfl pg (zf rfl rfl) (by decide) ?_)
 intro g2 w3 M a A
 refine zy (vs := (v.d.cells v.ts.length)) (t := 42) A M rfl rfl rfl pg (zf rfl rfl) (by decide) ?_
 intro g4 w5 M a A
 refine sda A λa A↦?_
 refine zy (vs := [.slice none 0 0, .slice none 0 0]) (t := 29) A M rfl rfl rfl pg (zv (z := .agg #[.slice none 0 0, .slice none 0 0]) (by kernel_rfl) rfl) (by decide) ?_
 intro g6 w7 M a A
 refine qa (hK1 _ _ (wsk fun K8 hK8 => wrl (sdo A (qz M jr rfl 2 rfl (cs := (sC tz tc ts ro rc rs)) rfl rfl) λa A↦?_)))
 iterate 3 refine sdm A λa A↦?_
 refine gcl A M (ef rfl rfl) (qpe (hT.below M.bel) (hR.below M.bel) hW) fun w10 hb9 M a A => ?_
 refine sdm A λa A↦?_
 iterate 2 refine sdo A (zb (vs := [iV ((plS (ts.map Ty.k) (rs.map Rk.k) r t i).1), iV ((plS (ts.map Ty.k) (rs.map Rk.k) r t i).2)]) rfl rfl) λa A↦?_
 iterate 2 refine sda A λa A↦?_
 refine qa (hK8 _ _ (wsk fun K11 hK11 => wsk fun K12 hK12 => wrl (sdm A λa A↦?_)))
 rcases tf (((plS (ts.map Ty.k) (rs.map Rk.k) r t i).2 != 0)) with hb13 | hb13
 ·
  have hb13' := bne_iff_ne.1 hb13
  refine sdc A zg hb13 λa A↦?_
  refine qa (hK12 _ _ (wp_cond_true (A.ev rfl) ?_))
  refine wsk fun K14 hK14 => zp (S := fun w1 => Mg w w1 (.obj g2 (.cells (sC tz tc ts ro rc rs).toArray 29) :: [])) (by kernel_rfl) ?_
  replace M := M.drew
  refine qe A 0 rfl rfl rfl rfl hP (M.sub (cn (cn (cc ns)))) (λ_ M↦ql rfl) λa A↦?_
  refine qe A 1 rfl rfl rfl rfl hP (M.sub (cn (cn (cc ns)))) (λ_ M↦qz M jr rfl 0 rfl (cs := (sC tz tc ts ro rc rs)) rfl rfl) λa A↦?_
  refine qe A 2 rfl rfl rfl rfl hP (M.sub (cn (cn (cc ns)))) (λ_ M↦qp rfl) λa A↦?_
  refine zd (by kernel_rfl) (jm (L' := (.obj g6 (.cells (sC tz tc ts ro rc rs).toArray 29) :: .obj g4 (.cells (v.d.cells v.ts.length).toArray 42) :: .obj g2 (.cells (sC tz tc ts ro rc rs).toArray 29) :: [])) A M 3 rfl rfl rfl (za rfl rfl rfl (by kernel_rfl) M 0 rfl rfl rfl) 0 rfl rfl rfl ?_)
  intro w15 M
  refine ⟨(M.sub (cn (cn (cc ns)))), ?_⟩
  refine ze (by kernel_rfl) ?_
  refine hK14 _ _ (wp_ret (hret _ _ (en2 A rfl (qf rfl) (zu M jr rfl 0 rfl (cs := [.slice tz ts.length tc, .slice ro rs.length rc]) rfl rfl) ?_)))
  exact .inl ⟨by rw [zeg (show (plS (ts.map Ty.k) (rs.map Rk.k) r t i).2 ≠ 0 by omega)]; omega, by rw [zeg (show (plS (ts.map Ty.k) (rs.map Rk.k) r t i).2 ≠ 0 by omega)]; try rfl, M.bel⟩
 ·
  have hb13' := bne_eq_false_iff_eq.1 hb13
  refine sdc A zg hb13 λa A↦?_
  refine qa (hK12 _ _ (wp_cond_false (A.ev rfl) ?_))
  refine wp_skip (hK11 _ _ (wsk fun K16 hK16 => wsk fun K17 hK17 => wrl (sdo A (qz M xz rfl 1 rfl (cs := (v.d.cells v.ts.length)) rfl rfl) λa A↦?_)))
  rcases tf (jh zx v.tr) with hb18 | hb18
  ·
   refine gcl A M (ef rfl rfl) (qci (Dt.keep M.bel _ hv) hvb hb18) fun w20 hb19 M a A => ?_
   refine sdo (v := bV false) A (zi rfl zm) λa A↦?_
   refine qa (hK17 _ _ (wp_cond_false (A.ev rfl) ?_))
   refine wp_skip (hK16 _ _ (wsk fun K21 hK21 => wsk fun K22 hK22 => ?_))
   obtain ⟨x9, k9, hx9, hk9, p1, p2, p3, p4, p5, p6, p7, p8, p9, p10⟩ := qri hW (show (plS (ts.map Ty.k) (rs.map Rk.k) r t i).2 = 0 by omega)
   rw [List.length_map] at p2 p4
   obtain ⟨ty23, bt24, ot25, it26, mt27, rt28, lt29, Ht30⟩ := hT.at_ (i := t.toNat) (by omega)
   have hml := hW.ml _ (List.mem_of_getElem? (zn it26))
   rw [show ty23.k.fs.length = ty23.fs.length from rfl, show ty23.k.ms.length = ty23.ms.length from rfl] at hml
   obtain rfl : k9 = ty23.k := Option.some.inj (hk9.symm.trans (zn it26))
   rw [show ty23.k.fs.length = ty23.fs.length from rfl] at p6
   obtain ⟨x, br, or_, hx, mx, rx, lr, Hr⟩ := hR.at_ (i := r.toNat) (by omega)
   obtain rfl : x9 = x.k := Option.some.inj (hx9.symm.trans (xg hx))
   rw [show x.k.2.length = x.vs.length from List.length_map _] at p9 p10
   refine wrl (sdo (v := pA g2 0) A (qb xt rfl rfl) λa A↦?_)
   refine sdo A (qh M xn rfl 2 rfl rfl) λa A↦?_
   refine sdm A λa A↦?_
   refine sdo (v := pA bt24 (ot25 + t.toNat * 7)) A (qx (k := t.toNat) Tryz.underlying26 (by kernel_rfl) rfl rfl (by first | rfl | omega) lt29 (by omega)) λa A↦?_
   refine sdo (v := pA bt24 (ot25 + t.toNat * 7 + 3)) A (qb kk rfl rfl) λa A↦?_
   refine sdo A (jj (j := 3) M Ht30 qic rfl rfl rfl) λa A↦?_
   refine sdm A λa A↦?_
   obtain ⟨bx31, ox32, sx33, hs34, hc35, hi36⟩ := rt28.m.at_ (i := i.toNat) (by omega)
   refine sdo (v := pA bx31 (ox32 + i.toNat)) A (zk (k := i.toNat) Tryz.underlying31 (by kernel_rfl) rfl rfl (by first | rfl | omega) hs34 (by omega)) λa A↦?_
   refine sdo A (E.m_loadX M hc35 o94 rfl) λa A↦?_
   rcases sx33 with _ | _
   ·
    refine sdo (v := bV true) A (zi rfl zm) λa A↦?_
    refine qa (hK22 _ _ (wp_cond_true (A.ev rfl) ?_))
    refine wsk fun K37 hK37 => zp (S := fun w1 => Mg w w1 (.obj g2 (.cells (sC tz tc ts ro rc rs).toArray 29) :: [])) (by kernel_rfl) ?_
    replace M := M.drew
    refine qe A 0 rfl rfl rfl rfl hP (M.sub (cn (cn (cc ns)))) (λ_ M↦qz M jr rfl 0 rfl (cs := (sC tz tc ts ro rc rs)) rfl rfl) λa A↦?_
    refine qe A 1 rfl rfl rfl rfl hP (M.sub (cn (cn (cc ns)))) (λ_ M↦qp rfl) λa A↦?_
    refine zd (by kernel_rfl) (jm (L' := (.obj g6 (.cells (sC tz tc ts ro rc rs).toArray 29) :: .obj g4 (.cells (v.d.cells v.ts.length).toArray 42) :: .obj g2 (.cells (sC tz tc ts ro rc rs).toArray 29) :: [])) A M 2 rfl rfl rfl (za rfl rfl rfl (by kernel_rfl) M 0 rfl rfl rfl) 0 rfl rfl rfl ?_)
    intro w38 M
    refine ⟨(M.sub (cn (cn (cc ns)))), ?_⟩
    refine ze (by kernel_rfl) ?_
    refine hK37 _ _ (wp_ret (hret _ _ (en2 A rfl (qf rfl) (zu M jr rfl 0 rfl (cs := [.slice tz ts.length tc, .slice ro rs.length rc]) rfl rfl) ?_)))
    exact .inl ⟨by rw [qgj (show (plS (ts.map Ty.k) (rs.map Rk.k) r t i).2 = 0 by omega) hb18 hk9 hi36, if_neg (by decide)]; decide, by rw [qgj (show (plS (ts.map Ty.k) (rs.map Rk.k) r t i).2 = 0 by omega) hb18 hk9 hi36, if_neg (by decide)]; try rfl, M.bel⟩
   ·
    refine sdo (v := bV false) A (zi rfl zm) λa A↦?_
    refine qa (hK22 _ _ (wp_cond_false (A.ev rfl) ?_))
    refine wp_skip (hK21 _ _ (wsk fun K39 hK39 => wrl (xr (e := 88) (sz := 2) (m := 0) (vs := qt Rk.c []) A M rfl rfl rfl (qy rfl (by kernel_rfl)) rfl rfl (.inl (by decide)) ?_)))
    intro g40 w41 M a A
    refine sdo (v := pA g2 1) A (qb ky rfl rfl) λa A↦?_
    refine sdo A (qh M qpj rfl 3 rfl rfl) λa A↦?_
    refine jo (e := 88) (sz := 2) (k := 0) (q := 0) (m := rs.length) (xs := qt Rk.c []) (news := qt Rk.c rs) (L' := fun v42 => (.row 88 2 (v42) (0 + rs.length) (qt Rk.c [] ++ qt Rk.c rs) :: .obj g6 (.cells #[.slice none 0 0, .slice none 0 0] 29) :: .obj g4 (.cells (v.d.cells v.ts.length).toArray 42) :: .obj g2 (.cells (sC tz tc ts ro rc rs).toArray 29) :: [])) A rfl rfl rfl (xb (z := .agg #[iV 0, .slice none 0 0]) (sz := 2) (by_ := 32) Tryz.underlying27 (by kernel_rfl) rfl rfl rfl M 0 rfl rfl rfl (yt uz rs) (hR.row.below M.bel) (qhi rs) (by first | omega | (simp only [List.length_nil]; omega))) (fun _ => rfl) ?_
    intro v42 w43 M a A
    replace M : Mg w w43 (.row 88 2 (v42) rs.length (qt Rk.c rs) :: .obj g6 (.cells #[.slice none 0 0, .slice none 0 0] 29) :: .obj g4 (.cells (v.d.cells v.ts.length).toArray 42) :: .obj g2 (.cells (sC tz tc ts ro rc rs).toArray 29) :: []) := by
     have h9 := M
     rw [show 0 + rs.length = rs.length from by simp] at h9
     exact h9
    obtain ⟨so44, ca45, rfl⟩ := jg (M.has 0 rfl)
    refine sda A λa A↦?_
    refine qa (hK39 _ _ (wsk fun K46 hK46 => wrl (xr (e := 42) (sz := 11) (m := 0) (vs := cellsOf []) A M rfl rfl rfl (qy rfl (by kernel_rfl)) rfl rfl (.inl (by decide)) ?_)))
    intro g47 w48 M a A
    iterate 2 refine sdm A λa A↦?_
    obtain ⟨gl49, hggl49⟩ := qwa M 1 rfl (show 0 < rs.length by omega)
    refine sdo (v := pA gl49 (r.toNat * 2)) A (ud (k := r.toNat) Tryz.underlying27 (by kernel_rfl) rfl rfl (by omega) hggl49 (by omega)) λa A↦?_
    refine sdo (v := pA gl49 (r.toNat * 2 + 1)) A (qb zch rfl rfl) λa A↦?_
    refine sdo A (qgi (j := 1) (o := 0) uz (by decide) M 1 rfl hx hggl49 rfl kw rfl (by omega)) λa A↦?_
    refine jo (e := 42) (sz := 11) (k := 0) (q := 0) (m := x.vs.length) (xs := cellsOf []) (news := cellsOf x.vs) (L' := fun v50 => (.row 42 11 (v50) (0 + x.vs.length) (cellsOf [] ++ cellsOf x.vs) :: .row 88 2 (.slice so44 rs.length ca45) rs.length (qt Rk.c rs) :: .obj g6 (.cells #[.slice none 0 0, .slice none 0 0] 29) :: .obj g4 (.cells (v.d.cells v.ts.length).toArray 42) :: .obj g2 (.cells (sC tz tc ts ro rc rs).toArray 29) :: [])) A rfl rfl rfl (xb (z := .agg #[iV 0, iV 0, bV false, .slice none 0 0, .slice none 0 0, bV false, .slice none 0 0, .slice none 0 0, .string (⟨#[]⟩), .slice none 0 0, .slice none 0 0]) (sz := 11) (by_ := 192) Tryz.underlying34 (by kernel_rfl) rfl rfl rfl M 0 rfl rfl rfl (xx x.vs) ((zne rx.v).below M.bel) (ye x.vs) (by first | omega | (simp only [List.length_nil]; omega))) (fun _ => rfl) ?_
    intro v50 w51 M a A
    replace M : Mg w w51 (.row 42 11 (v50) x.vs.length (cellsOf x.vs) :: .row 88 2 (.slice so44 rs.length ca45) rs.length (qt Rk.c rs) :: .obj g6 (.cells #[.slice none 0 0, .slice none 0 0] 29) :: .obj g4 (.cells (v.d.cells v.ts.length).toArray 42) :: .obj g2 (.cells (sC tz tc ts ro rc rs).toArray 29) :: []) := by
     have h9 := M
     rw [show 0 + x.vs.length = x.vs.length from by simp] at h9
     exact h9
    obtain ⟨so52, ca53, rfl⟩ := jg (M.has 0 rfl)
    refine sda A λa A↦?_
    refine qa (hK46 _ _ (wsk fun K54 hK54 => wrl ?_))
    iterate 2 refine sdm A λa A↦?_
    refine sdo A (qz M xz rfl 3 rfl (cs := (v.d.cells v.ts.length)) rfl rfl) λa A↦?_
    obtain ⟨gf55, hggf55⟩ := qwa M 0 rfl (show 0 < x.vs.length by omega)
    refine sdo (v := pA gf55 ((plS (ts.map Ty.k) (rs.map Rk.k) r t i).1.toNat * 11)) A (ud (k := (plS (ts.map Ty.k) (rs.map Rk.k) r t i).1.toNat) Tryz.underlying34 (by kernel_rfl) rfl rfl (by omega) hggf55 (by omega)) λa A↦?_
    refine zah (cs := v.d.cells v.ts.length) (L' := (.row 42 11 (.slice so52 x.vs.length ca53) x.vs.length (cellsOf (x.vs.set (plS (ts.map Ty.k) (rs.map Rk.k) r t i).1.toNat v)) :: .row 88 2 (.slice so44 rs.length ca45) rs.length (qt Rk.c rs) :: .obj g6 (.cells #[.slice none 0 0, .slice none 0 0] 29) :: .obj g4 (.cells (v.d.cells v.ts.length).toArray 42) :: .obj g2 (.cells (sC tz tc ts ro rc rs).toArray 29) :: [])) A M rfl rfl (qoe hggf55 rfl rfl rfl (by kernel_rfl) M 0 rfl (by show _ + 11 ≤ _; omega) (qcf v)) hggf55 0 rfl (qlj (by omega) rfl) rfl ?_
    intro w56 M
    refine qa (hK54 _ _ (wsk fun K57 hK57 => wrl ?_))
    iterate 3 refine sdm A λa A↦?_
    refine sdo (v := pA gl49 (r.toNat * 2)) A (ud (k := r.toNat) Tryz.underlying27 (by kernel_rfl) rfl rfl (by omega) hggl49 (by omega)) λa A↦?_
    refine sdo (v := pA gl49 (r.toNat * 2 + 1)) A (qb zch rfl rfl) λa A↦?_
    refine zah (cs := [.slice so52 x.vs.length ca53]) (L' := (.row 42 11 (.slice so52 x.vs.length ca53) x.vs.length (cellsOf (x.vs.set (plS (ts.map Ty.k) (rs.map Rk.k) r t i).1.toNat v)) :: .row 88 2 (.slice so44 rs.length ca45) rs.length (over (qt Rk.c rs) (r.toNat * 2 + 1) [.slice so52 x.vs.length ca53]) :: .obj g6 (.cells #[.slice none 0 0, .slice none 0 0] 29) :: .obj g4 (.cells (v.d.cells v.ts.length).toArray 42) :: .obj g2 (.cells (sC tz tc ts ro rc rs).toArray 29) :: [])) A M rfl rfl (qoe hggl49 rfl rfl rfl (by kernel_rfl) M 1 rfl (by show _ + 1 ≤ _; omega) rfl) hggl49 1 rfl rfl rfl ?_
    intro w58 M
    replace M : Mg w w58 (.row 42 11 (.slice so52 x.vs.length ca53) x.vs.length (cellsOf (x.vs.set (plS (ts.map Ty.k) (rs.map Rk.k) r t i).1.toNat v)) :: .row 88 2 (.slice so44 rs.length ca45) rs.length (qt Rk.c (rs.set r.toNat (Rk.mk x.kd so52 ca53 (x.vs.set (plS (ts.map Ty.k) (rs.map Rk.k) r t i).1.toNat v)))) :: .obj g6 (.cells #[.slice none 0 0, .slice none 0 0] 29) :: .obj g4 (.cells (v.d.cells v.ts.length).toArray 42) :: .obj g2 (.cells (sC tz tc ts ro rc rs).toArray 29) :: []) := by
     rw [zzf hx (v := x.vs.set (plS (ts.map Ty.k) (rs.map Rk.k) r t i).1.toNat v) List.length_set] at M
     exact M
    refine qa (hK57 _ _ (wsk fun K59 hK59 => wrl (sdm A λa A↦?_)))
    refine sdo (v := pA g2 1) A (qb ky rfl rfl) λa A↦?_
    refine zq (L' := (.row 42 11 (.slice so52 x.vs.length ca53) x.vs.length (cellsOf (x.vs.set (plS (ts.map Ty.k) (rs.map Rk.k) r t i).1.toNat v)) :: .row 88 2 (.slice so44 rs.length ca45) rs.length (qt Rk.c (rs.set r.toNat (Rk.mk x.kd so52 ca53 (x.vs.set (plS (ts.map Ty.k) (rs.map Rk.k) r t i).1.toNat v)))) :: .obj g6 (.cells #[.slice none 0 0, .slice none 0 0] 29) :: .obj g4 (.cells (v.d.cells v.ts.length).toArray 42) :: .obj g2 (.cells #[.slice tz ts.length tc, .slice so44 rs.length ca45] 29) :: [])) A M rfl rfl (za rfl rfl rfl (by kernel_rfl) M 4 rfl rfl rfl) 4 rfl rfl rfl ?_
    intro w60 M
    refine qa (hK59 _ _ (wsk fun K61 hK61 => zp (S := fun w1 => Mg w w1 (.obj g2 (.cells #[.slice tz ts.length tc, .slice so44 rs.length ca45] 29) :: [])) (by kernel_rfl) ?_))
    replace M := M.drew
    refine qe A 0 rfl rfl rfl rfl hP (M.sub (cn (cn (cn (cn (cc ns)))))) (λ_ M↦qz M jr rfl 0 rfl (cs := [.slice tz ts.length tc, .slice so44 rs.length ca45]) rfl rfl) λa A↦?_
    refine qe A 1 rfl rfl rfl rfl hP (M.sub (cn (cn (cn (cn (cc ns)))))) (λ_ M↦qp rfl) λa A↦?_
    refine zd (by kernel_rfl) (jm (L' := (.row 42 11 (.slice so52 x.vs.length ca53) x.vs.length (cellsOf (x.vs.set (plS (ts.map Ty.k) (rs.map Rk.k) r t i).1.toNat v)) :: .row 88 2 (.slice so44 rs.length ca45) rs.length (qt Rk.c (rs.set r.toNat (Rk.mk x.kd so52 ca53 (x.vs.set (plS (ts.map Ty.k) (rs.map Rk.k) r t i).1.toNat v)))) :: .obj g6 (.cells #[.slice tz ts.length tc, .slice so44 rs.length ca45] 29) :: .obj g4 (.cells (v.d.cells v.ts.length).toArray 42) :: .obj g2 (.cells #[.slice tz ts.length tc, .slice so44 rs.length ca45] 29) :: [])) A M 2 rfl rfl rfl (za rfl rfl rfl (by kernel_rfl) M 2 rfl rfl rfl) 2 rfl rfl rfl ?_)
    intro w62 M
    refine ⟨(M.sub (cn (cn (cn (cn (cc ns)))))), ?_⟩
    refine ze (by kernel_rfl) ?_
    refine hK61 _ _ (wp_ret (hret _ _ (en2 A rfl (qf rfl) (zu M jr rfl 2 rfl (cs := [.slice tz ts.length tc, .slice so44 rs.length ca45]) rfl rfl) ?_)))
    replace M : Mg w w62 (.row 88 2 (.slice so44 rs.length ca45) rs.length (qt Rk.c (rs.set r.toNat (Rk.mk x.kd so52 ca53 (x.vs.set (plS (ts.map Ty.k) (rs.map Rk.k) r t i).1.toNat v)))) :: .row 42 11 (.slice so52 x.vs.length ca53) x.vs.length (cellsOf (x.vs.set (plS (ts.map Ty.k) (rs.map Rk.k) r t i).1.toNat v)) :: []) := (M.bring 1 rfl rfl).sub (cc (cc (cn (cn (cn (.refl _))))))
    exact .inr ⟨by rw [qgj (show (plS (ts.map Ty.k) (rs.map Rk.k) r t i).2 = 0 by omega) hb18 hk9 hi36, if_pos rfl], x, so44, ca45, so52, ca53, hx, rfl, M⟩
  ·
   refine gcl A M (ef rfl rfl) (qci (Dt.keep M.bel _ hv) hvb hb18) fun w64 hb63 M a A => ?_
   refine sdo (v := bV true) A (zi rfl zm) λa A↦?_
   refine qa (hK17 _ _ (wp_cond_true (A.ev rfl) ?_))
   refine wsk fun K65 hK65 => zp (S := fun w1 => Mg w w1 (.obj g2 (.cells (sC tz tc ts ro rc rs).toArray 29) :: [])) (by kernel_rfl) ?_
   replace M := M.drew
   refine qe A 0 rfl rfl rfl rfl hP (M.sub (cn (cn (cc ns)))) (λ_ M↦qz M jr rfl 0 rfl (cs := (sC tz tc ts ro rc rs)) rfl rfl) λa A↦?_
   refine qe A 1 rfl rfl rfl rfl hP (M.sub (cn (cn (cc ns)))) (λ_ M↦qp rfl) λa A↦?_
   refine zd (by kernel_rfl) (jm (L' := (.obj g6 (.cells (sC tz tc ts ro rc rs).toArray 29) :: .obj g4 (.cells (v.d.cells v.ts.length).toArray 42) :: .obj g2 (.cells (sC tz tc ts ro rc rs).toArray 29) :: [])) A M 2 rfl rfl rfl (za rfl rfl rfl (by kernel_rfl) M 0 rfl rfl rfl) 0 rfl rfl rfl ?_)
   intro w66 M
   refine ⟨(M.sub (cn (cn (cc ns)))), ?_⟩
   refine ze (by kernel_rfl) ?_
   refine hK65 _ _ (wp_ret (hret _ _ (en2 A rfl (qf rfl) (zu M jr rfl 0 rfl (cs := [.slice tz ts.length tc, .slice ro rs.length rc]) rfl rfl) ?_)))
   exact .inl ⟨by rw [qof (show (plS (ts.map Ty.k) (rs.map Rk.k) r t i).2 = 0 by omega) hb18]; decide, by rw [qof (show (plS (ts.map Ty.k) (rs.map Rk.k) r t i).2 = 0 by omega) hb18]; try rfl, M.bel⟩
structure Ro where
  kd : Int
  r : Int
  t : Int
  i : Int
  u : Ty
  vo : Option Addr
  vc : Nat
  vs : List Dt
  v : Dt
def Ro.c (o : Ro) : List Value := [.int .i64 o.kd, .int .i64 o.r, .int .i64 o.t, .int .i64 o.i, .string o.u.nm, .int .i64 o.u.par, .slice o.u.fo o.u.fs.length o.u.fc, .slice o.u.mo o.u.ms.length o.u.mc, .bool o.u.sl, .bool o.u.op, .string o.u.ui, .slice o.vo o.vs.length o.vc] ++ o.v.d.cells o.v.ts.length
theorem zfg (o : Ro) : o.c.length = 23 := rfl
structure RoR (w : World) (o : Ro) : Prop where
  ty : TyR w o.u
  rv : Rt w o.vo o.vs
  rd : ∀ d ∈ o.vs, d.rd w
  rx : o.v.rd w
  n1 : o.u.nm.size ≤ 1048576
  n2 : o.u.ui.size ≤ 1048576
  n3 : o.u.fs.length ≤ 1048576
  n4 : o.u.ms.length ≤ 1048576
  n5 : ∀ s ∈ o.u.fs, s.size ≤ 1048576
  b1 : Tr.bulks (o.vs.map Dt.tr) ≤ 1048576
  b2 : o.v.tr.bulk ≤ 1048576
structure Rops (w : World) (so : Option Addr) (ops : List Ro) : Prop where
  row : Rc w so (qt Ro.c ops)
  own : ∀ o ∈ ops, RoR w o
theorem Rops.at_ {w : World} {so : Option Addr} {ops : List Ro} (h : Rops w so ops) {i : Nat} (hi : i < ops.length) : ∃ o b off, ops[i]? = some o ∧ RoR w o ∧ so = some ⟨b, off, none⟩ ∧ Here w b (off + i * 23) o.c := by
  have e : ops[i]? = some ops[i] := List.getElem?_eq_getElem hi
  obtain ⟨b, o, h1, h2⟩ := uq zfg (by decide) h.row e
  exact ⟨ops[i], b, o, e, h.own _ (List.getElem_mem hi), h1, h2⟩
theorem zzg (o : Ro) : o.c.all Value.oneCell' = true := by
  unfold Ro.c
  rw [List.all_append, show (o.v.d.cells o.v.ts.length).all Value.oneCell' = true from qcf o.v]
  rfl
theorem zme {vs cs : List Value} (h : vs.length = cs.length) : over vs 0 cs = cs := by
  rw [qtc (by omega), List.take_zero, List.nil_append, List.drop_eq_nil_of_le (by omega), List.append_nil]
theorem qse (t : Tr) : ∀ n : Nat, Tr.bulks (List.replicate n t) = n * t.bulk
  | 0 => by simp [Tr.bulks]
  | n + 1 => by rw [List.replicate_succ, Tr.bulks, qse t n, Nat.add_mul, Nat.one_mul, Nat.add_comm]
def Pst.sc (P : Pst) : List Value := [.slice P.tz P.ts.length P.tc, .slice P.ro P.rs.length P.rc]
def DL (w0 : World) (X : List Ck) (D : Pst) : Prop := ∀ w, Mg w0 w X → TR w D.tz D.ts ∧ RR w D.ro D.rs
theorem DL.more {w0 : World} {X : List Ck} {D : Pst} (h : DL w0 X D) (F : List Ck) : DL w0 (F ++ X) D := fun w M => h w (M.sub (List.sublist_append_right _ _))
section
variable {w0 w : World} {b : Nat} {P D : Pst} {EE X : List Ck} {ks : List TK} {rr : List (Nat × List Tr)}
theorem inX (M : Mg w0 w (EE ++ (P.pcs b ++ X))) : Mg w0 w X := M.sub ((List.sublist_append_right _ _).trans (List.sublist_append_right _ _))
theorem qbj (hP : PL w0 X P) (hE : jd EE) : jd (EE ++ (P.pcs b ++ X)) := jz hE (jz (jz (qzf _ _) (qha _)) hP.nb)
theorem zri {N : List Ck} (h : Mg w0 w (N ++ (EE ++ (P.pcs b ++ X)))) : Mg w0 w (EE ++ (P.pcs b ++ (N ++ X))) := by
 refine h.perm ?_
 refine (List.perm_append_comm_assoc N EE _).trans (List.Perm.append_left EE ?_)
 exact List.perm_append_comm_assoc N _ X
theorem zzh (hD : DL w0 X D) (hks : D.ks = ks) (hrr : D.rr = rr) (hW : WS ks rr) (hP : PL w0 X P) (hE : jd EE) {u : Ty} (hU : TyR w0 u) (hul : u.fs.length ≤ 2000000) (hum : u.ms.length ≤ 2000000) (M : Mg w0 w (EE ++ (P.pcs b ++ X))) : Calls Tryz.prog 9 #[.agg D.sc.toArray, .agg u.c.toArray] w fun e w' => ∃ (D' : Pst) (F : List Ck), e = .returned (.tuple #[iV (tyS ks u.k).1, iV (tyS ks u.k).2.1, .agg D'.sc.toArray]) ∧ (DL w0 (F ++ X) D' ∧ jd F ∧ D'.ks = (if (tyS ks u.k).2.2 = true then ks ++ [u.k] else ks) ∧ D'.rr = rr) ∧ Mg w0 w' (EE ++ (P.pcs b ++ (F ++ X))) := by
 subst hks hrr
 have S := hD w (inX M)
 refine (zma (tc := D.tc) (rc := D.rc) S.1 S.2 hW (hU.below M.bel) hul hum).mono ?_
 rintro e w' (⟨hq, rfl, h1⟩ | ⟨hq, tz', tc', rfl, h1⟩)
 ·
  exact ⟨D, [], rfl, ⟨hD, (fun c hc => by cases hc), by rw [if_neg (by rw [show (tyS D.ks u.k).2.2 = false from hq]; decide)], rfl⟩, M.call h1⟩
 ·
  have hty : tyS D.ks u.k = (((D.ts.length : Nat) : Int), 0, true) := by
   have hq0 : (tyS D.ks u.k).2.2 = true := hq
   unfold tyS at hq0 ⊢
   split at hq0
   ·
    rename_i a1
    split at hq0
    ·
     split at hq0 <;> cases hq0
    ·
     rename_i a2
     split at hq0
     ·
      cases hq0
     ·
      rename_i a3
      split at hq0
      ·
       rename_i a4
       rw [if_pos a1, if_neg a2, if_neg a3, if_pos a4, Pst.ks, List.length_map]
      ·
       cases hq0
   ·
    cases hq0
  refine ⟨⟨tz', tc', D.ts ++ [u], D.ro, D.rc, D.rs⟩, [.row 33 7 (.slice tz' (D.ts ++ [u]).length tc') (D.ts ++ [u]).length (qt Ty.c (D.ts ++ [u]))], by rw [hty]; rfl, ⟨fun w9 h9 => ⟨⟨rc_own (h9.has 0 rfl), fun y hy => ?_⟩, (hD w9 (h9.sub (List.sublist_append_right _ _))).2⟩, qi (by simp) (qk qm), by rw [hty, if_pos rfl]; show (D.ts ++ [u]).map Ty.k = _; rw [List.map_append]; rfl, rfl⟩, zri (M.both h1 (qbj hP hE) (qi (by simp) (qk qm)))⟩
  rcases List.mem_append.1 hy with h | h
  ·
   exact (hD w9 (h9.sub (List.sublist_append_right _ _))).1.own y h
  ·
   rw [List.mem_singleton.1 h]; exact hU.below h9.bel
theorem zrj (hD : DL w0 X D) (hks : D.ks = ks) (hrr : D.rr = rr) (hW : WS ks rr) (hP : PL w0 X P) (hE : jd EE) {vo : Option Addr} {vc : Nat} {vs : List Dt} (hV : Rt w vo vs) (hd0 : ∀ d ∈ vs, d.rd w0) (hvb : ∀ d ∈ vs, d.tr.bulk ≤ 4000000) (hvl : vs.length ≤ 2000000) (t : Int) {n : Nat} {trs : List Tr} (hn : rr.length = n) (htr : vs.map Dt.tr = trs) (M : Mg w0 w (EE ++ (P.pcs b ++ X))) : Calls Tryz.prog 11 #[.agg D.sc.toArray, iV t, .slice vo vs.length vc] w fun e w' => ∃ (D' : Pst) (F : List Ck), e = .returned (.tuple #[iV (mkS ks n t trs).1, iV (mkS ks n t trs).2.1, .agg D'.sc.toArray]) ∧ (DL w0 (F ++ X) D' ∧ jd F ∧ D'.ks = ks ∧ D'.rr = (if (mkS ks n t trs).2.2 = true then rr ++ [(t.toNat, trs)] else rr)) ∧ Mg w0 w' (EE ++ (P.pcs b ++ (F ++ X))) := by
 subst hks hrr htr
 have hn2 : D.rs.length = n := by rw [← hn]; exact (List.length_map _).symm
 subst hn2
 have S := hD w (inX M)
 refine (zmd (tc := D.tc) (rc := D.rc) S.1 S.2 hW hV (fun d hd => Dt.keep M.bel _ (hd0 d hd)) hvb hvl).mono ?_
 rintro e w' (⟨hq, rfl, h1⟩ | ⟨hq, ro', rc', vo', vc', rfl, h1⟩)
 ·
  exact ⟨D, [], rfl, ⟨hD, (fun c hc => by cases hc), rfl, by rw [if_neg (by rw [show (mkS D.ks D.rs.length t (vs.map Dt.tr)).2.2 = false from hq]; decide)]⟩, M.call h1⟩
 ·
  have hmk : mkS D.ks D.rs.length t (vs.map Dt.tr) = (((D.rs.length : Nat) : Int), 0, true) := by
   have hq0 : (mkS D.ks D.rs.length t (vs.map Dt.tr)).2.2 = true := hq
   unfold mkS at hq0 ⊢
   split at hq0
   ·
    rename_i a1
    split at hq0
    ·
     rename_i a2
     split at hq0
     ·
      rename_i a3
      split at hq0
      ·
       rename_i a4; rw [if_pos a1, if_pos a2, if_pos a3, if_pos a4]
      ·
       cases hq0
     ·
      cases hq0
    ·
     cases hq0
   ·
    cases hq0
  refine ⟨⟨D.tz, D.tc, D.ts, ro', rc', D.rs ++ [Rk.mk t.toNat vo' vc' vs]⟩, [.row 88 2 (.slice ro' (D.rs ++ [Rk.mk t.toNat vo' vc' vs]).length rc') (D.rs ++ [Rk.mk t.toNat vo' vc' vs]).length (qt Rk.c (D.rs ++ [Rk.mk t.toNat vo' vc' vs])), .row 42 11 (.slice vo' vs.length vc') vs.length (cellsOf vs)], by rw [hmk]; rfl, ⟨fun w9 h9 => ⟨(hD w9 (h9.sub (List.sublist_append_right _ _))).1, rc_own (h9.has 0 rfl), fun y hy => ?_⟩, qi (by simp) (qi (by simp) (qk qm)), rfl, by rw [hmk, if_pos rfl]; show (D.rs ++ [Rk.mk t.toNat vo' vc' vs]).map Rk.k = _; rw [List.map_append]; rfl⟩, zri (M.both h1 (qbj hP hE) (qi (by simp) (qi (by simp) (qk qm))))⟩
  rcases List.mem_append.1 hy with h | h
  ·
   exact (hD w9 (h9.sub (List.sublist_append_right _ _))).2.own y h
  ·
   rw [List.mem_singleton.1 h]
   exact ⟨(qea (h9.has 1 rfl)).1, fun d hd => Dt.keep h9.bel _ (hd0 d hd)⟩
theorem jbg (hD : DL w0 X D) (hks : D.ks = ks) (hrr : D.rr = rr) (hW : WS ks rr) (hP : PL w0 X P) (hE : jd EE) {v : Dt} (hv0 : v.rd w0) (hvb : v.tr.bulk ≤ 4000000) (r t i : Int) (M : Mg w0 w (EE ++ (P.pcs b ++ X))) : Calls Tryz.prog 17 #[.agg D.sc.toArray, iV r, iV t, iV i, .agg (v.d.cells v.ts.length).toArray] w fun e w' => ∃ (D' : Pst) (F : List Ck), e = .returned (.tuple #[iV (seS ks rr r t i v.tr), .agg D'.sc.toArray]) ∧ (DL w0 (F ++ X) D' ∧ jd F ∧ D'.ks = ks ∧ D'.rr = (if seS ks rr r t i v.tr = 0 then qzc rr r.toNat (plS ks rr r t i).1.toNat v.tr else rr)) ∧ Mg w0 w' (EE ++ (P.pcs b ++ (F ++ X))) := by
 subst hks hrr
 have S := hD w (inX M)
 refine (zrh (tc := D.tc) (rc := D.rc) S.1 S.2 hW (Dt.keep M.bel _ hv0) hvb).mono ?_
 rintro e w' (⟨hq, rfl, h1⟩ | ⟨hq, x, ro', rc', vo', vc', hx, rfl, h1⟩)
 ·
  exact ⟨D, [], rfl, ⟨hD, (fun c hc => by cases hc), rfl, by rw [if_neg (show ¬ seS D.ks D.rr r t i v.tr = 0 from hq)]⟩, M.call h1⟩
 ·
  have hq2 : seS D.ks D.rr r t i v.tr = 0 := hq
  have hln : (D.rs.set r.toNat (Rk.mk x.kd vo' vc' (x.vs.set (plS D.ks D.rr r t i).1.toNat v))).length = D.rs.length := List.length_set
  have hlv : (x.vs.set (plS D.ks D.rr r t i).1.toNat v).length = x.vs.length := List.length_set
  refine ⟨⟨D.tz, D.tc, D.ts, ro', rc', D.rs.set r.toNat (Rk.mk x.kd vo' vc' (x.vs.set (plS D.ks D.rr r t i).1.toNat v))⟩, [.row 88 2 (.slice ro' D.rs.length rc') D.rs.length (qt Rk.c (D.rs.set r.toNat (Rk.mk x.kd vo' vc' (x.vs.set (plS D.ks D.rr r t i).1.toNat v)))), .row 42 11 (.slice vo' x.vs.length vc') x.vs.length (cellsOf (x.vs.set (plS D.ks D.rr r t i).1.toNat v))], by rw [hq2]; unfold Pst.sc; dsimp only; rw [hln], ⟨fun w9 h9 => ⟨(hD w9 (h9.sub (List.sublist_append_right _ _))).1, rc_own (h9.has 0 rfl), fun y hy => ?_⟩, qi (by simp) (qi (by simp) (qk qm)), rfl, ?_⟩, zri (M.both h1 (qbj hP hE) (qi (by simp) (qi (by simp) (qk qm))))⟩
  ·
   have h8 := hD w9 (h9.sub (List.sublist_append_right _ _))
   rcases qae hy with h | h
   ·
    exact h8.2.own y h
   ·
    rw [h]
    refine ⟨?_, fun d hd => ?_⟩
    ·
     have h7 := h9.has 1 rfl
     rw [← hlv] at h7
     exact (qea h7).1
    ·
     rcases qae hd with h | h
     ·
      exact (h8.2.own x (List.mem_of_getElem? hx)).d d h
     ·
      rw [h]; exact Dt.keep h9.bel _ hv0
  ·
   rw [if_pos hq2, show qzc D.rr r.toNat (plS D.ks D.rr r t i).1.toNat v.tr = _ from zhi (xg hx)]
   show (D.rs.set r.toNat (Rk.mk x.kd vo' vc' (x.vs.set (plS D.ks D.rr r t i).1.toNat v))).map Rk.k = _
   rw [List.map_set]
   show (D.rs.map Rk.k).set _ (x.kd, (x.vs.set (plS D.ks D.rr r t i).1.toNat v).map Dt.tr) = _
   rw [List.map_set]; rfl
theorem jbh (hD : DL w0 X D) (hks : D.ks = ks) (hrr : D.rr = rr) (hW : WS ks rr) (hP : PL w0 X P) (hE : jd EE) (r t i : Int) (M : Mg w0 w (EE ++ (P.pcs b ++ X))) : Calls Tryz.prog 14 #[.agg D.sc.toArray, iV r, iV t, iV i] w fun e w' => ∃ d2 : Dt, e = .returned (.tuple #[.agg (d2.d.cells d2.ts.length).toArray, iV (plS ks rr r t i).2]) ∧ ((∀ w9, Mg w0 w9 X → d2.rd w9) ∧ d2.tr = gtT ks rr r t i) ∧ Mg w0 w' (EE ++ (P.pcs b ++ X)) := by
 subst hks hrr
 have S := hD w (inX M)
 refine (zrg (tc := D.tc) (rc := D.rc) S.1 S.2 hW).mono ?_
 rintro e w' ⟨d2, h1, ⟨h2, h3⟩, h4⟩
 refine ⟨d2, h1, ⟨fun w9 h9 => ?_, h3⟩, M.call h4⟩
 rcases h2 with rfl | ⟨x, hx, hd⟩
 ·
  exact qxf _
 ·
  exact ((hD w9 h9).2.own x hx).d d2 hd
theorem jcb (hD : DL w0 X D) (hks : D.ks = ks) (hrr : D.rr = rr) (hW : WS ks rr) (hP : PL w0 X P) (hE : jd EE) (r t : Int) (M : Mg w0 w (EE ++ (P.pcs b ++ X))) : Calls Tryz.prog 19 #[.agg D.sc.toArray, iV r, iV t] w fun e w' => e = .returned (.tuple #[bV (isS ks rr r t).1, iV (isS ks rr r t).2]) ∧ Mg w0 w' (EE ++ (P.pcs b ++ X)) := by
 subst hks hrr
 have S := hD w (inX M)
 exact (zid (tc := D.tc) (rc := D.rc) S.1 S.2 hW).mono fun e w' h => ⟨h.1, M.call h.2⟩
theorem zsa (hD : DL w0 X D) (hks : D.ks = ks) (hrr : D.rr = rr) (hW : WS ks rr) (hP : PL w0 X P) (hE : jd EE) (r : Int) (M : Mg w0 w (EE ++ (P.pcs b ++ X))) : Calls Tryz.prog 21 #[.agg D.sc.toArray, iV r] w fun e w' => e = .returned (.tuple #[iV (yv ks rr r).1, iV (yv ks rr r).2]) ∧ Mg w0 w' (EE ++ (P.pcs b ++ X)) := by
 subst hks hrr
 have S := hD w (inX M)
 exact (zag (tc := D.tc) (rc := D.rc) S.1 S.2 hW).mono fun e w' h => ⟨h.1, M.call h.2⟩
theorem zxa {t : Int} (h : okT ks.length t = true) : flS ks t = (((cnt ks t : Nat) : Int), 0) := if_pos h
theorem zxb {t : Int} (h : okT ks.length t = false) : flS ks t = (0, 7) := if_neg (by rw [h]; decide)
theorem qpf (hD : DL w0 X D) (hks : D.ks = ks) (hrr : D.rr = rr) (hW : WS ks rr) (hP : PL w0 X P) (hE : jd EE) (t : Int) {z : Int × Int} (hz : flS ks t = z) (M : Mg w0 w (EE ++ (P.pcs b ++ X))) : Calls Tryz.prog 12 #[.agg D.sc.toArray, iV t] w fun e w' => e = .returned (.tuple #[iV z.1, iV z.2]) ∧ Mg w0 w' (EE ++ (P.pcs b ++ X)) := by
 subst hks hrr hz
 have S := hD w (inX M)
 exact (qbi (tc := D.tc) (rc := D.rc) S.1 S.2 hW).mono fun e w' h => ⟨h.1, M.call h.2⟩
/-! The program's calls that only ask -/
theorem zzi (hP : PL w0 X P) (hE : jd EE) (r t i : Int) (M : Mg w0 w (EE ++ (P.pcs b ++ X))) : Calls Tryz.prog 13 #[pA b 0, iV r, iV t, iV i] w fun e w' => ∃ (d2 : Dt) (F : List Ck), e = .returned (.tuple #[.agg (d2.d.cells d2.ts.length).toArray, iV (plS P.ks P.rr r t i).2]) ∧ (Lives F d2 ∧ d2.tr = gtT P.ks P.rr r t i ∧ jd F) ∧ Mg w0 w' (EE ++ (P.pcs b ++ (F ++ X))) := by
 refine (zhf (hP.sr M) hP.ws).mono ?_
 rintro e w' ⟨d2, h1, ⟨h2, h3, h4⟩, h5⟩
 exact ⟨d2, made w w', h1, ⟨qmb h2 h4, h3, qxi⟩, zri (M.freeze (qbj hP hE) h5)⟩
theorem jcc (hP : PL w0 X P) (r t : Int) (M : Mg w0 w (EE ++ (P.pcs b ++ X))) : Calls Tryz.prog 18 #[pA b 0, iV r, iV t] w fun e w' => e = .returned (.tuple #[bV (isS P.ks P.rr r t).1, iV (isS P.ks P.rr r t).2]) ∧ Mg w0 w' (EE ++ (P.pcs b ++ X)) :=
 (zph (hP.sr M) hP.ws).mono fun e w' h => ⟨h.1, M.call h.2⟩
theorem zsb (hP : PL w0 X P) (r : Int) (M : Mg w0 w (EE ++ (P.pcs b ++ X))) : Calls Tryz.prog 20 #[pA b 0, iV r] w fun e w' => e = .returned (.tuple #[iV (yv P.ks P.rr r).1, iV (yv P.ks P.rr r).2]) ∧ Mg w0 w' (EE ++ (P.pcs b ++ X)) :=
 (zef (hP.sr M) hP.ws).mono fun e w' h => ⟨h.1, M.call h.2⟩
theorem zai (hP : PL w0 X P) (t : Int) {z : Int × Int} (hz : flS P.ks t = z) (M : Mg w0 w (EE ++ (P.pcs b ++ X))) : Calls Tryz.prog 22 #[pA b 0, iV t] w fun e w' => e = .returned (.tuple #[iV z.1, iV z.2]) ∧ Mg w0 w' (EE ++ (P.pcs b ++ X)) := by
 subst hz
 exact (zee (hP.sr M) hP.ws).mono fun e w' h => ⟨h.1, M.call h.2⟩
theorem zxc (hP : PL w0 X P) (hE : jd EE) (t : Int) {q : Bool} (hq : okT P.ks.length t = q) (M : Mg w0 w (EE ++ (P.pcs b ++ X))) : Calls Tryz.prog 23 #[pA b 0, iV t] w fun e w' => ∃ (t2 : Ty) (F : List Ck), e = .returned (.tuple #[.agg t2.c.toArray, iV (if q = true then 0 else 7)]) ∧ ((q = true → P.ks[t.toNat]? = some t2.k) ∧ (∀ w9, Mg w0 w9 F → TyR w9 t2) ∧ jd F) ∧ Mg w0 w' (EE ++ (P.pcs b ++ (F ++ X))) := by
 refine (zug (hP.sr M) hP.ws).mono ?_
 rintro e w' ⟨t2, ev, rfl, h2, h3⟩
 rw [Pst.ks, List.length_map] at hq
 refine ⟨t2, [.row 9 1 (.slice t2.fo t2.fs.length t2.fc) t2.fs.length (E.strC t2.fs), .row 4 1 (.slice t2.mo t2.ms.length t2.mc) t2.ms.length (E.boolC t2.ms)], ?_, ⟨?_, fun w9 h9 => ⟨E.rc_own (h9.has 0 rfl), E.rc_own (h9.has 1 rfl)⟩, qi (by simp) (qi (by simp) (qk qm))⟩, zri (M.both h3 (qbj hP hE) (qi (by simp) (qi (by simp) (qk qm))))⟩
 ·
  rcases h2 with ⟨a1, rfl, _⟩ | ⟨a1, rfl⟩
  ·
   rw [show q = true from hq.symm.trans a1, if_pos rfl]
  ·
   rw [show q = false from hq.symm.trans a1, if_neg (by decide)]
 ·
  intro h
  rcases h2 with ⟨_, _, a2⟩ | ⟨a1, _⟩
  ·
   exact a2
  ·
   rw [hq, h] at a1; cases a1
theorem zsc {Pr : Program} {l : List (Nat × Value)} {dst : Option Tmp} {ty : TypeId} {pos : String} {after : Array Edge} {guard : Option (Nat × Bool)} (hD : DL w0 X D) (hX : Mg w0 w X) {i b o : Nat} {y : Ty} (hi : D.ts[i]? = some y) (hso : D.tz = some ⟨b, o, none⟩) {t : TypeId} (ht : IsS Pr t 7) {x : Operand} (hx : ev l x = some (pA b (o + i * 7))) : Does Pr l ⟨dst, .load t x, ty, pos, after, guard⟩ w (.agg y.c.toArray) w := by
 obtain ⟨b', o', e1, h1⟩ := uq qmd (by decide) (hD w hX).1.row hi
 rw [hso] at e1
 cases e1
 exact zje h1 ht hx rfl
end
end Go.Proofs.YtokgmpjblnpjmaaGreatDoor.G
