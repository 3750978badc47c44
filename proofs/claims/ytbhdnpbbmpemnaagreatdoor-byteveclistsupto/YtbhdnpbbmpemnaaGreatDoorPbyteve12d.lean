/- Fields of bits. Walks of fields of bits. Sound numbers as pairs of rational numbers. Operators on texts. The numbers are a field. Quotients of whole numbers, downwards, and the order of rational ones. Quotient and rest of real numbers. Facts of the order of real numbers. And, Or, Xor and Not as whole numbers. Powers of numbers. Shifts and fields of bits as products, quotients and rests. Numbers that come in as arguments. -/
import Derived.Test.YtbhdnpbbmpemnaaGreatDoorPbyteve12c
import Derived.Test.YtbhdnpbbmpemnaaGreatDoorTxtD
import Derived.Test.YtbhdnpbbmpemnaaGreatDoorArgs
import Derived.WalkKit
import Derived.ProofKit
import Derived.OpenShut
import Derived.ChangeOld
import Derived.Lib.SmallJoins
import Derived.Deep.Strs
namespace Go.Proofs.YtbhdnpbbmpemnaaGreatDoor
open Go.RowKit
set_option linter.unusedVariables false
set_option linter.unusedSimpArgs false

/-- The bit k of a row without end. -/
def qrh (b : Bool) (y k : Nat) : Nat := (y.testBit k ^^ b).toNat
theorem zjd (b : Bool) (y k : Nat) : qrh b y k ≤ 1 := Bool.toNat_le _
/-- The bits from s on, so many, as a number. -/
def fld (b : Bool) (y s : Nat) : Nat → Nat
  | 0 => 0
  | c + 1 => fld b y s c + qrh b y (s + c) * 2 ^ c
theorem zeb (b : Bool) (y s : Nat) : ∀ c, fld b y s c < 2 ^ c
  | 0 => by simp [fld]
  | c + 1 => by
    have h1 := zeb b y s c
    have h2 := zjd b y (s + c)
    have h3 : qrh b y (s + c) * 2 ^ c ≤ 1 * 2 ^ c := Nat.mul_le_mul_right _ h2
    unfold fld
    rw [Nat.pow_succ]
    omega
theorem qri (b : Bool) (y s : Nat) : ∀ c, fld b (y / 2 ^ s) 0 c = fld b y s c
  | 0 => rfl
  | c + 1 => by
    unfold fld
    rw [qri b y s c]
    unfold qrh
    rw [Nat.zero_add, Nat.testBit_div_two_pow, Nat.add_comm c s]
/-- A number's lowest bits are told by its bits. -/
theorem qrj {X b y : Nat} {B : Bool} : ∀ c, (∀ k, k < c → X / 2 ^ k % 2 = qrh B y k) → X % 2 ^ c = fld B y 0 c
  | 0, _ => by simp [fld, Nat.mod_one]
  | c + 1, h => by
    have ih := qrj (X := X) (b := b) c (fun k hk => h k (by omega))
    have e := h c (by omega)
    unfold fld
    rw [Nat.zero_add, ← e, ← ih, Nat.pow_succ, Nat.mod_mul, Nat.mul_comm (X / 2 ^ c % 2)]
theorem zje {b : Bool} {y J r : Nat} (hr : r < 32) : rwd b y J / 2 ^ r % 2 = qrh b y (32 * J + r) := by
  rw [← Nat.toNat_testBit]
  unfold qrh rwd
  rw [Nat.testBit_xor]
  have e1 : (y / pw J % 4294967296).testBit r = y.testBit (32 * J + r) := by
    rw [show (4294967296 : Nat) = 2 ^ 32 from rfl, Nat.testBit_mod_two_pow, pw_two, Nat.testBit_div_two_pow, Nat.add_comm r]
    simp [hr]
  have e2 : (b.toNat * 4294967295).testBit r = b := by
    cases b with
    | false => simp
    | true =>
      show (1 * 4294967295).testBit r = true
      rw [Nat.one_mul, show (4294967295 : Nat) = 2 ^ 32 - 1 from rfl, Nat.testBit_two_pow_sub_one]
      simp [hr]
  rw [e1, e2]
/-- A bit of a list of words. -/
theorem zjf {l : List Nat} (hd : Dig l) (k : Nat) : val l / 2 ^ k % 2 = l.getD (k / 32) 0 / 2 ^ (k % 32) % 2 := by
  have h1 : l.getD (k / 32) 0 = val l / pw (k / 32) % 4294967296 := by
    have h2 := val_split l (k / 32)
    by_cases hk : k / 32 < l.length
    · have hm : min (k / 32) l.length = k / 32 := by omega
      rw [hm] at h2
      have h3 : val (l.take (k / 32)) < pw (k / 32) := by
        have := val_lt (hd.take (k / 32))
        rwa [List.length_take, hm] at this
      have h4 : val l / pw (k / 32) = val (l.drop (k / 32)) := by
        rw [h2, Nat.add_mul_div_left _ _ (pw_pos _), Nat.div_eq_of_lt h3, Nat.zero_add]
      rw [h4, List.drop_eq_getElem_cons hk, val_cons, Nat.add_mul_mod_self_left, Nat.mod_eq_of_lt (hd _ (List.getElem_mem hk))]
      simp [hk]
    · have : val l < pw (k / 32) := Nat.lt_of_lt_of_le (val_lt hd) (pw_le (by omega))
      rw [Nat.div_eq_of_lt this]
      simp [List.getD_eq_getElem?_getD, List.getElem?_eq_none (by omega : l.length ≤ k / 32)]
  rw [h1, ← Nat.toNat_testBit, ← Nat.toNat_testBit, show (4294967296 : Nat) = 2 ^ 32 from rfl, Nat.testBit_mod_two_pow, pw_two, Nat.testBit_div_two_pow]
  have e : k % 32 + 32 * (k / 32) = k := by omega
  rw [e]
  have : k % 32 < 32 := Nat.mod_lt _ (by decide)
  simp [this]
theorem zec {b : Bool} {y n k : Nat} (h : k / 32 < n) : (ue b y n).getD (k / 32) 0 / 2 ^ (k % 32) % 2 = qrh b y k := by
  rw [qdb h, zje (Nat.mod_lt _ (by decide))]
  congr 1
  omega
theorem qja {b : Bool} {y n c : Nat} (h : c ≤ 32 * n) : val (ue b y n) % 2 ^ c = fld b y 0 c :=
  qrj (b := 0) c (fun k hk => by rw [zjf (qij _ _ _), zec (by omega)])
/-- The last word cut down. -/
theorem zed {l : List Nat} {n r : Nat} (hd : Dig l) (hl : l.length = n + 1) : val (l.set n (l.getD n 0 &&& (2 ^ r - 1))) = val l % (pw n * 2 ^ r) := by
  have e : l.getD n 0 &&& (2 ^ r - 1) = l.getD n 0 % 2 ^ r := Nat.and_two_pow_sub_one_eq_mod _ _
  have h1 : val l = val (l.take n) + pw n * l.getD n 0 := by
    have := val_take_succ l n
    rwa [List.take_of_length_le (by omega)] at this
  have h2 : val (l.set n (l.getD n 0 % 2 ^ r)) = val (l.take n) + pw n * (l.getD n 0 % 2 ^ r) := by
    have := val_set_take l n (l.getD n 0 % 2 ^ r) (by omega)
    rwa [List.take_of_length_le (by rw [List.length_set]; omega)] at this
  have h3 : val (l.take n) < pw n := by
    have := val_lt (hd.take n)
    rwa [List.length_take, Nat.min_eq_left (by omega)] at this
  rw [e, h2, Nat.mod_mul, h1, Nat.add_mul_mod_self_left, Nat.mod_eq_of_lt h3, Nat.add_mul_div_left _ _ (pw_pos _), Nat.div_eq_of_lt h3, Nat.zero_add]
/-- A number's words, in a list of a given length. -/
def Pads (F n : Nat) (l : List Nat) : Prop := l.length = n ∧ ∀ j, l.getD j 0 = F / pw j % 4294967296
theorem Pads.start (n : Nat) : Pads 0 n (List.replicate n 0) := ⟨by simp, fun j => by simp [List.getD_eq_getElem?_getD, List.getElem?_replicate]; split <;> rfl⟩
theorem Pads.step {F n k t : Nat} {l : List Nat} (h : Pads F n l) (hF : F < 2 ^ k) (ht : t ≤ 1) (hk : k / 32 < n) : Pads (F + t * 2 ^ k) n (l.set (k / 32) (l.getD (k / 32) 0 ||| t * 2 ^ (k % 32))) := by
  have hk2 : 2 ^ k = pw (k / 32) * 2 ^ (k % 32) := by rw [pw_two, ← Nat.pow_add]; congr 1; omega
  have hr : 2 ^ (k % 32) ≤ 2 ^ 31 := Nat.pow_le_pow_right (by omega) (by omega)
  have hq : F / pw (k / 32) < 2 ^ (k % 32) := by
    rw [Nat.div_lt_iff_lt_mul (pw_pos _), Nat.mul_comm, ← hk2]
    exact hF
  have hold : l.getD (k / 32) 0 = F / pw (k / 32) := by
    rw [h.2, Nat.mod_eq_of_lt (by omega)]
  refine ⟨by rw [List.length_set]; exact h.1, fun j => ?_⟩
  rw [qrg _ _ _ _ (by rw [h.1]; exact hk)]
  by_cases e : k / 32 = j
  · subst e
    have h8 : t * 2 ^ (k % 32) ≤ 1 * 2 ^ (k % 32) := Nat.mul_le_mul_right _ ht
    have h9 : (2 : Nat) ^ 31 = 2147483648 := rfl
    have e1 : (F / pw (k / 32) ||| t * 2 ^ (k % 32)) = t * 2 ^ (k % 32) + F / pw (k / 32) := by
      rw [Nat.or_comm]
      exact or_add t (F / pw (k / 32)) (k % 32) hq
    have e2 : (F + t * 2 ^ k) / pw (k / 32) = F / pw (k / 32) + t * 2 ^ (k % 32) := by
      rw [hk2, Nat.mul_left_comm t, Nat.add_mul_div_left _ _ (pw_pos _)]
    rw [if_pos rfl, hold, e1, e2, Nat.mod_eq_of_lt (show F / pw (k / 32) + t * 2 ^ (k % 32) < 4294967296 from by omega), Nat.add_comm]
  · rw [if_neg e, h.2]
    by_cases hlt : j < k / 32
    · have : 2 ^ k = pw j * (4294967296 * (pw (k / 32 - j - 1) * 2 ^ (k % 32))) := by
        rw [hk2, show k / 32 = j + (1 + (k / 32 - j - 1)) by omega, pw_add, pw_add]
        have : pw 1 = 4294967296 := by rw [pw_succ, pw_zero]
        rw [this, Nat.mul_assoc, Nat.mul_assoc]
        congr 3
        congr 1
        omega
      rw [this, Nat.mul_left_comm t, Nat.add_mul_div_left _ _ (pw_pos _), Nat.mul_left_comm t, Nat.add_mul_mod_self_left]
    · have h1 : pw (k / 32 + 1) ≤ pw j := pw_le (by omega)
      rw [pw_succ] at h1
      have h2 : F + t * 2 ^ k < pw j := by
        have : t * 2 ^ k ≤ 1 * 2 ^ k := Nat.mul_le_mul_right _ ht
        have h3 : 2 ^ k ≤ pw (k / 32) * 2 ^ 31 := by rw [hk2]; exact Nat.mul_le_mul_left _ hr
        have : (2 : Nat) ^ 31 = 2147483648 := rfl
        omega
      rw [Nat.div_eq_of_lt h2, Nat.div_eq_of_lt (by omega)]
def qvf (q : Q6) (s e : Int) : Q6 × Int :=
  if xm q = 0 then (if s < 0 ∨ e < s ∨ 16384 < e then (Q6.zero, 1) else (Q6.whole false (fld q.b1 (val q.t1 - q.b1.toNat) s.toNat (e - s).toNat), 0)) else (Q6.zero, xm q)
theorem qai {b : Bool} {x S E : Nat} (h : xm (Q6.whole b x) = 0) (h1 : S ≤ E) (h2 : E ≤ 16384) : qvf (Q6.whole b x) (S : Int) (E : Int) = (Q6.whole false (fld b (x - b.toNat) S (E - S)), 0) := by
  unfold qvf
  rw [if_pos h, if_neg (by omega)]
  simp only [Q6.whole, val_words, Int.toNat_natCast]
  rw [show ((E : Int) - (S : Int)).toNat = E - S from by omega]
theorem qwf {b : Bool} {y s c : Nat} (h : c ≤ 16384) : (words (fld b y s c)).length ≤ 512 := by
  apply words_length_le
  have h1 := zeb b y s c
  have h2 : pw 512 = 2 ^ (32 * 512) := pw_two 512
  have h3 : c ≤ 32 * 512 := h
  generalize 32 * 512 = K at h2 h3
  rw [h2]
  exact Nat.lt_of_lt_of_le h1 (Nat.pow_le_pow_right (Nat.zero_lt_succ 1) h3)
section
variable {P : Program} {t : TypeId} {a b : Operand}
theorem zjg {n : Nat} (hn : n ≤ 1000000000) : ∀ w, (do eqGuard .quo t a b (.int .i64 ((n : Nat) : Int)) (.int .i64 32); binOp .quo t (.int .i64 ((n : Nat) : Int)) (.int .i64 32) : Sem Value).run P w = .ok (.int .i64 ((n / 32 : Nat) : Int)) w := fun w => by
  have e : ((n : Nat) : Int).tdiv 32 = ((n / 32 : Nat) : Int) := by rw [Int.tdiv_eq_ediv_of_nonneg (by omega)]; omega
  have h := ji (a := ((n / 32 : Nat) : Int)) (by omega) (by omega)
  rw [show ((n / 32 : Nat) : Int) = ((n : Nat) : Int) / 32 from by omega] at h
  simp [go_sem, e, h]
theorem zjh {n : Nat} (hn : n ≤ 1000000000) : ∀ w, (do eqGuard .rem t a b (.int .i64 ((n : Nat) : Int)) (.int .i64 32); binOp .rem t (.int .i64 ((n : Nat) : Int)) (.int .i64 32) : Sem Value).run P w = .ok (.int .i64 ((n % 32 : Nat) : Int)) w := fun w => by
  have e : ((n : Nat) : Int).tmod 32 = ((n % 32 : Nat) : Int) := by rw [Int.tmod_eq_emod_of_nonneg (by omega)]; omega
  have h := ji (a := ((n % 32 : Nat) : Int)) (by omega) (by omega)
  simp [go_sem, e, h]
theorem zji {x k : Nat} (hx : x ≤ 1) (hk : k < 32) : ∀ w, (do eqGuard .shl t a b (.int .u32 ((x : Nat) : Int)) (.int .i64 ((k : Nat) : Int)); binOp .shl t (.int .u32 ((x : Nat) : Int)) (.int .i64 ((k : Nat) : Int)) : Sem Value).run P w = .ok (.int .u32 ((x * 2 ^ k : Nat) : Int)) w := fun w => by
  have h : ¬ ((k : Nat) : Int) < 0 := by omega
  have h1 : x * 2 ^ k < 4294967296 := by
    have h2 : x * 2 ^ k ≤ 1 * 2 ^ k := Nat.mul_le_mul_right _ hx
    have h3 : 2 ^ k ≤ 2 ^ 31 := Nat.pow_le_pow_right (by decide) (by omega)
    have h4 : (2 : Nat) ^ 31 = 2147483648 := rfl
    omega
  have h5 := wrap_u32 (x * 2 ^ k) h1
  rw [Int.natCast_mul, Int.natCast_pow] at h5
  simp only [Int.cast_ofNat_Int] at h5
  simp [go_sem, h, h5]
theorem zee {k : Nat} (hk : k < 32) : ∀ w, (do eqGuard .sub t a b (.int .u32 ((1 * 2 ^ k : Nat) : Int)) (.int .u32 1); binOp .sub t (.int .u32 ((1 * 2 ^ k : Nat) : Int)) (.int .u32 1) : Sem Value).run P w = .ok (.int .u32 ((2 ^ k - 1 : Nat) : Int)) w := fun w => by
  have h3 : 2 ^ k ≤ 2 ^ 31 := Nat.pow_le_pow_right (by decide) (by omega)
  have h4 : (2 : Nat) ^ 31 = 2147483648 := rfl
  have hp : 0 < 2 ^ k := Nat.pow_pos (by decide)
  have e : ((1 * 2 ^ k : Nat) : Int) - 1 = ((2 ^ k - 1 : Nat) : Int) := by omega
  have h5 := wrap_u32 (2 ^ k - 1) (by omega)
  rw [← e] at h5
  rw [jy h5, e]
end
end Go.Proofs.YtbhdnpbbmpemnaaGreatDoor
namespace Go.Proofs.YtbhdnpbbmpemnaaGreatDoor
open Go.RowKit
set_option linter.unusedVariables false
set_option linter.unusedSimpArgs false
set_option maxRecDepth 100000
theorem BiP_is1_51 : Is1 Tryz.prog 51 := ⟨⟨_, Tryz.underlying51, rfl⟩, by kernel_rfl⟩
theorem BiP_isS_36 : IsS Tryz.prog 36 6 := ⟨⟨_, Tryz.underlying36⟩, by kernel_rfl⟩
theorem BiP_isS_73 : IsS Tryz.prog 73 2 := ⟨⟨_, Tryz.underlying73⟩, by kernel_rfl⟩
theorem zjj {k : Nat} (hk : k < 32) : 2 ^ k - 1 < 4294967296 := by
 have h3 : 2 ^ k ≤ 2 ^ 31 := Nat.pow_le_pow_right (by decide) (by omega)
 have h4 : (2 : Nat) ^ 31 = 2147483648 := rfl
 omega
theorem zef {b : Bool} {y c n : Nat} (hn : (c + 32 - 1) / 32 = n + 1) (hr : 0 < c % 32) : val ((ue b y (n + 1)).set n ((ue b y (n + 1)).getD n 0 &&& (2 ^ (c % 32) - 1))) = fld b y 0 c := by
 rw [zed (qij _ _ _) (yu _ _ _), pw_two, ← Nat.pow_add, show 32 * n + c % 32 = c from by omega]
 exact qja (by omega)
theorem zka {b : Bool} {y c : Nat} (hr : ¬ 0 < c % 32) : val (ue b y ((c + 32 - 1) / 32)) = fld b y 0 c := by
 have h1 := qja (b := b) (y := y) (n := (c + 32 - 1) / 32) (c := c) (by omega)
 have h2 := val_lt (qij b y ((c + 32 - 1) / 32))
 rw [yu, pw_two, show 32 * ((c + 32 - 1) / 32) = c from by omega] at h2
 rw [← h1, Nat.mod_eq_of_lt h2]
theorem qjb {w : World} {b : Bool} {ro : Option Addr} {rc y c : Nat} (hr : Rd w ro (words y)) (hy : (words y).length ≤ 600) (hc : c ≤ 16384) : Calls Tryz.prog 59 #[.agg #[.bool b, .slice ro (words y).length rc], .int .i64 ((c : Nat) : Int)] w (Row1 w (words (fld b y 0 c))) := by
 have hS : St w w [] [] [] := St.start w
 refine za (l := [(0, .agg #[.bool b, .slice ro ((words y).length) rc]), (1, .int .i64 (((c : Nat) : Int)))]) Tryz.func59 rfl Tryz.ntmps59 rfl rfl ?_
 intro Q hret hnorm hP a hA
 refine wsk fun K1 hK1 => wrl (ze hA hS rfl rfl rfl (fun g => .pointer (some ⟨g, 0, none⟩)) (zf rfl rfl) rfl ?_)
 intro g2 w3 hS a hA
 refine sdo hA (qb rfl) fun a hA => ?_
 refine qe (hK1 _ _ (wsk fun K4 hK4 => wrl (sdo hA (qa rfl) fun a hA => ?_)))
 refine sdo (v := .int .i64 (((c + 32 : Nat) : Int))) hA (qg rfl rfl (fun w => (jp (ji (by omega) (by omega)) w).trans (by rw [show (((c : Nat) : Int) + 32 : Int) = ((c + 32 : Nat) : Int) from by omega]))) fun a hA => ?_
 refine sdo (v := .int .i64 (((c + 32 - 1 : Nat) : Int))) hA (qg rfl rfl (fun w => (jy (ji (by omega) (by omega)) w).trans (by rw [show (((c + 32 : Nat) : Int) - 1 : Int) = ((c + 32 - 1 : Nat) : Int) from by omega]))) fun a hA => ?_
 refine sdo (v := .int .i64 ((((c + 32 - 1) / 32 : Nat) : Int))) hA (qg rfl rfl (zjg (by omega))) fun a hA => ?_
 refine zbd (m := (c + 32 - 1) / 32) hA hS rfl rfl rfl (qyd Tryz.underlying32 (by kernel_rfl) rfl rfl (by omega)) (by omega) ?_
 intro g5 w6 hS a hA
 refine sdo hA (qb rfl) fun a hA => ?_
 refine qe (hK4 _ _ (wsk fun K7 hK7 => wsk fun K8 hK8 => wrl (sdo hA (qa rfl) fun a hA => ?_)))
 refine sdo hA (zb Tryz.underlying32 rfl) fun a hA => ?_
 refine sdo hA (qa rfl) fun a hA => ?_
 refine qe (hK8 _ _ (wp_block (jb (fun m a w1 => ∃ (i : Nat) (l : List Nat), m = (c + 32 - 1) / 32 - i ∧ (i ≤ (c + 32 - 1) / 32 ∧ l.length = (c + 32 - 1) / 32 ∧ ∀ j, j < i → l.getD j 0 = rwd b y j) ∧ Sl a 42 [(0, .agg #[.bool b, .slice ro ((words y).length) rc]), (1, .int .i64 (((c : Nat) : Int))), (2, .pointer (some ⟨g2, 0, none⟩)), (4, .slice none 0 0), (5, .slice (some ⟨g5, 0, none⟩) ((c + 32 - 1) / 32) ((c + 32 - 1) / 32)), (8, .int .i64 (((c : Nat) : Int))), (9, .int .i64 (((c + 32 : Nat) : Int))), (10, .int .i64 (((c + 32 - 1 : Nat) : Int))), (11, .int .i64 ((((c + 32 - 1) / 32 : Nat) : Int))), (12, .slice (some ⟨g5, 0, none⟩) ((c + 32 - 1) / 32) ((c + 32 - 1) / 32)), (13, .slice (some ⟨g5, 0, none⟩) ((c + 32 - 1) / 32) ((c + 32 - 1) / 32)), (14, .int .i64 ((((c + 32 - 1) / 32 : Nat) : Int))), (15, .int .i64 (((i : Nat) : Int)))] ∧ St w w1 [(g2, [.bool b, .slice ro ((words y).length) rc])] [] [(some ⟨g5, 0, none⟩, (c + 32 - 1) / 32, l)]) _ ⟨0, List.replicate ((c + 32 - 1) / 32) 0, rfl, ⟨Nat.zero_le _, by simp, fun j hj => by omega⟩, hA.keep _ ⟨rfl, rfl, rfl, rfl, rfl, rfl, rfl, rfl, rfl, rfl, rfl, rfl, rfl, trivial⟩, hS⟩ ?_)))
 clear hS hA
 rintro m a w9 ⟨i, l, rfl, hinv11, hA, hS⟩ K10 hK10
 obtain ⟨hle9, hinv9, hinv8⟩ := hinv11
 have hdig9 := (hS.row 0 rfl).dig
 refine wsk fun K12 hK12 => wrl ?_
 rcases tf (decide (((i : Nat) : Int) < (((c + 32 - 1) / 32 : Nat) : Int))) with hb13 | hb13
 ·
  have hb13' := of_decide_eq_true hb13
  refine sdo (v := .bool true) hA (qg rfl rfl (fun w => (zi w).trans (by rw [hb13]))) fun a hA => ?_
  refine qe (hK12 _ _ (wsk fun K14 hK14 => wp_cond_true (hA.ev rfl) ?_))
  refine wp_skip (hK14 _ _ (wsk fun K15 hK15 => wp_block (wsk fun K16 hK16 => wrl (sdo hA (qa rfl) fun a hA => ?_))))
  refine sdo hA (qb rfl) fun a hA => ?_
  refine qe (hK16 _ _ (wrl ?_))
  iterate 2 refine sdo hA (qa rfl) fun a hA => ?_
  refine sdo hA (qw hS BiP_isS_73 rfl 0 rfl (cs := [.bool b, .slice ro ((words y).length) rc]) rfl rfl) fun a hA => ?_
  refine sdo hA (qa rfl) fun a hA => ?_
  refine qi hA rfl rfl rfl (qf  rfl rfl (fun w => by kernel_rfl)) (qrb (hr.below hS.bel) (by omega)) ?_
  rintro _ w18 ⟨rfl, hb17⟩
  have hS0 := hS
  replace hS := hS.call hb17
  refine ⟨_, rfl, ?_⟩
  intro a hA
  have hi22 : i < l.length := by first | omega | (simp only [List.length_set]; omega)
  refine sdo (v := .pointer (some ⟨g5, 0 + i, none⟩)) hA (zk (k := i) Tryz.underlying32 (by kernel_rfl) rfl rfl (by omega) rfl (by omega)) fun a hA => ?_
  refine zia (us' := l.set i (rwd b y i)) hA hS rfl rfl (qpi (d := rwd b y i) (by kernel_rfl) rfl rfl hS 0 rfl hi22) 0 rfl (zdf _ _ _) rfl ?_
  intro w23 hS
  refine qe (hK15 _ _ (wrl (sdo (v := .int .i64 (((i + 1 : Nat) : Int))) hA (qg rfl rfl (fun w => (jp (ji (by omega) (by omega)) w).trans (by rw [show (((i : Nat) : Int) + 1 : Int) = ((i + 1 : Nat) : Int) from by omega]))) fun a hA => ?_)))
  refine sdo hA (qa rfl) fun a hA => ?_
  refine qe ?_
  refine hK10 _ _ _ (by omega) ⟨i + 1, l.set i (rwd b y i), rfl, ⟨by omega, by rw [List.length_set]; exact hinv9, fun j hj => by rw [qrg _ _ _ _ (by omega)]; split; rename_i h; subst h; rfl; exact hinv8 j (by omega)⟩, hA.keep _ ⟨rfl, rfl, rfl, rfl, rfl, rfl, rfl, rfl, rfl, rfl, rfl, rfl, rfl, trivial⟩, hS⟩
 ·
  have hb13' := of_decide_eq_false hb13
  refine sdo (v := .bool false) hA (qg rfl rfl (fun w => (zi w).trans (by rw [hb13]))) fun a hA => ?_
  refine qe (hK12 _ _ (wsk fun K24 hK24 => wp_cond_false (hA.ev rfl) ?_))
  refine wp_exit (hK7 _ _ (wsk fun K25 hK25 => wsk fun K26 hK26 => wrl (sdo hA (qa rfl) fun a hA => ?_)))
  refine sdo (v := .int .i64 (((c % 32 : Nat) : Int))) hA (qg rfl rfl (zjh (by omega))) fun a hA => ?_
  refine sdo hA (qb rfl) fun a hA => ?_
  refine qe (hK26 _ _ (wsk fun K27 hK27 => wrl (sdo hA (qa rfl) fun a hA => ?_)))
  rcases tf (decide (0 < ((c % 32 : Nat) : Int))) with hb28 | hb28
  ·
   have hb28' := of_decide_eq_true hb28
   refine sdo (v := .bool true) hA (qg rfl rfl (fun w => (ja w).trans (by rw [hb28]))) fun a hA => ?_
   refine qe (hK27 _ _ (wp_cond_true (hA.ev rfl) ?_))
   refine je (S := fun w1 => St w w1 [(g2, [.bool b, .slice ro ((words y).length) rc])] [] []) (by kernel_rfl) ?_
   replace hS := hS.drew
   refine qk hA 0 rfl rfl rfl rfl hP (hS.partD (.refl _) 0 rfl (.cons _ .slnil)) (fun w1 hS => qa rfl) fun a hA => ?_
   refine qk hA 1 rfl rfl rfl rfl hP (hS.partD (.refl _) 0 rfl (.cons _ .slnil)) (fun w1 hS => qa rfl) fun a hA => ?_
   refine qk (v := .int .i64 ((((c + 32 - 1) / 32 : Nat) : Int))) hA 2 rfl rfl rfl rfl hP (hS.partD (.refl _) 0 rfl (.cons _ .slnil)) (fun w1 hS => zb Tryz.underlying32 rfl) fun a hA => ?_
   refine qk (v := .int .i64 ((((c + 32 - 1) / 32 - 1 : Nat) : Int))) hA 3 rfl rfl rfl rfl hP (hS.partD (.refl _) 0 rfl (.cons _ .slnil)) (fun w1 hS => qg rfl rfl (fun w => (jy (ji (by omega) (by omega)) w).trans (by rw [show ((((c + 32 - 1) / 32 : Nat) : Int) - 1 : Int) = (((c + 32 - 1) / 32 - 1 : Nat) : Int) from by omega]))) fun a hA => ?_
   have hi32 : (c + 32 - 1) / 32 - 1 < l.length := by first | omega | (simp only [List.length_set]; omega)
   refine qk (v := .pointer (some ⟨g5, 0 + ((c + 32 - 1) / 32 - 1), none⟩)) hA 4 rfl rfl rfl rfl hP (hS.partD (.refl _) 0 rfl (.cons _ .slnil)) (fun w1 hS => zk (k := (c + 32 - 1) / 32 - 1) Tryz.underlying32 (by kernel_rfl) rfl rfl (by omega) rfl (by omega)) fun a hA => ?_
   refine qk hA 6 rfl rfl rfl rfl hP (hS.partD (.refl _) 0 rfl (.cons _ .slnil)) (fun w1 hS => qa rfl) fun a hA => ?_
   refine qk (v := .int .u32 (((1 * 2 ^ (c % 32) : Nat) : Int))) hA 7 rfl rfl rfl rfl hP (hS.partD (.refl _) 0 rfl (.cons _ .slnil)) (fun w1 hS => qg rfl rfl (zji (x := 1) (by decide) (by omega))) fun a hA => ?_
   refine qk (v := .int .u32 (((2 ^ (c % 32) - 1 : Nat) : Int))) hA 8 rfl rfl rfl rfl hP (hS.partD (.refl _) 0 rfl (.cons _ .slnil)) (fun w1 hS => qg rfl rfl (zee (by omega))) fun a hA => ?_
   refine qt (by kernel_rfl) (qbc (v := .int .u32 (((l.getD ((c + 32 - 1) / 32 - 1) 0 : Nat) : Int))) hA 5 rfl rfl rfl rfl (xu (hS.row 0 rfl).rd rfl hi32 BiP_is1_51 rfl) (hS.partD (.refl _) 0 rfl (.cons _ .slnil)) ?_)
   intro a hA
   refine qk (v := .int .u32 (((l.getD ((c + 32 - 1) / 32 - 1) 0 &&& (2 ^ (c % 32) - 1) : Nat) : Int))) hA 9 rfl rfl rfl rfl hP (hS.partD (.refl _) 0 rfl (.cons _ .slnil)) (fun w1 hS => qg rfl rfl (zij (Dig.getD hdig9 _) (zjj (by omega)))) fun a hA => ?_
   have hi36 : (c + 32 - 1) / 32 - 1 < l.length := by first | omega | (simp only [List.length_set]; omega)
   refine qk (v := .pointer (some ⟨g5, 0 + ((c + 32 - 1) / 32 - 1), none⟩)) hA 10 rfl rfl rfl rfl hP (hS.partD (.refl _) 0 rfl (.cons _ .slnil)) (fun w1 hS => zk (k := (c + 32 - 1) / 32 - 1) Tryz.underlying32 (by kernel_rfl) rfl rfl (by omega) rfl (by omega)) fun a hA => ?_
   refine qt (by kernel_rfl) (zmb (us' := l.set ((c + 32 - 1) / 32 - 1) (l.getD ((c + 32 - 1) / 32 - 1) 0 &&& (2 ^ (c % 32) - 1))) hA hS 11 rfl rfl rfl (qpi (d := l.getD ((c + 32 - 1) / 32 - 1) 0 &&& (2 ^ (c % 32) - 1)) (by kernel_rfl) rfl rfl hS 0 rfl hi36) 0 rfl (Nat.lt_of_le_of_lt Nat.and_le_left (Dig.getD (hS.row 0 rfl).dig _)) rfl ?_)
   intro w37 hS
   refine ⟨(hS.partD (.refl _) 0 rfl (.cons _ .slnil)), ?_⟩
   refine zn (by kernel_rfl) ?_
   refine hK25 _ _ (wsk fun K38 hK38 => wrl (sdo hA (qa rfl) fun a hA => ?_))
   refine qi hA rfl rfl rfl (qf  rfl rfl (fun w => by kernel_rfl)) (qii (hS.row 0 rfl) (by first | exact hinv9 | (rw [List.length_set]; exact hinv9)) (by omega)) ?_
   rintro _ w41 ⟨rfl, ho39, hw40⟩
   have hw9 := vd hw40
   have ho9 := ho39.below hw9
   have hS0 := hS
   replace hS := hS.call hw9
   replace hS : St w w41 [(g2, [.bool b, .slice ro ((words y).length) rc])] [] [(some ⟨g5, 0, none⟩, (c + 32 - 1) / 32, words (val (l.set ((c + 32 - 1) / 32 - 1) (l.getD ((c + 32 - 1) / 32 - 1) 0 &&& (2 ^ (c % 32) - 1)))))] := hS.retake 0 rfl ho9
   refine ⟨_, rfl, ?_⟩
   intro a hA
   refine sdo hA (qb rfl) fun a hA => ?_
   refine qe (hK38 _ _ (wp_ret (hret _ _ (en1 hA rfl (ql rfl) ?_))))
   have hi9 : i = (c + 32 - 1) / 32 := by omega
   subst hi9
   have el : l = ue b y ((c + 32 - 1) / 32) := list_of_getD (by rw [yu]; exact hinv9) (fun j hj => by rw [qdb (by omega)]; exact hinv8 j (by omega))
   subst el
   obtain ⟨n9, hn9⟩ : ∃ n9, (c + 32 - 1) / 32 = n9 + 1 := ⟨(c + 32 - 1) / 32 - 1, by omega⟩
   have ev := zef (b := b) (y := y) hn9 (by omega)
   have e9 : (c + 32 - 1) / 32 - 1 = n9 := by omega
   rw [← hn9, ← e9] at ev
   rw [← ev]
   exact ⟨_, _, rfl, hS.row 0 rfl, hS.bel⟩
  ·
   have hb28' := of_decide_eq_false hb28
   refine sdo (v := .bool false) hA (qg rfl rfl (fun w => (ja w).trans (by rw [hb28]))) fun a hA => ?_
   refine qe (hK27 _ _ (wp_cond_false (hA.ev rfl) ?_))
   refine wp_skip (hK25 _ _ (wsk fun K42 hK42 => wrl (sdo hA (qa rfl) fun a hA => ?_)))
   refine qi hA rfl rfl rfl (qf  rfl rfl (fun w => by kernel_rfl)) (qii (hS.row 0 rfl) (by first | exact hinv9 | (rw [List.length_set]; exact hinv9)) (by omega)) ?_
   rintro _ w45 ⟨rfl, ho43, hw44⟩
   have hw9 := vd hw44
   have ho9 := ho43.below hw9
   have hS0 := hS
   replace hS := hS.call hw9
   replace hS : St w w45 [(g2, [.bool b, .slice ro ((words y).length) rc])] [] [(some ⟨g5, 0, none⟩, (c + 32 - 1) / 32, words (val (l)))] := hS.retake 0 rfl ho9
   refine ⟨_, rfl, ?_⟩
   intro a hA
   refine sdo hA (qb rfl) fun a hA => ?_
   refine qe (hK42 _ _ (wp_ret (hret _ _ (en1 hA rfl (ql rfl) ?_))))
   have hi9 : i = (c + 32 - 1) / 32 := by omega
   subst hi9
   have el : l = ue b y ((c + 32 - 1) / 32) := list_of_getD (by rw [yu]; exact hinv9) (fun j hj => by rw [qdb (by omega)]; exact hinv8 j (by omega))
   subst el
   rw [← zka (b := b) (y := y) (c := c) (by omega)]
   exact ⟨_, _, rfl, hS.row 0 rfl, hS.bel⟩
theorem uz {w : World} {b : Bool} {x : Nat} {a1 a2 a3 a4 : Option Addr} {ac1 ac2 ac3 ac4 : Nat} (ha : Nm w (Q6.whole b x) a1 ac1 a2 ac2 a3 ac3 a4 ac4) (hl : LenQ (Q6.whole b x)) {S E : Nat} (h1 : S ≤ E) (h2 : E ≤ 16384) (hw : xm (Q6.whole b x) = 0) (hx : (words x).length ≤ 512) (hb : b.toNat ≤ x) : Calls Tryz.prog 34 #[xy (Q6.whole b x) a1 ac1 a2 ac2 a3 ac3 a4 ac4, .int .i64 ((S : Nat) : Int), .int .i64 ((E : Nat) : Int)] w (AnsN w (qvf (Q6.whole b x) (S : Int) (E : Int))) := by
 have hS : St w w [] [(a4, [1]), (a3, []), (a2, [1]), (a1, words x)] [] := ((((St.start w).addR ha.s1.rd).addR ha.s2.rd).addR ha.s3.rd).addR ha.s4.rd
 refine za (l := [(0, .agg #[.bool b, .slice a1 ((words x).length) ac1, .slice a2 1 ac2, .bool false, .slice a3 0 ac3, .slice a4 1 ac4]), (1, .int .i64 (((S : Nat) : Int))), (2, .int .i64 (((E : Nat) : Int)))]) Tryz.func34 rfl Tryz.ntmps34 rfl rfl ?_
 intro Q hret hnorm hP a hA
 refine wsk fun K1 hK1 => wrl (ze hA hS rfl rfl rfl (fun g => .pointer (some ⟨g, 0, none⟩)) (zf rfl rfl) rfl ?_)
 intro g2 w3 hS a hA
 refine ze (vs := [.bool false, .slice none 0 0, .slice none 0 0, .bool false, .slice none 0 0, .slice none 0 0]) (t := 36) hA hS rfl rfl rfl (fun g => .pointer (some ⟨g, 0, none⟩)) (qp (z := .agg #[.bool false, .slice none 0 0, .slice none 0 0, .bool false, .slice none 0 0, .slice none 0 0]) (by kernel_rfl) rfl) rfl ?_
 intro g4 w5 hS a hA
 refine sdo hA (qb rfl) fun a hA => ?_
 refine qe (hK1 _ _ (wsk fun K6 hK6 => wsk fun K7 hK7 => wrl (sdo hA (qw hS BiP_isS_36 rfl 1 rfl (cs := [.bool b, .slice a1 ((words x).length) ac1, .slice a2 1 ac2, .bool false, .slice a3 0 ac3, .slice a4 1 ac4]) rfl rfl) fun a hA => ?_)))
 refine ze (vs := [.bool b, .slice a1 ((words x).length) ac1, .slice a2 1 ac2, .bool false, .slice a3 0 ac3, .slice a4 1 ac4]) (t := 36) hA hS rfl rfl rfl (fun g => .slice (some ⟨g, 0, none⟩) 1 1) (qx rfl (by kernel_rfl)) rfl ?_
 intro g8 w9 hS a hA
 refine qi hA rfl rfl rfl (qf  rfl rfl (fun w => by kernel_rfl)) (qaf (show Nm _ (Q6.whole b x) a1 ac1 a2 ac2 a3 ac3 a4 ac4 from ⟨⟨(hS.rd 3 rfl), ha.s1.nil, ha.s1.cap⟩, ⟨(hS.rd 2 rfl), ha.s2.nil, ha.s2.cap⟩, ⟨(hS.rd 1 rfl), ha.s3.nil, ha.s3.cap⟩, ⟨(hS.rd 0 rfl), ha.s4.nil, ha.s4.cap⟩⟩) hl (hS.blk 0 rfl) hw) ?_
 rintro _ w11 ⟨rfl, hb10⟩
 replace hS := hS.call hb10
 refine ⟨_, rfl, ?_⟩
 intro a hA
 refine sdo hA (qb rfl) fun a hA => ?_
 refine qe (hK7 _ _ (wsk fun K12 hK12 => wrl (sdo hA (qa rfl) fun a hA => ?_)))
 refine sdo (v := .bool false) hA (qg rfl rfl (fun w => by kernel_rfl)) fun a hA => ?_
 refine qe (hK12 _ _ (wp_cond_false (hA.ev rfl) ?_))
 refine wp_skip (hK6 _ _ (wsk fun K13 hK13 => wsk fun K14 hK14 => wrl (sdo hA (qa rfl) fun a hA => ?_)))
 refine sdo (v := .bool false) hA (qg rfl rfl (fun w => (zi w).trans (by rw [show (decide (((S : Nat) : Int) < 0)) = false from (decide_eq_false (by omega))]))) fun a hA => ?_
 iterate 3 refine sdo hA (qa rfl) fun a hA => ?_
 refine sdo (v := .bool false) hA (qg rfl rfl (fun w => (zi w).trans (by rw [show (decide (((E : Nat) : Int) < ((S : Nat) : Int))) = false from (decide_eq_false (by omega))]))) fun a hA => ?_
 refine sdo (v := .bool false) hA (qj rfl rfl rfl rfl) fun a hA => ?_
 iterate 2 refine sdo hA (qa rfl) fun a hA => ?_
 refine sdo (v := .bool false) hA (qg rfl rfl (fun w => (ja w).trans (by rw [show (decide (16384 < ((E : Nat) : Int))) = false from (decide_eq_false (by omega))]))) fun a hA => ?_
 refine sdo (v := .bool false) hA (qj rfl rfl rfl rfl) fun a hA => ?_
 refine qe (hK14 _ _ (wp_cond_false (hA.ev rfl) ?_))
 refine wp_skip (hK13 _ _ (wsk fun K15 hK15 => wrl (sdo hA (qw hS BiP_isS_36 rfl 2 rfl (cs := [.bool b, .slice a1 ((words x).length) ac1, .slice a2 1 ac2, .bool false, .slice a3 0 ac3, .slice a4 1 ac4]) rfl rfl) fun a hA => ?_)))
 refine qi hA rfl rfl rfl (qf  rfl rfl (fun w => by kernel_rfl)) (qea (show Nm _ (Q6.whole b x) a1 ac1 a2 ac2 a3 ac3 a4 ac4 from ⟨⟨(hS.rd 3 rfl), ha.s1.nil, ha.s1.cap⟩, ⟨(hS.rd 2 rfl), ha.s2.nil, ha.s2.cap⟩, ⟨(hS.rd 1 rfl), ha.s3.nil, ha.s3.cap⟩, ⟨(hS.rd 0 rfl), ha.s4.nil, ha.s4.cap⟩⟩) hx hb) ?_
 rintro _ w20 ⟨ro16, rc17, rfl, hs18, hb19⟩
 replace hS := hS.call hb19
 replace hS := hS.addR hs18.rd
 refine ⟨_, rfl, ?_⟩
 intro a hA
 refine sdo hA (qa rfl) fun a hA => ?_
 refine qi hA rfl rfl rfl (qf  rfl rfl (fun w => by kernel_rfl)) ((show Calls Tryz.prog 58 #[.agg #[.bool b, .slice ro16 (words (x - b.toNat)).length rc17], .int .i64 ((S : Nat) : Int)] _ _ from zdd (n := ((S : Nat) : Int)) ⟨(hS.rd 0 rfl), hs18.nil, hs18.cap⟩ (qoa hx) (by omega) (by omega))) ?_
 rintro _ w25 ⟨ro21, rc22, rfl, hs23, hb24⟩
 replace hS := hS.call hb24
 replace hS := hS.addR hs23.rd
 refine ⟨_, rfl, ?_⟩
 intro a hA
 iterate 2 refine sdo hA (qa rfl) fun a hA => ?_
 refine sdo (v := .int .i64 (((E - S : Nat) : Int))) hA (qg rfl rfl (fun w => (jy (ji (by omega) (by omega)) w).trans (by rw [show (((E : Nat) : Int) - ((S : Nat) : Int) : Int) = ((E - S : Nat) : Int) from by omega]))) fun a hA => ?_
 refine qi hA rfl rfl rfl (qf  rfl rfl (fun w => by kernel_rfl)) (qjb (c := E - S) (hS.rd 0 rfl) (Nat.le_trans (zid (qoa hx)) (by decide)) (by omega)) ?_
 rintro _ w30 ⟨ro26, rc27, rfl, ho28, hb29⟩
 replace hS := hS.call hb29
 replace hS := hS.addR ho28.rd
 refine ⟨_, rfl, ?_⟩
 intro a hA
 refine qi hA rfl rfl rfl (qf  rfl rfl (fun w => by kernel_rfl)) (qid false ⟨(hS.rd 0 rfl), ho28.nocap, ho28.caps⟩) ?_
 rintro _ w34 ⟨p31_1, p31_c1, p31_2, p31_c2, p31_3, p31_c3, p31_4, p31_c4, rfl, hn32, hb33⟩
 replace hS := hS.call hb33
 replace hS := hS.addR hn32.s1.rd
 replace hS := hS.addR hn32.s2.rd
 replace hS := hS.addR hn32.s3.rd
 replace hS := hS.addR hn32.s4.rd
 refine ⟨_, rfl, ?_⟩
 intro a hA
 refine zq (us := [.bool false, .slice p31_1 ((words (fld b ((x - b.toNat) / 2 ^ S) 0 (E - S))).length) p31_c1, .slice p31_2 1 p31_c2, .bool false, .slice p31_3 0 p31_c3, .slice p31_4 1 p31_c4]) hA hS rfl rfl (qr rfl rfl rfl (by kernel_rfl) hS 1 rfl rfl rfl) 1 rfl rfl rfl rfl ?_
 intro w35 hS
 refine sdo hA (qb rfl) fun a hA => ?_
 refine qe (hK15 _ _ (wp_ret (hret _ _ (en2 hA rfl (jh hS BiP_isS_36 rfl 1 rfl (cs := [.bool false, .slice p31_1 ((words (fld b ((x - b.toNat) / 2 ^ S) 0 (E - S))).length) p31_c1, .slice p31_2 1 p31_c2, .bool false, .slice p31_3 0 p31_c3, .slice p31_4 1 p31_c4]) rfl rfl) (ql rfl) ?_))))
 rw [qai hw h1 h2, ← qri]
 exact ⟨p31_1, p31_c1, p31_2, p31_c2, p31_3, p31_c3, p31_4, p31_c4, rfl, ⟨⟨(hS.rd 3 rfl), hn32.s1.nil, hn32.s1.cap⟩, ⟨(hS.rd 2 rfl), hn32.s2.nil, hn32.s2.cap⟩, ⟨(hS.rd 1 rfl), hn32.s3.nil, hn32.s3.cap⟩, ⟨(hS.rd 0 rfl), hn32.s4.nil, hn32.s4.cap⟩⟩, hS.bel⟩
end Go.Proofs.YtbhdnpbbmpemnaaGreatDoor
namespace Go.Proofs.YtbhdnpbbmpemnaaGreatDoor
open Go.RowKit
set_option linter.unusedVariables false
set_option linter.unusedSimpArgs false

/-- A rational number that is not too long. -/
def zoc (u : Rat) : Prop := (words u.num.natAbs).length ≤ 512 ∧ (words u.den).length ≤ 512
instance (u : Rat) : Decidable (zoc u) := inferInstanceAs (Decidable (_ ∧ _))
end Go.Proofs.YtbhdnpbbmpemnaaGreatDoor
namespace Go.Proofs.YtbhdnpbbmpemnaaGreatDoor
open Go.RowKit
set_option linter.unusedVariables false
set_option linter.unusedSimpArgs false
section
variable {P : Program} {t : TypeId} {x y : Operand} {a b : ByteArray}
end
section
variable {P : Program} {ops : List Oper} {Q : Exit → Act → World → Prop} {a : Act} {w w' : World} {n : Nat} {l : List (Nat × Value)} {o : Oper} {v : Value} {rest : List Oper}
end
end Go.Proofs.YtbhdnpbbmpemnaaGreatDoor
namespace Go.Proofs.YtbhdnpbbmpemnaaGreatDoor
open Go.RowKit
set_option linter.unusedVariables false
set_option linter.unusedSimpArgs false
end Go.Proofs.YtbhdnpbbmpemnaaGreatDoor
namespace Go.Proofs.YtbhdnpbbmpemnaaGreatDoor
open Go.RowKit
set_option linter.unusedVariables false
set_option linter.unusedSimpArgs false
end Go.Proofs.YtbhdnpbbmpemnaaGreatDoor
namespace Go.Proofs.YtbhdnpbbmpemnaaGreatDoor
open Go.RowKit
set_option linter.unusedVariables false
set_option linter.unusedSimpArgs false
end Go.Proofs.YtbhdnpbbmpemnaaGreatDoor
namespace Go.Proofs.YtbhdnpbbmpemnaaGreatDoor
open Go.RowKit
set_option linter.unusedVariables false
set_option linter.unusedSimpArgs false
end Go.Proofs.YtbhdnpbbmpemnaaGreatDoor
namespace Go.Proofs.YtbhdnpbbmpemnaaGreatDoor
open Go.RowKit
set_option linter.unusedVariables false
set_option linter.unusedSimpArgs false
theorem qjf : ∀ (n x y : Nat), x < 2 ^ n → y < 2 ^ n → (x &&& y) + (x ||| y) = x + y ∧ (x ^^^ y) + (x &&& y) = x ||| y
  | 0, x, y, hx, hy => by
    obtain rfl : x = 0 := by simpa using hx
    obtain rfl : y = 0 := by simpa using hy
    exact ⟨rfl, rfl⟩
  | n + 1, x, y, hx, hy => by
    obtain ⟨h1, h2⟩ := qjf n (x / 2) (y / 2) (by rw [Nat.pow_succ] at hx; omega) (by rw [Nat.pow_succ] at hy; omega)
    rw [← Nat.and_div_two, ← Nat.or_div_two] at h1 h2
    rw [← Nat.xor_div_two] at h2
    have a1 : (x &&& y) % 2 = (x % 2) &&& (y % 2) := Nat.and_mod_two_pow (n := 1)
    have a2 : (x ||| y) % 2 = (x % 2) ||| (y % 2) := Nat.or_mod_two_pow (n := 1)
    have a3 : (x ^^^ y) % 2 = (x % 2) ^^^ (y % 2) := Nat.xor_mod_two_pow (n := 1)
    rcases Nat.mod_two_eq_zero_or_one x with e1 | e1 <;> rcases Nat.mod_two_eq_zero_or_one y with e2 | e2 <;>
      · rw [e1, e2] at a1 a2 a3
        simp only [Nat.zero_and, Nat.and_self, Nat.or_self, Nat.zero_or, Nat.or_zero, Nat.and_zero, Nat.xor_self, Nat.zero_xor, Nat.xor_zero] at a1 a2 a3
        omega
/-- The whole number of a row without end. -/
def qzh (b : Bool) (y : Nat) : Int := if b = true then -((y : Int) + 1) else (y : Int)
theorem qzi (b : Bool) (y n : Nat) : ue b y (n + 1) = ue b y n ++ [rwd b y n] := by simp [ue, List.range_succ]
theorem zeh {x : Nat} (h : x < 4294967296) : x ^^^ 4294967295 = 4294967295 - x := by
  have k := qjf 32 x 4294967295 h (by decide)
  have e : x &&& 4294967295 = x := by
    rw [show (4294967295 : Nat) = 2 ^ 32 - 1 from rfl, Nat.and_two_pow_sub_one_eq_mod]
    exact Nat.mod_eq_of_lt h
  omega
theorem qsa (n : Nat) : pw (n + 1) = pw n * 4294967296 := by rw [pw_succ, Nat.mul_comm]
theorem qog {y n : Nat} (h : (words y).length ≤ n) : y < pw n := (Nat.div_eq_zero_iff_lt (pw_pos n)).1 (div_words_length y n h)
theorem qsb (b : Bool) (y : Nat) : ∀ n, (val (ue b y n) : Int) = (if b = true then (pw n : Int) - 1 - ((y % pw n : Nat) : Int) else ((y % pw n : Nat) : Int))
  | 0 => by cases b <;> simp [ue, pw, Nat.mod_one, val_nil]
  | n + 1 => by
    have ih := qsb b y n
    have hs : y % pw (n + 1) = y % pw n + pw n * (y / pw n % 4294967296) := by rw [qsa, Nat.mod_mul]
    rw [qzi, val_snoc, yu]
    have hp := qsa n
    have hl : y / pw n % 4294967296 < 4294967296 := Nat.mod_lt _ (by decide)
    unfold rwd
    cases b with
    | false =>
      simp only [Bool.toNat_false, Nat.zero_mul, Nat.xor_zero] at *
      simp only [Bool.false_eq_true, if_false] at ih ⊢
      rw [hs]
      generalize pw n * (y / pw n % 4294967296) = A at *
      omega
    | true =>
      simp only [Bool.toNat_true, Nat.one_mul] at *
      rw [zeh hl]
      simp only [if_true] at ih ⊢
      rw [hs, hp]
      have e : pw n * (4294967295 - y / pw n % 4294967296) + pw n * (y / pw n % 4294967296) = pw n * 4294967295 := by rw [← Nat.mul_add]; congr 1; omega
      generalize pw n * (y / pw n % 4294967296) = A at *
      generalize pw n * (4294967295 - y / pw n % 4294967296) = C at *
      omega
theorem zei {b : Bool} {y n : Nat} (h : (words y).length ≤ n) : qzh b y = (val (ue b y n) : Int) - ((b.toNat * pw n : Nat) : Int) := by
  have hy : y < pw n := qog h
  rw [qsb, Nat.mod_eq_of_lt hy]
  unfold qzh
  cases b with
  | false => simp
  | true => simp; omega
section
variable {fop : Nat → Nat → Nat} {fb : Bool → Bool → Bool} {b1 b2 : Bool} {y1 y2 : Nat}
end
section
variable {fop : Nat → Nat → Nat} {fb : Bool → Bool → Bool}
end
end Go.Proofs.YtbhdnpbbmpemnaaGreatDoor
namespace Go.Proofs.YtbhdnpbbmpemnaaGreatDoor
open Go.RowKit
set_option linter.unusedVariables false
set_option linter.unusedSimpArgs false
section
variable {P : Program} {md : Region.Mode} {ops : List Oper} {Q : Exit → Act → World → Prop} {S : World → Prop} {fuel : Nat} {listed : Array Bool} {a : Act} {w w' : World} {n : Nat} {l : List (Nat × Value)} {o : Oper} {v : Value}
end
section
variable {P : Program} {t : TypeId} {a b : Operand}
end
end Go.Proofs.YtbhdnpbbmpemnaaGreatDoor
namespace Go.Proofs.YtbhdnpbbmpemnaaGreatDoor
open Go.RowKit
set_option linter.unusedVariables false
set_option linter.unusedSimpArgs false
theorem qsc (b : Bool) (y k : Nat) : qzh b y % ((2 ^ k : Nat) : Int) = ((fld b y 0 k : Nat) : Int) := by
  have hn : (words y).length ≤ (words y).length + k := by omega
  have e := zei (b := b) hn
  have f := qja (b := b) (y := y) (n := (words y).length + k) (c := k) (by omega)
  have hp : pw ((words y).length + k) = 2 ^ k * 2 ^ (32 * ((words y).length + k) - k) := by rw [pw_two, ← Nat.pow_add]; congr 1; omega
  rw [e, hp, ← f, Nat.mul_left_comm, Int.natCast_mul (2 ^ k), Int.sub_mul_emod_self_left, Int.natCast_emod]
end Go.Proofs.YtbhdnpbbmpemnaaGreatDoor
namespace Go.Proofs.YtbhdnpbbmpemnaaGreatDoor
open Go.ChangeShapes Go.WideShapes Go.ChangeAt Go.RowKit Go.Joins Go.Deep
set_option linter.unusedVariables false
set_option linter.unusedSimpArgs false
set_option maxRecDepth 100000

section
variable {H : Type} {enc : TypeId × Value → H} {W : World}
theorem trod_bool {fuel : Nat} {v : Value} {x : DataW H × List MemPlace} (h : DataW.trod enc Tryz.prog W 0 (fun _ => true) true fuel 4 [v] = some x) : ∃ b, v = .bool b := by
  obtain ⟨b, h, _⟩ := DataW.trod_bool Tryz.underlying4 h
  exact ⟨b, by simpa using h⟩
theorem qke {fuel : Nat} {v : Value} {x : DataW H × List MemPlace} (h : DataW.trod enc Tryz.prog W 0 (fun _ => true) true fuel 32 [v] = some x) : ∃ ao c l, v = .slice ao l.length c ∧ Arg W ao c l := by
  rcases open_ints Tryz.underlying32 Tryz.underlying51 (by kernel_rfl) h with ⟨hcs, _⟩ | ⟨x, l, c, zs, hcs, _, hl, hm, hz, hx, hcell, hwz⟩
  · cases hcs
    exact ⟨none, 0, [], rfl, arg_nil W⟩
  · cases hcs
    obtain ⟨us, e, ha⟩ := arg_row hl hm (by simpa using hz) hcell hwz
    subst e
    exact ⟨_, _, us, rfl, ha⟩
theorem qtf {fuel : Nat} {v0 v1 v2 : Value} {x : DataW H × List MemPlace} (h : DataW.trod enc Tryz.prog W 0 (fun _ => true) true fuel 34 [v0, v1, v2] = some x) : ∃ b o1 c1 l1 o2 c2 l2, v0 = .bool b ∧ v1 = .slice o1 l1.length c1 ∧ v2 = .slice o2 l2.length c2 ∧ Arg W o1 c1 l1 ∧ Arg W o2 c2 l2 := by
  obtain ⟨y0, y1, y2, n, _, _, h0, h1, h2⟩ := trod_struct3 Tryz.underlying34 h
  have e0 : Tryz.prog.cellsOf 4 = 1 := by kernel_rfl
  have e1 : Tryz.prog.cellsOf 32 = 1 := by kernel_rfl
  simp only [e0, e1, List.drop_zero, List.take_succ_cons, List.take_zero, List.drop_succ_cons] at h0 h1 h2
  obtain ⟨b, rfl⟩ := trod_bool h0
  obtain ⟨o1, c1, l1, rfl, a1⟩ := qke h1
  obtain ⟨o2, c2, l2, rfl, a2⟩ := qke h2
  exact ⟨b, o1, c1, l1, o2, c2, l2, rfl, rfl, rfl, a1, a2⟩
end
end Go.Proofs.YtbhdnpbbmpemnaaGreatDoor
