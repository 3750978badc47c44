/- Fields of bits. Quotients of whole numbers, downwards, and the order of rational ones. Quotient and rest of real numbers. Facts of the order of real numbers. And, Or, Xor and Not as whole numbers. Walks of the law on And, Or, Xor and Not as whole numbers. Walks of the order and the quotients of real numbers. Walks of Cmp and of the quotients. Walks of divMod and DivMod. -/
import Derived.Test.YtmibkfihcihphaaPbitsmo9b
namespace Go.Proofs.Ytmibkfihcihphaa
open Go.RowKit
set_option linter.unusedVariables false
set_option linter.unusedSimpArgs false

/-- The bit k of a row without end. -/
def tbit (b : Bool) (y k : Nat) : Nat := (y.testBit k ^^ b).toNat
theorem tbit_le (b : Bool) (y k : Nat) : tbit b y k ≤ 1 := Bool.toNat_le _
/-- The bits from s on, so many, as a number. -/
def fld (b : Bool) (y s : Nat) : Nat → Nat
  | 0 => 0
  | c + 1 => fld b y s c + tbit b y (s + c) * 2 ^ c
theorem fld_lt (b : Bool) (y s : Nat) : ∀ c, fld b y s c < 2 ^ c
  | 0 => by simp [fld]
  | c + 1 => by
    have h1 := fld_lt b y s c
    have h2 := tbit_le b y (s + c)
    have h3 : tbit b y (s + c) * 2 ^ c ≤ 1 * 2 ^ c := Nat.mul_le_mul_right _ h2
    unfold fld
    rw [Nat.pow_succ]
    omega
theorem fld_down (b : Bool) (y s : Nat) : ∀ c, fld b (y / 2 ^ s) 0 c = fld b y s c
  | 0 => rfl
  | c + 1 => by
    unfold fld
    rw [fld_down b y s c]
    unfold tbit
    rw [Nat.zero_add, Nat.testBit_div_two_pow, Nat.add_comm c s]
/-- A number's lowest bits are told by its bits. -/
theorem mod_bits {X b y : Nat} {B : Bool} : ∀ c, (∀ k, k < c → X / 2 ^ k % 2 = tbit B y k) → X % 2 ^ c = fld B y 0 c
  | 0, _ => by simp [fld, Nat.mod_one]
  | c + 1, h => by
    have ih := mod_bits (X := X) (b := b) c (fun k hk => h k (by omega))
    have e := h c (by omega)
    unfold fld
    rw [Nat.zero_add, ← e, ← ih, Nat.pow_succ, Nat.mod_mul, Nat.mul_comm (X / 2 ^ c % 2)]
theorem rwd_bit {b : Bool} {y J r : Nat} (hr : r < 32) : rwd b y J / 2 ^ r % 2 = tbit b y (32 * J + r) := by
  rw [← Nat.toNat_testBit]
  unfold tbit rwd
  rw [Nat.testBit_xor]
  have e1 : (y / pw J % 4294967296).testBit r = y.testBit (32 * J + r) := by
    rw [show (4294967296 : Nat) = 2 ^ 32 from rfl, Nat.testBit_mod_two_pow, pw_two, Nat.testBit_div_two_pow, Nat.add_comm r]
    simp [hr]
  have e2 : (b.toNat * 4294967295).testBit r = b := by
    cases b with
    | false => simp
    | true =>
      show (1 * 4294967295).testBit r = true
      rw [Nat.one_mul, show (4294967295 : Nat) = 2 ^ 32 - 1 from rfl, Nat.testBit_two_pow_sub_one]
      simp [hr]
  rw [e1, e2]
/-- A bit of a list of words. -/
theorem val_bit {l : List Nat} (hd : Dig l) (k : Nat) : val l / 2 ^ k % 2 = l.getD (k / 32) 0 / 2 ^ (k % 32) % 2 := by
  have h1 : l.getD (k / 32) 0 = val l / pw (k / 32) % 4294967296 := by
    have h2 := val_split l (k / 32)
    by_cases hk : k / 32 < l.length
    · have hm : min (k / 32) l.length = k / 32 := by omega
      rw [hm] at h2
      have h3 : val (l.take (k / 32)) < pw (k / 32) := by
        have := val_lt (hd.take (k / 32))
        rwa [List.length_take, hm] at this
      have h4 : val l / pw (k / 32) = val (l.drop (k / 32)) := by
        rw [h2, Nat.add_mul_div_left _ _ (pw_pos _), Nat.div_eq_of_lt h3, Nat.zero_add]
      rw [h4, List.drop_eq_getElem_cons hk, val_cons, Nat.add_mul_mod_self_left, Nat.mod_eq_of_lt (hd _ (List.getElem_mem hk))]
      simp [hk]
    · have : val l < pw (k / 32) := Nat.lt_of_lt_of_le (val_lt hd) (pw_le (by omega))
      rw [Nat.div_eq_of_lt this]
      simp [List.getD_eq_getElem?_getD, List.getElem?_eq_none (by omega : l.length ≤ k / 32)]
  rw [h1, ← Nat.toNat_testBit, ← Nat.toNat_testBit, show (4294967296 : Nat) = 2 ^ 32 from rfl, Nat.testBit_mod_two_pow, pw_two, Nat.testBit_div_two_pow]
  have e : k % 32 + 32 * (k / 32) = k := by omega
  rw [e]
  have : k % 32 < 32 := Nat.mod_lt _ (by decide)
  simp [this]
theorem rowL_bit {b : Bool} {y n k : Nat} (h : k / 32 < n) : (rowL b y n).getD (k / 32) 0 / 2 ^ (k % 32) % 2 = tbit b y k := by
  rw [rowL_get h, rwd_bit (Nat.mod_lt _ (by decide))]
  congr 1
  omega
theorem rowL_mod {b : Bool} {y n c : Nat} (h : c ≤ 32 * n) : val (rowL b y n) % 2 ^ c = fld b y 0 c :=
  mod_bits (b := 0) c (fun k hk => by rw [val_bit (rowL_dig _ _ _), rowL_bit (by omega)])
/-- The last word cut down. -/
theorem mask_val {l : List Nat} {n r : Nat} (hd : Dig l) (hl : l.length = n + 1) : val (l.set n (l.getD n 0 &&& (2 ^ r - 1))) = val l % (pw n * 2 ^ r) := by
  have e : l.getD n 0 &&& (2 ^ r - 1) = l.getD n 0 % 2 ^ r := Nat.and_two_pow_sub_one_eq_mod _ _
  have h1 : val l = val (l.take n) + pw n * l.getD n 0 := by
    have := val_take_succ l n
    rwa [List.take_of_length_le (by omega)] at this
  have h2 : val (l.set n (l.getD n 0 % 2 ^ r)) = val (l.take n) + pw n * (l.getD n 0 % 2 ^ r) := by
    have := val_set_take l n (l.getD n 0 % 2 ^ r) (by omega)
    rwa [List.take_of_length_le (by rw [List.length_set]; omega)] at this
  have h3 : val (l.take n) < pw n := by
    have := val_lt (hd.take n)
    rwa [List.length_take, Nat.min_eq_left (by omega)] at this
  rw [e, h2, Nat.mod_mul, h1, Nat.add_mul_mod_self_left, Nat.mod_eq_of_lt h3, Nat.add_mul_div_left _ _ (pw_pos _), Nat.div_eq_of_lt h3, Nat.zero_add]
/-- A number's words, in a list of a given length. -/
def Pads (F n : Nat) (l : List Nat) : Prop := l.length = n ∧ ∀ j, l.getD j 0 = F / pw j % 4294967296
theorem Pads.start (n : Nat) : Pads 0 n (List.replicate n 0) := ⟨by simp, fun j => by simp [List.getD_eq_getElem?_getD, List.getElem?_replicate]; split <;> rfl⟩
theorem Pads.step {F n k t : Nat} {l : List Nat} (h : Pads F n l) (hF : F < 2 ^ k) (ht : t ≤ 1) (hk : k / 32 < n) : Pads (F + t * 2 ^ k) n (l.set (k / 32) (l.getD (k / 32) 0 ||| t * 2 ^ (k % 32))) := by
  have hk2 : 2 ^ k = pw (k / 32) * 2 ^ (k % 32) := by rw [pw_two, ← Nat.pow_add]; congr 1; omega
  have hr : 2 ^ (k % 32) ≤ 2 ^ 31 := Nat.pow_le_pow_right (by omega) (by omega)
  have hq : F / pw (k / 32) < 2 ^ (k % 32) := by
    rw [Nat.div_lt_iff_lt_mul (pw_pos _), Nat.mul_comm, ← hk2]
    exact hF
  have hold : l.getD (k / 32) 0 = F / pw (k / 32) := by
    rw [h.2, Nat.mod_eq_of_lt (by omega)]
  refine ⟨by rw [List.length_set]; exact h.1, fun j => ?_⟩
  rw [getD_set _ _ _ _ (by rw [h.1]; exact hk)]
  by_cases e : k / 32 = j
  · subst e
    have h8 : t * 2 ^ (k % 32) ≤ 1 * 2 ^ (k % 32) := Nat.mul_le_mul_right _ ht
    have h9 : (2 : Nat) ^ 31 = 2147483648 := rfl
    have e1 : (F / pw (k / 32) ||| t * 2 ^ (k % 32)) = t * 2 ^ (k % 32) + F / pw (k / 32) := by
      rw [Nat.or_comm]
      exact or_add t (F / pw (k / 32)) (k % 32) hq
    have e2 : (F + t * 2 ^ k) / pw (k / 32) = F / pw (k / 32) + t * 2 ^ (k % 32) := by
      rw [hk2, Nat.mul_left_comm t, Nat.add_mul_div_left _ _ (pw_pos _)]
    rw [if_pos rfl, hold, e1, e2, Nat.mod_eq_of_lt (show F / pw (k / 32) + t * 2 ^ (k % 32) < 4294967296 from by omega), Nat.add_comm]
  · rw [if_neg e, h.2]
    by_cases hlt : j < k / 32
    · have : 2 ^ k = pw j * (4294967296 * (pw (k / 32 - j - 1) * 2 ^ (k % 32))) := by
        rw [hk2, show k / 32 = j + (1 + (k / 32 - j - 1)) by omega, pw_add, pw_add]
        have : pw 1 = 4294967296 := by rw [pw_succ, pw_zero]
        rw [this, Nat.mul_assoc, Nat.mul_assoc]
        congr 3
        congr 1
        omega
      rw [this, Nat.mul_left_comm t, Nat.add_mul_div_left _ _ (pw_pos _), Nat.mul_left_comm t, Nat.add_mul_mod_self_left]
    · have h1 : pw (k / 32 + 1) ≤ pw j := pw_le (by omega)
      rw [pw_succ] at h1
      have h2 : F + t * 2 ^ k < pw j := by
        have : t * 2 ^ k ≤ 1 * 2 ^ k := Nat.mul_le_mul_right _ ht
        have h3 : 2 ^ k ≤ pw (k / 32) * 2 ^ 31 := by rw [hk2]; exact Nat.mul_le_mul_left _ hr
        have : (2 : Nat) ^ 31 = 2147483648 := rfl
        omega
      rw [Nat.div_eq_of_lt h2, Nat.div_eq_of_lt (by omega)]
def fieldQ (q : Q6) (s e : Int) : Q6 × Int :=
  if want1 q = 0 then (if s < 0 ∨ e < s ∨ 16384 < e then (Q6.zero, 1) else (Q6.whole false (fld q.b1 (val q.t1 - q.b1.toNat) s.toNat (e - s).toNat), 0)) else (Q6.zero, want1 q)
theorem fieldQ_err {q : Q6} {s e : Int} (h : (want1 q != 0) = true) : fieldQ q s e = (Q6.zero, want1 q) := by unfold fieldQ; rw [if_neg (bne_iff_ne.1 h)]
theorem fieldQ_arg {b : Bool} {x : Nat} {s e : Int} (h : want1 (Q6.whole b x) = 0) (hn : s < 0 ∨ e < s ∨ 16384 < e) : fieldQ (Q6.whole b x) s e = (Q6.zero, 1) := by unfold fieldQ; rw [if_pos h, if_pos hn]
theorem fieldQ_ok {b : Bool} {x S E : Nat} (h : want1 (Q6.whole b x) = 0) (h1 : S ≤ E) (h2 : E ≤ 16384) : fieldQ (Q6.whole b x) (S : Int) (E : Int) = (Q6.whole false (fld b (x - b.toNat) S (E - S)), 0) := by
  unfold fieldQ
  rw [if_pos h, if_neg (by omega)]
  simp only [Q6.whole, val_words, Int.toNat_natCast]
  rw [show ((E : Int) - (S : Int)).toNat = E - S from by omega]
theorem fld_len {b : Bool} {y s c : Nat} (h : c ≤ 16384) : (words (fld b y s c)).length ≤ 512 := by
  apply words_length_le
  have h1 := fld_lt b y s c
  have h2 : pw 512 = 2 ^ (32 * 512) := pw_two 512
  have h3 : c ≤ 32 * 512 := h
  generalize 32 * 512 = K at h2 h3
  rw [h2]
  exact Nat.lt_of_lt_of_le h1 (Nat.pow_le_pow_right (Nat.zero_lt_succ 1) h3)
section
variable {P : Program} {t : TypeId} {a b : Operand}
theorem bin_quo {n : Nat} (hn : n ≤ 1000000000) : ∀ w, (do eqGuard .quo t a b (.int .i64 ((n : Nat) : Int)) (.int .i64 32); binOp .quo t (.int .i64 ((n : Nat) : Int)) (.int .i64 32) : Sem Value).run P w = .ok (.int .i64 ((n / 32 : Nat) : Int)) w := fun w => by
  have e : ((n : Nat) : Int).tdiv 32 = ((n / 32 : Nat) : Int) := by rw [Int.tdiv_eq_ediv_of_nonneg (by omega)]; omega
  have h := i64In (a := ((n / 32 : Nat) : Int)) (by omega) (by omega)
  rw [show ((n / 32 : Nat) : Int) = ((n : Nat) : Int) / 32 from by omega] at h
  simp [go_sem, e, h]
theorem bin_rem {n : Nat} (hn : n ≤ 1000000000) : ∀ w, (do eqGuard .rem t a b (.int .i64 ((n : Nat) : Int)) (.int .i64 32); binOp .rem t (.int .i64 ((n : Nat) : Int)) (.int .i64 32) : Sem Value).run P w = .ok (.int .i64 ((n % 32 : Nat) : Int)) w := fun w => by
  have e : ((n : Nat) : Int).tmod 32 = ((n % 32 : Nat) : Int) := by rw [Int.tmod_eq_emod_of_nonneg (by omega)]; omega
  have h := i64In (a := ((n % 32 : Nat) : Int)) (by omega) (by omega)
  simp [go_sem, e, h]
theorem bin_shl {x k : Nat} (hx : x ≤ 1) (hk : k < 32) : ∀ w, (do eqGuard .shl t a b (.int .u32 ((x : Nat) : Int)) (.int .i64 ((k : Nat) : Int)); binOp .shl t (.int .u32 ((x : Nat) : Int)) (.int .i64 ((k : Nat) : Int)) : Sem Value).run P w = .ok (.int .u32 ((x * 2 ^ k : Nat) : Int)) w := fun w => by
  have h : ¬ ((k : Nat) : Int) < 0 := by omega
  have h1 : x * 2 ^ k < 4294967296 := by
    have h2 : x * 2 ^ k ≤ 1 * 2 ^ k := Nat.mul_le_mul_right _ hx
    have h3 : 2 ^ k ≤ 2 ^ 31 := Nat.pow_le_pow_right (by decide) (by omega)
    have h4 : (2 : Nat) ^ 31 = 2147483648 := rfl
    omega
  have h5 := wrap_u32 (x * 2 ^ k) h1
  rw [Int.natCast_mul, Int.natCast_pow] at h5
  simp only [Int.cast_ofNat_Int] at h5
  simp [go_sem, h, h5]
theorem bin_subU {k : Nat} (hk : k < 32) : ∀ w, (do eqGuard .sub t a b (.int .u32 ((1 * 2 ^ k : Nat) : Int)) (.int .u32 1); binOp .sub t (.int .u32 ((1 * 2 ^ k : Nat) : Int)) (.int .u32 1) : Sem Value).run P w = .ok (.int .u32 ((2 ^ k - 1 : Nat) : Int)) w := fun w => by
  have h3 : 2 ^ k ≤ 2 ^ 31 := Nat.pow_le_pow_right (by decide) (by omega)
  have h4 : (2 : Nat) ^ 31 = 2147483648 := rfl
  have hp : 0 < 2 ^ k := Nat.pow_pos (by decide)
  have e : ((1 * 2 ^ k : Nat) : Int) - 1 = ((2 ^ k - 1 : Nat) : Int) := by omega
  have h5 := wrap_u32 (2 ^ k - 1) (by omega)
  rw [← e] at h5
  rw [bin_sub h5, e]
end
end Go.Proofs.Ytmibkfihcihphaa
namespace Go.Proofs.Ytmibkfihcihphaa
open Go.RowKit
set_option linter.unusedVariables false
set_option linter.unusedSimpArgs false
/-- A whole number and a row are answered: quotient and rest. -/
def AnsQR (w : World) (z : Int) (n : Nat) (e : Ending) (w' : World) : Prop := ∃ o c u k, e = .returned (.tuple #[.agg #[.bool (rb z), .slice o (words z.natAbs).length c], .slice u (words n).length k]) ∧ Sc w' o c (words z.natAbs) ∧ Sc w' u k (words n) ∧ Below w.heap.size w w'
theorem zq_unique {x q r : Int} {d : Nat} (hd : d ≠ 0) (h : r + (d : Int) * q = x) (h0 : 0 ≤ r) (h1 : r < d) : x / (d : Int) = q ∧ x % (d : Int) = r :=
  (Int.ediv_emod_unique (by omega)).2 ⟨h, h0, h1⟩
theorem abs_nn {x : Int} (h : rb x = false) : ((x.natAbs : Nat) : Int) = x := by
  have := of_decide_eq_false h
  omega
theorem abs_neg {x : Int} (h : rb x = true) : ((x.natAbs : Nat) : Int) = -x := by
  have := of_decide_eq_true h
  omega
theorem zq_pos {x : Int} {d : Nat} (hd : d ≠ 0) (h : rb x = false) : x / (d : Int) = ((x.natAbs / d : Nat) : Int) ∧ x % (d : Int) = ((x.natAbs % d : Nat) : Int) := by
  have e := abs_nn h
  have k := Nat.mod_add_div x.natAbs d
  have l := Nat.mod_lt x.natAbs (Nat.pos_of_ne_zero hd)
  refine zq_unique hd ?_ (by omega) (by omega)
  have := congrArg (fun n : Nat => (n : Int)) k
  simp only [Int.natCast_add, Int.natCast_mul] at this
  rw [this, e]
theorem zq_neg0 {x : Int} {d : Nat} (hd : d ≠ 0) (h : rb x = true) (h0 : x.natAbs % d = 0) : x / (d : Int) = -((x.natAbs / d : Nat) : Int) ∧ x % (d : Int) = 0 := by
  have e := abs_neg h
  have k := Nat.mod_add_div x.natAbs d
  rw [h0] at k
  refine zq_unique hd ?_ (by omega) (by omega)
  have := congrArg (fun n : Nat => (n : Int)) k
  simp only [Int.natCast_add, Int.natCast_mul] at this
  rw [Int.mul_neg]
  omega
theorem zq_neg1 {x : Int} {d : Nat} (hd : d ≠ 0) (h : rb x = true) (h0 : x.natAbs % d ≠ 0) : x / (d : Int) = -((x.natAbs / d + 1 : Nat) : Int) ∧ x % (d : Int) = ((d - x.natAbs % d : Nat) : Int) := by
  have e := abs_neg h
  have k := Nat.mod_add_div x.natAbs d
  have l := Nat.mod_lt x.natAbs (Nat.pos_of_ne_zero hd)
  refine zq_unique hd ?_ (by omega) (by omega)
  have := congrArg (fun n : Nat => (n : Int)) k
  simp only [Int.natCast_add, Int.natCast_mul] at this
  rw [Int.mul_neg, Int.natCast_add, Int.mul_add]
  omega
def wantR2 (p q : Q6) : Int := if soundQ p = true ∧ soundQ q = true then (if p.t2.length = 0 ∧ q.t2.length = 0 then 0 else 10) else 2
theorem wantR2_rat {u v x y : Rat} (hu : fitR u) (hv : fitR v) (hx : fitR x) (hy : fitR y) : wantR2 (Q6.rat u v) (Q6.rat x y) = if v = 0 ∧ y = 0 then 0 else 10 := by
  have key : ∀ r : Rat, (words r.num.natAbs).length = 0 ↔ r = 0 := fun r => by
    constructor
    · intro e
      have e1 := words_eq_nil.1 (List.length_eq_zero_iff.1 e)
      exact Rat.num_eq_zero.1 (by omega)
    · intro h
      rw [h, show (0 : Rat).num.natAbs = 0 from rfl, words_zero]
      rfl
  unfold wantR2
  rw [if_pos ⟨soundQ_rat hu hv, soundQ_rat hx hy⟩]
  simp only [Q6.rat, key]
theorem wantR2_ok {p q : Q6} (h : wantR2 p q = 0) : soundQ p = true ∧ soundQ q = true := by
  unfold wantR2 at h
  by_cases k : soundQ p = true ∧ soundQ q = true
  · exact k
  · rw [if_neg k] at h; exact absurd h (by decide)
theorem bne_of {x : Int} (h : x ≠ 0) : (x != 0) = true := by simpa using h
/-- The quotient downwards, its sign turned with the divisor's, and the rest. -/
def dmT (x1 x2 : Int) (d1 d2 : Nat) : Int := if rb x2 = true then -(x1 * (d2 : Int) / ((x2.natAbs * d1 : Nat) : Int)) else x1 * (d2 : Int) / ((x2.natAbs * d1 : Nat) : Int)
def dmR (x1 x2 : Int) (d1 d2 : Nat) : Nat := (x1 * (d2 : Int) % ((x2.natAbs * d1 : Nat) : Int)).toNat
/-- Two real numbers over their bottoms are answered. -/
def AnsRR (w : World) (x : Int) (d : Nat) (y : Int) (k : Nat) (e : Ending) (w' : World) : Prop := ∃ o1 c1 o2 c2 o3 c3 o4 c4, e = .returned (.tuple #[.agg #[.bool (rb x), .slice o1 (words x.natAbs).length c1, .bool false, .slice none 0 0, .slice o2 (words d).length c2], .agg #[.bool (rb y), .slice o3 (words y.natAbs).length c3, .bool false, .slice none 0 0, .slice o4 (words k).length c4]]) ∧ Sc w' o1 c1 (words x.natAbs) ∧ Sc w' o2 c2 (words d) ∧ Sc w' o3 c3 (words y.natAbs) ∧ Sc w' o4 c4 (words k) ∧ Below w.heap.size w w'
/-- Two numbers and an error's number are answered. -/
def AnsNN (w : World) (t : Q6 × Q6 × Int) (e : Ending) (w' : World) : Prop := ∃ o1 c1 o2 c2 o3 c3 o4 c4 s1 k1 s2 k2 s3 k3 s4 k4, e = .returned (.tuple #[numV t.1 o1 c1 o2 c2 o3 c3 o4 c4, numV t.2.1 s1 k1 s2 k2 s3 k3 s4 k4, .int .i64 t.2.2]) ∧ Nm w' t.1 o1 c1 o2 c2 o3 c3 o4 c4 ∧ Nm w' t.2.1 s1 k1 s2 k2 s3 k3 s4 k4 ∧ Below w.heap.size w w'
def dmS (z1 z2 : Q6 × Int) : Q6 × Q6 × Int := if z1.2 = 0 then (if z2.2 = 0 then (z1.1, z2.1, 0) else (Q6.zero, Q6.zero, z2.2)) else (Q6.zero, Q6.zero, z1.2)
theorem dmS_1 {z1 z2 : Q6 × Int} (h : (z1.2 != 0) = true) : dmS z1 z2 = (Q6.zero, Q6.zero, z1.2) := by
  unfold dmS
  rw [if_neg (by simpa using h)]
theorem dmS_2 {z1 z2 : Q6 × Int} (h : (z1.2 != 0) = false) (k : (z2.2 != 0) = true) : dmS z1 z2 = (Q6.zero, Q6.zero, z2.2) := by
  unfold dmS
  rw [if_pos (by simpa using h), if_neg (by simpa using k)]
theorem dmS_3 {z1 z2 : Q6 × Int} (h : (z1.2 != 0) = false) (k : (z2.2 != 0) = false) : dmS z1 z2 = (z1.1, z2.1, 0) := by
  unfold dmS
  rw [if_pos (by simpa using h), if_pos (by simpa using k)]
theorem dmT_len {x1 x2 : Int} {d1 d2 k : Nat} (hk : 1 ≤ k) (h1 : (words x1.natAbs).length ≤ k) (h2 : (words d2).length ≤ k) : (words (dmT x1 x2 d1 d2).natAbs).length ≤ k + k + 1 := by
  have key : ∀ (z : Int) (n : Nat), (words (z / (n : Int)).natAbs).length ≤ (words (z.natAbs + 1)).length := fun z n => by
    apply words_mono
    by_cases hn : n = 0
    · subst hn; simp
    · rcases Int.lt_or_le z 0 with h | h
      · by_cases h0 : z.natAbs % n = 0
        · rw [(zq_neg0 hn (decide_eq_true h) h0).1, Int.natAbs_neg, Int.natAbs_natCast]
          have := Nat.div_le_self z.natAbs n
          omega
        · rw [(zq_neg1 hn (decide_eq_true h) h0).1, Int.natAbs_neg, Int.natAbs_natCast]
          have := Nat.div_le_self z.natAbs n
          omega
      · rw [(zq_pos hn (decide_eq_false (by omega))).1, Int.natAbs_natCast]
        have := Nat.div_le_self z.natAbs n
        omega
  have hm : (words ((x1 * (d2 : Int)).natAbs + 1)).length ≤ k + k + 1 := words_add_length (abs_mul_len h1 (nat_abs_len h2)) (by
    rw [words_one]
    show 1 ≤ k + k
    omega)
  unfold dmT
  split
  · rw [Int.natAbs_neg]; exact Nat.le_trans (key _ _) hm
  · exact Nat.le_trans (key _ _) hm
theorem dmR_len {x1 x2 : Int} {d1 d2 k : Nat} (h : x2.natAbs * d1 ≠ 0) (h1 : (words x2.natAbs).length ≤ k) (h2 : (words d1).length ≤ k) : (words ((dmR x1 x2 d1 d2 : Nat) : Int).natAbs).length ≤ k + k := by
  rw [Int.natAbs_natCast]
  refine Nat.le_trans (words_mono ?_) (words_mul_length h1 h2)
  unfold dmR
  have := Int.emod_lt_of_pos (x1 * (d2 : Int)) (show (0 : Int) < ((x2.natAbs * d1 : Nat) : Int) by omega)
  omega
end Go.Proofs.Ytmibkfihcihphaa
namespace Go.Proofs.Ytmibkfihcihphaa
open Go.RowKit
set_option linter.unusedVariables false
set_option linter.unusedSimpArgs false
def quoR (u x : Rat) : Int := dmT (spX u 0) (spX x 0) (spD u 0) (spD x 0)
def remR (u x : Rat) : Rat := mkRat (dmR (spX u 0) (spX x 0) (spD u 0) (spD x 0)) (spD u 0 * spD x 0)
def dmQ (p q : Q6) : Q6 × Q6 × Int :=
  if wantR2 p q = 0 then
    if reQ q = 0 then (Q6.zero, Q6.zero, 3) else dmS (ratS (mkRat (quoR (reQ p) (reQ q)) 1) 0) (ratS (remR (reQ p) (reQ q)) 0)
  else (Q6.zero, Q6.zero, wantR2 p q)
theorem spX_ne {x : Rat} (h : x ≠ 0) : spX x 0 ≠ 0 := fun e => by
  have := spX_mk x 0
  rw [e, Rat.zero_mkRat] at this
  exact h this.symm
end Go.Proofs.Ytmibkfihcihphaa
namespace Go.Proofs.Ytmibkfihcihphaa
open Go.RowKit
set_option linter.unusedVariables false
set_option linter.unusedSimpArgs false
theorem lenQ_dm (p q : Q6) : LenQ (dmQ p q).1 ∧ LenQ (dmQ p q).2.1 := by
  unfold dmQ
  split
  · split
    · exact ⟨lenQ_z, lenQ_z⟩
    · unfold dmS
      split
      · split
        · exact ⟨lenQ_ratS _ _, lenQ_ratS _ _⟩
        · exact ⟨lenQ_z, lenQ_z⟩
      · exact ⟨lenQ_z, lenQ_z⟩
  · exact ⟨lenQ_z, lenQ_z⟩
end Go.Proofs.Ytmibkfihcihphaa
namespace Go.Proofs.Ytmibkfihcihphaa
open Go.RowKit
set_option linter.unusedVariables false
set_option linter.unusedSimpArgs false
theorem and_or_add : ∀ (n x y : Nat), x < 2 ^ n → y < 2 ^ n → (x &&& y) + (x ||| y) = x + y ∧ (x ^^^ y) + (x &&& y) = x ||| y
  | 0, x, y, hx, hy => by
    obtain rfl : x = 0 := by simpa using hx
    obtain rfl : y = 0 := by simpa using hy
    exact ⟨rfl, rfl⟩
  | n + 1, x, y, hx, hy => by
    obtain ⟨h1, h2⟩ := and_or_add n (x / 2) (y / 2) (by rw [Nat.pow_succ] at hx; omega) (by rw [Nat.pow_succ] at hy; omega)
    rw [← Nat.and_div_two, ← Nat.or_div_two] at h1 h2
    rw [← Nat.xor_div_two] at h2
    have a1 : (x &&& y) % 2 = (x % 2) &&& (y % 2) := Nat.and_mod_two_pow (n := 1)
    have a2 : (x ||| y) % 2 = (x % 2) ||| (y % 2) := Nat.or_mod_two_pow (n := 1)
    have a3 : (x ^^^ y) % 2 = (x % 2) ^^^ (y % 2) := Nat.xor_mod_two_pow (n := 1)
    rcases Nat.mod_two_eq_zero_or_one x with e1 | e1 <;> rcases Nat.mod_two_eq_zero_or_one y with e2 | e2 <;>
      · rw [e1, e2] at a1 a2 a3
        simp only [Nat.zero_and, Nat.and_self, Nat.or_self, Nat.zero_or, Nat.or_zero, Nat.and_zero, Nat.xor_self, Nat.zero_xor, Nat.xor_zero] at a1 a2 a3
        omega
/-- The whole number of a row without end. -/
def zrow (b : Bool) (y : Nat) : Int := if b = true then -((y : Int) + 1) else (y : Int)
theorem zrow_sgn {b : Bool} {x : Nat} (h : b.toNat ≤ x) : zrow b (x - b.toNat) = sgn b x := by
  unfold zrow sgn
  cases b with
  | false => simp
  | true =>
    simp at h ⊢
    omega
theorem sgn_zrow (b : Bool) (y : Nat) : sgn b (y + b.toNat) = zrow b y := by
  unfold zrow sgn
  cases b with
  | false => simp
  | true => simp
theorem rowL_succ (b : Bool) (y n : Nat) : rowL b y (n + 1) = rowL b y n ++ [rwd b y n] := by simp [rowL, List.range_succ]
theorem xor_ones {x : Nat} (h : x < 4294967296) : x ^^^ 4294967295 = 4294967295 - x := by
  have k := and_or_add 32 x 4294967295 h (by decide)
  have e : x &&& 4294967295 = x := by
    rw [show (4294967295 : Nat) = 2 ^ 32 - 1 from rfl, Nat.and_two_pow_sub_one_eq_mod]
    exact Nat.mod_eq_of_lt h
  omega
theorem pw_succ' (n : Nat) : pw (n + 1) = pw n * 4294967296 := by rw [pw_succ, Nat.mul_comm]
theorem lt_pw_of_len {y n : Nat} (h : (words y).length ≤ n) : y < pw n := (Nat.div_eq_zero_iff_lt (pw_pos n)).1 (div_words_length y n h)
theorem rowL_val (b : Bool) (y : Nat) : ∀ n, (val (rowL b y n) : Int) = (if b = true then (pw n : Int) - 1 - ((y % pw n : Nat) : Int) else ((y % pw n : Nat) : Int))
  | 0 => by cases b <;> simp [rowL, pw, Nat.mod_one, val_nil]
  | n + 1 => by
    have ih := rowL_val b y n
    have hs : y % pw (n + 1) = y % pw n + pw n * (y / pw n % 4294967296) := by rw [pw_succ', Nat.mod_mul]
    rw [rowL_succ, val_snoc, rowL_len]
    have hp := pw_succ' n
    have hl : y / pw n % 4294967296 < 4294967296 := Nat.mod_lt _ (by decide)
    unfold rwd
    cases b with
    | false =>
      simp only [Bool.toNat_false, Nat.zero_mul, Nat.xor_zero] at *
      simp only [Bool.false_eq_true, if_false] at ih ⊢
      rw [hs]
      generalize pw n * (y / pw n % 4294967296) = A at *
      omega
    | true =>
      simp only [Bool.toNat_true, Nat.one_mul] at *
      rw [xor_ones hl]
      simp only [if_true] at ih ⊢
      rw [hs, hp]
      have e : pw n * (4294967295 - y / pw n % 4294967296) + pw n * (y / pw n % 4294967296) = pw n * 4294967295 := by rw [← Nat.mul_add]; congr 1; omega
      generalize pw n * (y / pw n % 4294967296) = A at *
      generalize pw n * (4294967295 - y / pw n % 4294967296) = C at *
      omega
theorem zrow_val {b : Bool} {y n : Nat} (h : (words y).length ≤ n) : zrow b y = (val (rowL b y n) : Int) - ((b.toNat * pw n : Nat) : Int) := by
  have hy : y < pw n := lt_pw_of_len h
  rw [rowL_val, Nat.mod_eq_of_lt hy]
  unfold zrow
  cases b with
  | false => simp
  | true => simp; omega
section
variable {fop : Nat → Nat → Nat} {fb : Bool → Bool → Bool} {b1 b2 : Bool} {y1 y2 : Nat}
end
theorem want1_whole {b : Bool} {x : Nat} (hx : (words x).length ≤ 512) (hb : b.toNat ≤ x) : want1 (Q6.whole b x) = 0 := by
  unfold want1
  rw [soundQ_whole hx hb, wholeQ_whole hx hb]
  simp
theorem bigS_ok {b : Bool} {z : Nat} (h : (bigS b z).2 = 0) : bigS b z = (Q6.whole b z, 0) ∧ (words z).length ≤ 512 := by
  unfold bigS at *
  by_cases k : (words z).length ≤ 512
  · rw [if_pos k]; exact ⟨rfl, k⟩
  · rw [if_neg k] at h; exact absurd h (by decide)
section
variable {fop : Nat → Nat → Nat} {fb : Bool → Bool → Bool}
end
end Go.Proofs.Ytmibkfihcihphaa
namespace Go.Proofs.Ytmibkfihcihphaa
open Go.RowKit
set_option linter.unusedVariables false
set_option linter.unusedSimpArgs false
set_option maxRecDepth 100000
theorem lenQ_bigS (b : Bool) (z : Nat) : LenQ (bigS b z).1 := by
  unfold bigS
  split
  · rename_i h; exact lenQ_whole h
  · exact lenQ_z
end Go.Proofs.Ytmibkfihcihphaa
namespace Go.Proofs.Ytmibkfihcihphaa
open Go.RowKit
set_option linter.unusedVariables false
set_option linter.unusedSimpArgs false
set_option maxRecDepth 100000
theorem ExO_is1_22 : Is1 Try.prog 22 := ⟨⟨_, Try.underlying22, rfl⟩, by kernel_rfl⟩
theorem ExO_is1_4 : Is1 Try.prog 4 := ⟨⟨_, Try.underlying4, rfl⟩, by kernel_rfl⟩
theorem ExO_fld_46_0 : FieldAt Try.prog 46 0 0 := ⟨_, _, Try.underlying46, rfl, rfl, by kernel_rfl⟩
theorem ExO_fld_46_1 : FieldAt Try.prog 46 1 1 := ⟨_, _, Try.underlying46, rfl, rfl, by kernel_rfl⟩
theorem ExO_isS_26 : IsS Try.prog 26 6 := ⟨⟨_, Try.underlying26⟩, by kernel_rfl⟩
theorem ExO_isS_46 : IsS Try.prog 46 2 := ⟨⟨_, Try.underlying46⟩, by kernel_rfl⟩
theorem sgn_qp {x : Int} {d : Nat} (hd : d ≠ 0) (h : rb x = false) : sgn false (x.natAbs / d) = x / (d : Int) := by rw [(zq_pos hd h).1]; rfl
theorem sgn_qz {x : Int} {d : Nat} (hd : d ≠ 0) (h : rb x = true) (h0 : x.natAbs % d = 0) : sgn true (x.natAbs / d) = x / (d : Int) := by rw [(zq_neg0 hd h h0).1]; rfl
theorem sgn_qn {x : Int} {d : Nat} (hd : d ≠ 0) (h : rb x = true) (h0 : x.natAbs % d ≠ 0) : sgn true (x.natAbs / d + 1) = x / (d : Int) := by rw [(zq_neg1 hd h h0).1]; rfl
theorem zoverP_any {w : World} {x : Int} {d : Nat} {so : Option Addr} {soc : Nat} (hso : Sc w so soc (words x.natAbs)) {uo : Option Addr} {uoc : Nat} (huo : Sc w uo uoc (words d)) (lx : (words x.natAbs).length ≤ 40000) (ld : (words d).length ≤ 40000) (hd : d ≠ 0) (hb : rb x = false) : Calls Try.prog 67 #[.agg #[.bool false, .slice so (words x.natAbs).length soc], .slice uo (words d).length uoc] w (AnsQR w (x / (d : Int)) (x % (d : Int)).toNat) := by
  have hS : St w w [] [(uo, words d), (so, words x.natAbs)] [] := ((St.start w).addR hso.rd).addR huo.rd
  refine walk_of (l := [(0, .agg #[.bool false, .slice so ((words x.natAbs).length) soc]), (1, .slice uo ((words d).length) uoc)]) Try.func67 rfl Try.ntmps67 rfl rfl ?_
  intro Q hret hnorm hP a hA
  refine wp_seq_k (fun K1 hK1 => ?_)
  refine wp_region_lit ?_
  refine seq_new (vs := [.bool false, .slice so ((words x.natAbs).length) soc]) (t := 46) hA hS rfl rfl rfl (fun g => .pointer (some ⟨g, 0, none⟩)) (does_box rfl rfl) rfl ?_
  intro g2 w3 hS a hA
  refine seq_new (vs := [.bool false, .slice none 0 0]) (t := 46) hA hS rfl rfl rfl (fun g => .pointer (some ⟨g, 0, none⟩)) (does_alloc (z := .agg #[.bool false, .slice none 0 0]) (by kernel_rfl) rfl) rfl ?_
  intro g4 w5 hS a hA
  refine seq_do hA rfl rfl rfl (does_assign rfl) ?_
  intro a hA
  refine seq_end ?_
  refine hK1 _ _ ?_
  refine wp_seq_k (fun K6 hK6 => ?_)
  refine wp_region_lit ?_
  refine seq_do (v := .pointer (some ⟨g2, 1, none⟩)) hA rfl rfl rfl (does_field ExO_fld_46_1 rfl rfl) ?_
  intro a hA
  refine seq_do hA rfl rfl rfl (does_load1 hS ExO_is1_22 rfl 1 rfl rfl) ?_
  intro a hA
  refine seq_do hA rfl rfl rfl (does_move rfl) ?_
  intro a hA
  refine seq_call hA rfl rfl rfl (enters_func  rfl rfl (fun w => by kernel_rfl)) (divide_any _ _ (hS.rd 1 rfl) (hS.rd 0 rfl) (by omega) (by omega) hso.nil hd) ?_
  rintro _ w14 ⟨ro7, rc8, uo9, uc10, rfl, ho11, hp12, hb13⟩
  replace hS := hS.call hb13
  replace hS := hS.addR ho11.rd
  replace hS := hS.addR hp12.rd
  refine ⟨_, rfl, ?_⟩
  intro a hA
  refine seq_do hA rfl rfl rfl (does_move rfl) ?_
  intro a hA
  refine seq_do (v := .slice ro7 ((words (x.natAbs / d)).length) rc8) hA rfl rfl rfl (does_extract (vs := [.slice ro7 ((words (x.natAbs / d)).length) rc8, .slice uo9 ((words (x.natAbs % d)).length) uc10]) rfl rfl) ?_
  intro a hA
  refine seq_do (v := .slice uo9 ((words (x.natAbs % d)).length) uc10) hA rfl rfl rfl (does_extract (vs := [.slice ro7 ((words (x.natAbs / d)).length) rc8, .slice uo9 ((words (x.natAbs % d)).length) uc10]) rfl rfl) ?_
  intro a hA
  refine seq_do hA rfl rfl rfl (does_assign rfl) ?_
  intro a hA
  refine seq_do hA rfl rfl rfl (does_assign rfl) ?_
  intro a hA
  refine seq_end ?_
  refine hK6 _ _ ?_
  refine wp_seq_k (fun K15 hK15 => ?_)
  refine wp_seq_k (fun K16 hK16 => ?_)
  refine wp_region_lit ?_
  refine seq_do (v := .pointer (some ⟨g2, 0, none⟩)) hA rfl rfl rfl (does_field ExO_fld_46_0 rfl rfl) ?_
  intro a hA
  refine seq_do hA rfl rfl rfl (does_load1 hS ExO_is1_4 rfl 1 rfl rfl) ?_
  intro a hA
  refine seq_do hA rfl rfl rfl (does_move rfl) ?_
  intro a hA
  refine seq_skip hA rfl rfl rfl ?_
  intro a hA
  refine seq_skip hA rfl rfl rfl ?_
  intro a hA
  refine seq_skip hA rfl rfl rfl ?_
  intro a hA
  refine seq_do (v := .bool false) hA rfl rfl rfl (does_pick rfl rfl rfl rfl) ?_
  intro a hA
  refine seq_end ?_
  refine hK16 _ _ ?_
  refine wp_cond_false (hA.ev rfl) ?_
  refine wp_skip ?_
  refine hK15 _ _ ?_
  refine wp_seq_k (fun K17 hK17 => ?_)
  refine wp_region_lit ?_
  refine seq_do (v := .pointer (some ⟨g2, 0, none⟩)) hA rfl rfl rfl (does_field ExO_fld_46_0 rfl rfl) ?_
  intro a hA
  refine seq_do hA rfl rfl rfl (does_load1 hS ExO_is1_4 rfl 1 rfl rfl) ?_
  intro a hA
  refine seq_do hA rfl rfl rfl (does_move rfl) ?_
  intro a hA
  refine seq_call hA rfl rfl rfl (enters_func  rfl rfl (fun w => by kernel_rfl)) (zsigned_any (b := false) (n := x.natAbs / d) (z := (x / (d : Int))) ⟨(hS.rd 1 rfl), ho11.nocap, ho11.caps⟩ (sgn_qp hd hb)) ?_
  rintro _ w22 ⟨zo18, zc19, rfl, hs20, hb21⟩
  replace hS := hS.call hb21
  replace hS := hS.addR hs20.rd
  refine ⟨_, rfl, ?_⟩
  intro a hA
  refine seq_do hA rfl rfl rfl (does_move rfl) ?_
  intro a hA
  refine seq_store (us := [.bool ((rb ((x / (d : Int))))), .slice zo18 ((words ((x / (d : Int))).natAbs).length) zc19]) hA hS rfl rfl (sets_store (cs := [.bool ((rb ((x / (d : Int))))), .slice zo18 ((words ((x / (d : Int))).natAbs).length) zc19]) rfl rfl rfl (by kernel_rfl) hS 0 rfl rfl rfl) 0 rfl rfl rfl rfl ?_
  intro w23 hS
  refine seq_do hA rfl rfl rfl (does_assign rfl) ?_
  intro a hA
  refine seq_end ?_
  refine hK17 _ _ ?_
  refine wp_ret ?_
  refine hret _ _ ?_
  refine ends (v := .tuple #[.agg #[.bool ((rb ((x / (d : Int))))), .slice zo18 ((words ((x / (d : Int))).natAbs).length) zc19], .slice uo9 ((words (x.natAbs % d)).length) uc10]) hA rfl (.cons (res_cell hS ExO_isS_46 rfl 0 rfl (cs := [.bool ((rb ((x / (d : Int))))), .slice zo18 ((words ((x / (d : Int))).natAbs).length) zc19]) rfl rfl) (.cons (res_tmp rfl) .nil)) rfl ?_
  rw [show ((x % (d : Int)).toNat) = x.natAbs % d from by rw [(zq_pos hd hb).2]; first | rfl | (rw [h0]; rfl)]
  exact ⟨zo18, zc19, uo9, uc10, rfl, ⟨(hS.rd 0 rfl), hs20.nil, hs20.cap⟩, ⟨(hS.rd 1 rfl), hp12.nocap, hp12.caps⟩, hS.bel⟩
theorem zoverZ_any {w : World} {x : Int} {d : Nat} {so : Option Addr} {soc : Nat} (hso : Sc w so soc (words x.natAbs)) {uo : Option Addr} {uoc : Nat} (huo : Sc w uo uoc (words d)) (lx : (words x.natAbs).length ≤ 40000) (ld : (words d).length ≤ 40000) (hd : d ≠ 0) (hb : rb x = true) (h0 : x.natAbs % d = 0) : Calls Try.prog 67 #[.agg #[.bool true, .slice so (words x.natAbs).length soc], .slice uo (words d).length uoc] w (AnsQR w (x / (d : Int)) (x % (d : Int)).toNat) := by
  have hS : St w w [] [(uo, words d), (so, words x.natAbs)] [] := ((St.start w).addR hso.rd).addR huo.rd
  refine walk_of (l := [(0, .agg #[.bool true, .slice so ((words x.natAbs).length) soc]), (1, .slice uo ((words d).length) uoc)]) Try.func67 rfl Try.ntmps67 rfl rfl ?_
  intro Q hret hnorm hP a hA
  refine wp_seq_k (fun K1 hK1 => ?_)
  refine wp_region_lit ?_
  refine seq_new (vs := [.bool true, .slice so ((words x.natAbs).length) soc]) (t := 46) hA hS rfl rfl rfl (fun g => .pointer (some ⟨g, 0, none⟩)) (does_box rfl rfl) rfl ?_
  intro g2 w3 hS a hA
  refine seq_new (vs := [.bool false, .slice none 0 0]) (t := 46) hA hS rfl rfl rfl (fun g => .pointer (some ⟨g, 0, none⟩)) (does_alloc (z := .agg #[.bool false, .slice none 0 0]) (by kernel_rfl) rfl) rfl ?_
  intro g4 w5 hS a hA
  refine seq_do hA rfl rfl rfl (does_assign rfl) ?_
  intro a hA
  refine seq_end ?_
  refine hK1 _ _ ?_
  refine wp_seq_k (fun K6 hK6 => ?_)
  refine wp_region_lit ?_
  refine seq_do (v := .pointer (some ⟨g2, 1, none⟩)) hA rfl rfl rfl (does_field ExO_fld_46_1 rfl rfl) ?_
  intro a hA
  refine seq_do hA rfl rfl rfl (does_load1 hS ExO_is1_22 rfl 1 rfl rfl) ?_
  intro a hA
  refine seq_do hA rfl rfl rfl (does_move rfl) ?_
  intro a hA
  refine seq_call hA rfl rfl rfl (enters_func  rfl rfl (fun w => by kernel_rfl)) (divide_any _ _ (hS.rd 1 rfl) (hS.rd 0 rfl) (by omega) (by omega) hso.nil hd) ?_
  rintro _ w14 ⟨ro7, rc8, uo9, uc10, rfl, ho11, hp12, hb13⟩
  replace hS := hS.call hb13
  replace hS := hS.addR ho11.rd
  replace hS := hS.addR hp12.rd
  refine ⟨_, rfl, ?_⟩
  intro a hA
  refine seq_do hA rfl rfl rfl (does_move rfl) ?_
  intro a hA
  refine seq_do (v := .slice ro7 ((words (x.natAbs / d)).length) rc8) hA rfl rfl rfl (does_extract (vs := [.slice ro7 ((words (x.natAbs / d)).length) rc8, .slice uo9 ((words (x.natAbs % d)).length) uc10]) rfl rfl) ?_
  intro a hA
  refine seq_do (v := .slice uo9 ((words (x.natAbs % d)).length) uc10) hA rfl rfl rfl (does_extract (vs := [.slice ro7 ((words (x.natAbs / d)).length) rc8, .slice uo9 ((words (x.natAbs % d)).length) uc10]) rfl rfl) ?_
  intro a hA
  refine seq_do hA rfl rfl rfl (does_assign rfl) ?_
  intro a hA
  refine seq_do hA rfl rfl rfl (does_assign rfl) ?_
  intro a hA
  refine seq_end ?_
  refine hK6 _ _ ?_
  refine wp_seq_k (fun K15 hK15 => ?_)
  refine wp_seq_k (fun K16 hK16 => ?_)
  refine wp_region_lit ?_
  refine seq_do (v := .pointer (some ⟨g2, 0, none⟩)) hA rfl rfl rfl (does_field ExO_fld_46_0 rfl rfl) ?_
  intro a hA
  refine seq_do hA rfl rfl rfl (does_load1 hS ExO_is1_4 rfl 1 rfl rfl) ?_
  intro a hA
  refine seq_do hA rfl rfl rfl (does_move rfl) ?_
  intro a hA
  refine seq_do hA rfl rfl rfl (does_move rfl) ?_
  intro a hA
  refine seq_do (v := .int .i64 ((((words (x.natAbs % d)).length : Nat) : Int))) hA rfl rfl rfl (does_len Try.underlying22 rfl) ?_
  intro a hA
  refine seq_do (v := .bool false) hA rfl rfl rfl (does_bin rfl rfl (fun w => (bin_gtr w).trans (by rw [show (decide (0 < (((words (x.natAbs % d)).length : Nat) : Int))) = false from decide_eq_false (by rw [h0, words_zero]; decide)]))) ?_
  intro a hA
  refine seq_do (v := .bool false) hA rfl rfl rfl (does_pick rfl rfl rfl rfl) ?_
  intro a hA
  refine seq_end ?_
  refine hK16 _ _ ?_
  refine wp_cond_false (hA.ev rfl) ?_
  refine wp_skip ?_
  refine hK15 _ _ ?_
  refine wp_seq_k (fun K17 hK17 => ?_)
  refine wp_region_lit ?_
  refine seq_do (v := .pointer (some ⟨g2, 0, none⟩)) hA rfl rfl rfl (does_field ExO_fld_46_0 rfl rfl) ?_
  intro a hA
  refine seq_do hA rfl rfl rfl (does_load1 hS ExO_is1_4 rfl 1 rfl rfl) ?_
  intro a hA
  refine seq_do hA rfl rfl rfl (does_move rfl) ?_
  intro a hA
  refine seq_call hA rfl rfl rfl (enters_func  rfl rfl (fun w => by kernel_rfl)) (zsigned_any (b := true) (n := x.natAbs / d) (z := (x / (d : Int))) ⟨(hS.rd 1 rfl), ho11.nocap, ho11.caps⟩ (sgn_qz hd hb h0)) ?_
  rintro _ w22 ⟨zo18, zc19, rfl, hs20, hb21⟩
  replace hS := hS.call hb21
  replace hS := hS.addR hs20.rd
  refine ⟨_, rfl, ?_⟩
  intro a hA
  refine seq_do hA rfl rfl rfl (does_move rfl) ?_
  intro a hA
  refine seq_store (us := [.bool ((rb ((x / (d : Int))))), .slice zo18 ((words ((x / (d : Int))).natAbs).length) zc19]) hA hS rfl rfl (sets_store (cs := [.bool ((rb ((x / (d : Int))))), .slice zo18 ((words ((x / (d : Int))).natAbs).length) zc19]) rfl rfl rfl (by kernel_rfl) hS 0 rfl rfl rfl) 0 rfl rfl rfl rfl ?_
  intro w23 hS
  refine seq_do hA rfl rfl rfl (does_assign rfl) ?_
  intro a hA
  refine seq_end ?_
  refine hK17 _ _ ?_
  refine wp_ret ?_
  refine hret _ _ ?_
  refine ends (v := .tuple #[.agg #[.bool ((rb ((x / (d : Int))))), .slice zo18 ((words ((x / (d : Int))).natAbs).length) zc19], .slice uo9 ((words (x.natAbs % d)).length) uc10]) hA rfl (.cons (res_cell hS ExO_isS_46 rfl 0 rfl (cs := [.bool ((rb ((x / (d : Int))))), .slice zo18 ((words ((x / (d : Int))).natAbs).length) zc19]) rfl rfl) (.cons (res_tmp rfl) .nil)) rfl ?_
  rw [show ((x % (d : Int)).toNat) = x.natAbs % d from by rw [(zq_neg0 hd hb h0).2]; first | rfl | (rw [h0]; rfl)]
  exact ⟨zo18, zc19, uo9, uc10, rfl, ⟨(hS.rd 0 rfl), hs20.nil, hs20.cap⟩, ⟨(hS.rd 1 rfl), hp12.nocap, hp12.caps⟩, hS.bel⟩
theorem zoverN_any {w : World} {x : Int} {d : Nat} {so : Option Addr} {soc : Nat} (hso : Sc w so soc (words x.natAbs)) {uo : Option Addr} {uoc : Nat} (huo : Sc w uo uoc (words d)) (lx : (words x.natAbs).length ≤ 40000) (ld : (words d).length ≤ 40000) (hd : d ≠ 0) (hb : rb x = true) (h0 : x.natAbs % d ≠ 0) : Calls Try.prog 67 #[.agg #[.bool true, .slice so (words x.natAbs).length soc], .slice uo (words d).length uoc] w (AnsQR w (x / (d : Int)) (x % (d : Int)).toNat) := by
  have k1 : (words (x.natAbs / d)).length ≤ 40000 := div_len lx
  have k2 : (words 1).length ≤ 512 := one_len
  have k3 : (words (x.natAbs % d)).length ≤ 40000 := Nat.le_trans (words_mono (Nat.mod_le _ _)) lx
  have k4 := Nat.mod_lt x.natAbs (Nat.pos_of_ne_zero hd)
  have hS : St w w [] [(uo, words d), (so, words x.natAbs)] [] := ((St.start w).addR hso.rd).addR huo.rd
  refine walk_of (l := [(0, .agg #[.bool true, .slice so ((words x.natAbs).length) soc]), (1, .slice uo ((words d).length) uoc)]) Try.func67 rfl Try.ntmps67 rfl rfl ?_
  intro Q hret hnorm hP a hA
  refine wp_seq_k (fun K1 hK1 => ?_)
  refine wp_region_lit ?_
  refine seq_new (vs := [.bool true, .slice so ((words x.natAbs).length) soc]) (t := 46) hA hS rfl rfl rfl (fun g => .pointer (some ⟨g, 0, none⟩)) (does_box rfl rfl) rfl ?_
  intro g2 w3 hS a hA
  refine seq_new (vs := [.bool false, .slice none 0 0]) (t := 46) hA hS rfl rfl rfl (fun g => .pointer (some ⟨g, 0, none⟩)) (does_alloc (z := .agg #[.bool false, .slice none 0 0]) (by kernel_rfl) rfl) rfl ?_
  intro g4 w5 hS a hA
  refine seq_do hA rfl rfl rfl (does_assign rfl) ?_
  intro a hA
  refine seq_end ?_
  refine hK1 _ _ ?_
  refine wp_seq_k (fun K6 hK6 => ?_)
  refine wp_region_lit ?_
  refine seq_do (v := .pointer (some ⟨g2, 1, none⟩)) hA rfl rfl rfl (does_field ExO_fld_46_1 rfl rfl) ?_
  intro a hA
  refine seq_do hA rfl rfl rfl (does_load1 hS ExO_is1_22 rfl 1 rfl rfl) ?_
  intro a hA
  refine seq_do hA rfl rfl rfl (does_move rfl) ?_
  intro a hA
  refine seq_call hA rfl rfl rfl (enters_func  rfl rfl (fun w => by kernel_rfl)) (divide_any _ _ (hS.rd 1 rfl) (hS.rd 0 rfl) (by omega) (by omega) hso.nil hd) ?_
  rintro _ w14 ⟨ro7, rc8, uo9, uc10, rfl, ho11, hp12, hb13⟩
  replace hS := hS.call hb13
  replace hS := hS.addR ho11.rd
  replace hS := hS.addR hp12.rd
  refine ⟨_, rfl, ?_⟩
  intro a hA
  refine seq_do hA rfl rfl rfl (does_move rfl) ?_
  intro a hA
  refine seq_do (v := .slice ro7 ((words (x.natAbs / d)).length) rc8) hA rfl rfl rfl (does_extract (vs := [.slice ro7 ((words (x.natAbs / d)).length) rc8, .slice uo9 ((words (x.natAbs % d)).length) uc10]) rfl rfl) ?_
  intro a hA
  refine seq_do (v := .slice uo9 ((words (x.natAbs % d)).length) uc10) hA rfl rfl rfl (does_extract (vs := [.slice ro7 ((words (x.natAbs / d)).length) rc8, .slice uo9 ((words (x.natAbs % d)).length) uc10]) rfl rfl) ?_
  intro a hA
  refine seq_do hA rfl rfl rfl (does_assign rfl) ?_
  intro a hA
  refine seq_do hA rfl rfl rfl (does_assign rfl) ?_
  intro a hA
  refine seq_end ?_
  refine hK6 _ _ ?_
  refine wp_seq_k (fun K15 hK15 => ?_)
  refine wp_seq_k (fun K16 hK16 => ?_)
  refine wp_region_lit ?_
  refine seq_do (v := .pointer (some ⟨g2, 0, none⟩)) hA rfl rfl rfl (does_field ExO_fld_46_0 rfl rfl) ?_
  intro a hA
  refine seq_do hA rfl rfl rfl (does_load1 hS ExO_is1_4 rfl 1 rfl rfl) ?_
  intro a hA
  refine seq_do hA rfl rfl rfl (does_move rfl) ?_
  intro a hA
  refine seq_do hA rfl rfl rfl (does_move rfl) ?_
  intro a hA
  refine seq_do (v := .int .i64 ((((words (x.natAbs % d)).length : Nat) : Int))) hA rfl rfl rfl (does_len Try.underlying22 rfl) ?_
  intro a hA
  refine seq_do (v := .bool true) hA rfl rfl rfl (does_bin rfl rfl (fun w => (bin_gtr w).trans (by rw [show (decide (0 < (((words (x.natAbs % d)).length : Nat) : Int))) = true from decide_eq_true (by have h9 := (words_len_pos (x := x.natAbs % d)).2 h0; omega)]))) ?_
  intro a hA
  refine seq_do (v := .bool true) hA rfl rfl rfl (does_pick rfl rfl rfl rfl) ?_
  intro a hA
  refine seq_end ?_
  refine hK16 _ _ ?_
  refine wp_cond_true (hA.ev rfl) ?_
  refine wp_region_lit ?_
  refine seq_do hA rfl rfl rfl (does_move rfl) ?_
  intro a hA
  refine seq_call hA rfl rfl rfl (enters_func  rfl rfl (fun w => by kernel_rfl)) (wof_any 1 _ (by decide)) ?_
  rintro _ w21 ⟨ro17, rc18, rfl, ho19, hb20⟩
  replace hS := hS.call hb20
  replace hS := hS.addR ho19.rd
  refine ⟨_, rfl, ?_⟩
  intro a hA
  refine seq_call hA rfl rfl rfl (enters_func  rfl rfl (fun w => by kernel_rfl)) (sum_any _ _ (hS.rd 2 rfl) (hS.rd 0 rfl) (by omega) (by omega)) ?_
  rintro _ w26 ⟨ro22, rc23, rfl, ho24, hb25⟩
  replace hS := hS.call hb25
  replace hS := hS.addR ho24.rd
  refine ⟨_, rfl, ?_⟩
  intro a hA
  refine seq_do hA rfl rfl rfl (does_move rfl) ?_
  intro a hA
  refine seq_do hA rfl rfl rfl (does_move rfl) ?_
  intro a hA
  refine seq_call hA rfl rfl rfl (enters_func  rfl rfl (fun w => by kernel_rfl)) (difference_any _ _ (hS.rd 4 rfl) (hS.rd 2 rfl) (by omega) (by omega)) ?_
  rintro _ w31 ⟨ro27, rc28, rfl, ho29, hb30⟩
  replace hS := hS.call hb30
  replace hS := hS.addR ho29.rd
  refine ⟨_, rfl, ?_⟩
  intro a hA
  refine seq_do hA rfl rfl rfl (does_assign rfl) ?_
  intro a hA
  refine seq_do hA rfl rfl rfl (does_assign rfl) ?_
  intro a hA
  refine seq_end ?_
  refine hK15 _ _ ?_
  refine wp_seq_k (fun K32 hK32 => ?_)
  refine wp_region_lit ?_
  refine seq_do (v := .pointer (some ⟨g2, 0, none⟩)) hA rfl rfl rfl (does_field ExO_fld_46_0 rfl rfl) ?_
  intro a hA
  refine seq_do hA rfl rfl rfl (does_load1 hS ExO_is1_4 rfl 1 rfl rfl) ?_
  intro a hA
  refine seq_do hA rfl rfl rfl (does_move rfl) ?_
  intro a hA
  refine seq_call hA rfl rfl rfl (enters_func  rfl rfl (fun w => by kernel_rfl)) (zsigned_any (b := true) (n := x.natAbs / d + 1) (z := (x / (d : Int))) ⟨(hS.rd 1 rfl), ho24.nocap, ho24.caps⟩ (sgn_qn hd hb h0)) ?_
  rintro _ w37 ⟨zo33, zc34, rfl, hs35, hb36⟩
  replace hS := hS.call hb36
  replace hS := hS.addR hs35.rd
  refine ⟨_, rfl, ?_⟩
  intro a hA
  refine seq_do hA rfl rfl rfl (does_move rfl) ?_
  intro a hA
  refine seq_store (us := [.bool ((rb ((x / (d : Int))))), .slice zo33 ((words ((x / (d : Int))).natAbs).length) zc34]) hA hS rfl rfl (sets_store (cs := [.bool ((rb ((x / (d : Int))))), .slice zo33 ((words ((x / (d : Int))).natAbs).length) zc34]) rfl rfl rfl (by kernel_rfl) hS 0 rfl rfl rfl) 0 rfl rfl rfl rfl ?_
  intro w38 hS
  refine seq_do hA rfl rfl rfl (does_assign rfl) ?_
  intro a hA
  refine seq_end ?_
  refine hK32 _ _ ?_
  refine wp_ret ?_
  refine hret _ _ ?_
  refine ends (v := .tuple #[.agg #[.bool ((rb ((x / (d : Int))))), .slice zo33 ((words ((x / (d : Int))).natAbs).length) zc34], .slice ro27 ((words (d - x.natAbs % d)).length) rc28]) hA rfl (.cons (res_cell hS ExO_isS_46 rfl 0 rfl (cs := [.bool ((rb ((x / (d : Int))))), .slice zo33 ((words ((x / (d : Int))).natAbs).length) zc34]) rfl rfl) (.cons (res_tmp rfl) .nil)) rfl ?_
  rw [show ((x % (d : Int)).toNat) = (d - x.natAbs % d) from by rw [(zq_neg1 hd hb h0).2]; first | rfl | (rw [h0]; rfl)]
  exact ⟨zo33, zc34, ro27, rc28, rfl, ⟨(hS.rd 0 rfl), hs35.nil, hs35.cap⟩, ⟨(hS.rd 1 rfl), ho29.nocap, ho29.caps⟩, hS.bel⟩
theorem zover_any {w : World} {x : Int} {d : Nat} {so : Option Addr} {soc : Nat} (hso : Sc w so soc (words x.natAbs)) {uo : Option Addr} {uoc : Nat} (huo : Sc w uo uoc (words d)) (lx : (words x.natAbs).length ≤ 40000) (ld : (words d).length ≤ 40000) (hd : d ≠ 0) : Calls Try.prog 67 #[.agg #[.bool (rb x), .slice so (words x.natAbs).length soc], .slice uo (words d).length uoc] w (AnsQR w (x / (d : Int)) (x % (d : Int)).toNat) := by
  cases hb : rb x with
  | false => exact zoverP_any hso huo lx ld hd hb
  | true =>
    by_cases h0 : x.natAbs % d = 0
    · exact zoverZ_any hso huo lx ld hd hb h0
    · exact zoverN_any hso huo lx ld hd hb h0
theorem wantR2_any {w : World} {p : Q6} {a1 a2 a3 a4 : Option Addr} {ac1 ac2 ac3 ac4 : Nat} (ha : Nm w p a1 ac1 a2 ac2 a3 ac3 a4 ac4) (hl : LenQ p) {q : Q6} {b1 b2 b3 b4 : Option Addr} {bc1 bc2 bc3 bc4 : Nat} (hb : Nm w q b1 bc1 b2 bc2 b3 bc3 b4 bc4) (hm : LenQ q) {g : Nat} (hg : Blk w g [.bool p.b1, .slice a1 p.t1.length ac1, .slice a2 p.q1.length ac2, .bool p.b2, .slice a3 p.t2.length ac3, .slice a4 p.q2.length ac4, .bool q.b1, .slice b1 q.t1.length bc1, .slice b2 q.q1.length bc2, .bool q.b2, .slice b3 q.t2.length bc3, .slice b4 q.q2.length bc4]) {r : Int} (hr : wantR2 p q = r) : Calls Try.prog 24 #[.slice (some ⟨g, 0, none⟩) 2 2] w fun e w' => e = .returned (.int .i64 r) ∧ Below w.heap.size w w' := by
  have hS : St w w [] [(b4, q.q2), (b3, q.t2), (b2, q.q1), (b1, q.t1), (a4, p.q2), (a3, p.t2), (a2, p.q1), (a1, p.t1)] [] := ((((((((St.start w).addR ha.s1.rd).addR ha.s2.rd).addR ha.s3.rd).addR ha.s4.rd).addR hb.s1.rd).addR hb.s2.rd).addR hb.s3.rd).addR hb.s4.rd
  refine walk_of (l := [(0, .slice (some ⟨g, 0, none⟩) 2 2)]) Try.func24 rfl Try.ntmps24 rfl rfl ?_
  intro Q hret hnorm hP a hA
  refine wp_seq_k (fun K1 hK1 => ?_)
  refine wp_region_lit ?_
  refine seq_do hA rfl rfl rfl (does_assign rfl) ?_
  intro a hA
  refine seq_end ?_
  refine hK1 _ _ ?_
  refine wp_seq_k (fun K2 hK2 => ?_)
  refine wp_seq_k (fun K3 hK3 => ?_)
  refine wp_region_lit ?_
  refine seq_do hA rfl rfl rfl (does_move rfl) ?_
  intro a hA
  refine seq_do (v := .int .i64 2) hA rfl rfl rfl (does_len Try.underlying79 rfl) ?_
  intro a hA
  refine seq_do hA rfl rfl rfl (does_move rfl) ?_
  intro a hA
  refine seq_end ?_
  refine hK3 _ _ ?_
  refine wp_block ?_
  refine wp_loop_rounds 12 ?_
  refine rounds_k (fun K4 hK4 => ?_)
  refine wp_seq_k (fun K5 hK5 => ?_)
  refine wp_region_lit ?_
  refine seq_do (v := .bool true) hA rfl rfl rfl (does_bin rfl rfl (fun w => by kernel_rfl)) ?_
  intro a hA
  refine seq_end ?_
  refine hK5 _ _ ?_
  refine wp_seq_k (fun K6 hK6 => ?_)
  refine wp_cond_true (hA.ev rfl) ?_
  refine wp_skip ?_
  refine hK6 _ _ ?_
  refine wp_seq_k (fun K7 hK7 => ?_)
  refine wp_block ?_
  refine wp_seq_k (fun K8 hK8 => ?_)
  refine wp_region_lit ?_
  refine seq_do (v := .pointer (some ⟨g, 0, none⟩)) hA rfl rfl rfl (does_indexI rfl rfl (fun w => by kernel_rfl)) ?_
  intro a hA
  refine seq_do (v := .agg #[.bool p.b1, .slice a1 p.t1.length ac1, .slice a2 p.q1.length ac2, .bool p.b2, .slice a3 p.t2.length ac3, .slice a4 p.q2.length ac4]) hA rfl rfl rfl (does_loadSF hS hg ExO_isS_26 rfl (cs := [.bool p.b1, .slice a1 p.t1.length ac1, .slice a2 p.q1.length ac2, .bool p.b2, .slice a3 p.t2.length ac3, .slice a4 p.q2.length ac4]) rfl rfl) ?_
  intro a hA
  refine seq_new (vs := [.bool false, .slice none 0 0, .slice none 0 0, .bool false, .slice none 0 0, .slice none 0 0]) (t := 26) hA hS rfl rfl rfl (fun g => .pointer (some ⟨g, 0, none⟩)) (does_alloc (z := .agg #[.bool false, .slice none 0 0, .slice none 0 0, .bool false, .slice none 0 0, .slice none 0 0]) (by kernel_rfl) rfl) rfl ?_
  intro g9 w10 hS a hA
  refine seq_store (us := [.bool p.b1, .slice a1 p.t1.length ac1, .slice a2 p.q1.length ac2, .bool p.b2, .slice a3 p.t2.length ac3, .slice a4 p.q2.length ac4]) hA hS rfl rfl (sets_store (cs := [.bool p.b1, .slice a1 p.t1.length ac1, .slice a2 p.q1.length ac2, .bool p.b2, .slice a3 p.t2.length ac3, .slice a4 p.q2.length ac4]) rfl rfl rfl (by kernel_rfl) hS 0 rfl rfl rfl) 0 rfl rfl rfl rfl ?_
  intro w11 hS
  refine seq_end ?_
  refine hK8 _ _ ?_
  refine wp_seq_k (fun K12 hK12 => ?_)
  refine wp_region_lit ?_
  refine seq_do (v := .agg #[.bool p.b1, .slice a1 p.t1.length ac1, .slice a2 p.q1.length ac2, .bool p.b2, .slice a3 p.t2.length ac3, .slice a4 p.q2.length ac4]) hA rfl rfl rfl (does_loadS hS ExO_isS_26 rfl 0 rfl (cs := [.bool p.b1, .slice a1 p.t1.length ac1, .slice a2 p.q1.length ac2, .bool p.b2, .slice a3 p.t2.length ac3, .slice a4 p.q2.length ac4]) rfl rfl) ?_
  intro a hA
  rcases Bool.eq_false_or_eq_true (soundQ p) with hb13 | hb13
  · refine seq_call hA rfl rfl rfl (enters_func  rfl rfl (fun w => by kernel_rfl)) (soundQ_any (show Nm _ _ a1 ac1 a2 ac2 a3 ac3 a4 ac4 from ⟨⟨(hS.rd 7 rfl), ha.s1.nil, ha.s1.cap⟩, ⟨(hS.rd 6 rfl), ha.s2.nil, ha.s2.cap⟩, ⟨(hS.rd 5 rfl), ha.s3.nil, ha.s3.cap⟩, ⟨(hS.rd 4 rfl), ha.s4.nil, ha.s4.cap⟩⟩) hl hb13) ?_
    rintro _ w15 ⟨rfl, hb14⟩
    replace hS := hS.call hb14
    refine ⟨_, rfl, ?_⟩
    intro a hA
    refine seq_do (v := .bool false) hA rfl rfl rfl (does_un rfl un_not) ?_
    intro a hA
    refine seq_end ?_
    refine hK12 _ _ ?_
    refine wp_cond_false (hA.ev rfl) ?_
    refine wp_skip ?_
    refine hK7 _ _ ?_
    refine wp_region_lit ?_
    refine seq_do (v := .int .i64 1) hA rfl rfl rfl (does_bin rfl rfl (fun w => by kernel_rfl)) ?_
    intro a hA
    refine seq_do hA rfl rfl rfl (does_move rfl) ?_
    intro a hA
    refine seq_end ?_
    refine hK4 _ _ ?_
    refine rounds_k (fun K16 hK16 => ?_)
    refine wp_seq_k (fun K17 hK17 => ?_)
    refine wp_region_lit ?_
    refine seq_do (v := .bool true) hA rfl rfl rfl (does_bin rfl rfl (fun w => by kernel_rfl)) ?_
    intro a hA
    refine seq_end ?_
    refine hK17 _ _ ?_
    refine wp_seq_k (fun K18 hK18 => ?_)
    refine wp_cond_true (hA.ev rfl) ?_
    refine wp_skip ?_
    refine hK18 _ _ ?_
    refine wp_seq_k (fun K19 hK19 => ?_)
    refine wp_block ?_
    refine wp_seq_k (fun K20 hK20 => ?_)
    refine wp_region_lit ?_
    refine seq_do (v := .pointer (some ⟨g, 6, none⟩)) hA rfl rfl rfl (does_indexI rfl rfl (fun w => by kernel_rfl)) ?_
    intro a hA
    refine seq_do (v := .agg #[.bool q.b1, .slice b1 q.t1.length bc1, .slice b2 q.q1.length bc2, .bool q.b2, .slice b3 q.t2.length bc3, .slice b4 q.q2.length bc4]) hA rfl rfl rfl (does_loadSF hS hg ExO_isS_26 rfl (cs := [.bool q.b1, .slice b1 q.t1.length bc1, .slice b2 q.q1.length bc2, .bool q.b2, .slice b3 q.t2.length bc3, .slice b4 q.q2.length bc4]) rfl rfl) ?_
    intro a hA
    refine seq_new (vs := [.bool false, .slice none 0 0, .slice none 0 0, .bool false, .slice none 0 0, .slice none 0 0]) (t := 26) hA hS rfl rfl rfl (fun g => .pointer (some ⟨g, 0, none⟩)) (does_alloc (z := .agg #[.bool false, .slice none 0 0, .slice none 0 0, .bool false, .slice none 0 0, .slice none 0 0]) (by kernel_rfl) rfl) rfl ?_
    intro g21 w22 hS a hA
    refine seq_store (us := [.bool q.b1, .slice b1 q.t1.length bc1, .slice b2 q.q1.length bc2, .bool q.b2, .slice b3 q.t2.length bc3, .slice b4 q.q2.length bc4]) hA hS rfl rfl (sets_store (cs := [.bool q.b1, .slice b1 q.t1.length bc1, .slice b2 q.q1.length bc2, .bool q.b2, .slice b3 q.t2.length bc3, .slice b4 q.q2.length bc4]) rfl rfl rfl (by kernel_rfl) hS 0 rfl rfl rfl) 0 rfl rfl rfl rfl ?_
    intro w23 hS
    refine seq_end ?_
    refine hK20 _ _ ?_
    refine wp_seq_k (fun K24 hK24 => ?_)
    refine wp_region_lit ?_
    refine seq_do (v := .agg #[.bool q.b1, .slice b1 q.t1.length bc1, .slice b2 q.q1.length bc2, .bool q.b2, .slice b3 q.t2.length bc3, .slice b4 q.q2.length bc4]) hA rfl rfl rfl (does_loadS hS ExO_isS_26 rfl 0 rfl (cs := [.bool q.b1, .slice b1 q.t1.length bc1, .slice b2 q.q1.length bc2, .bool q.b2, .slice b3 q.t2.length bc3, .slice b4 q.q2.length bc4]) rfl rfl) ?_
    intro a hA
    rcases Bool.eq_false_or_eq_true (soundQ q) with hb25 | hb25
    · refine seq_call hA rfl rfl rfl (enters_func  rfl rfl (fun w => by kernel_rfl)) (soundQ_any (show Nm _ _ b1 bc1 b2 bc2 b3 bc3 b4 bc4 from ⟨⟨(hS.rd 3 rfl), hb.s1.nil, hb.s1.cap⟩, ⟨(hS.rd 2 rfl), hb.s2.nil, hb.s2.cap⟩, ⟨(hS.rd 1 rfl), hb.s3.nil, hb.s3.cap⟩, ⟨(hS.rd 0 rfl), hb.s4.nil, hb.s4.cap⟩⟩) hm hb25) ?_
      rintro _ w27 ⟨rfl, hb26⟩
      replace hS := hS.call hb26
      refine ⟨_, rfl, ?_⟩
      intro a hA
      refine seq_do (v := .bool false) hA rfl rfl rfl (does_un rfl un_not) ?_
      intro a hA
      refine seq_end ?_
      refine hK24 _ _ ?_
      refine wp_cond_false (hA.ev rfl) ?_
      refine wp_skip ?_
      refine hK19 _ _ ?_
      refine wp_region_lit ?_
      refine seq_do (v := .int .i64 2) hA rfl rfl rfl (does_bin rfl rfl (fun w => by kernel_rfl)) ?_
      intro a hA
      refine seq_do hA rfl rfl rfl (does_move rfl) ?_
      intro a hA
      refine seq_end ?_
      refine hK16 _ _ ?_
      refine rounds_k (fun K28 hK28 => ?_)
      refine wp_seq_k (fun K29 hK29 => ?_)
      refine wp_region_lit ?_
      refine seq_do (v := .bool false) hA rfl rfl rfl (does_bin rfl rfl (fun w => by kernel_rfl)) ?_
      intro a hA
      refine seq_end ?_
      refine hK29 _ _ ?_
      refine wp_seq_k (fun K30 hK30 => ?_)
      refine wp_cond_false (hA.ev rfl) ?_
      refine wp_exit ?_
      refine hK2 _ _ ?_
      refine wp_seq_k (fun K31 hK31 => ?_)
      refine wp_seq_k (fun K32 hK32 => ?_)
      refine wp_region_lit ?_
      refine seq_do hA rfl rfl rfl (does_move rfl) ?_
      intro a hA
      refine seq_do (v := .int .i64 2) hA rfl rfl rfl (does_len Try.underlying79 rfl) ?_
      intro a hA
      refine seq_do hA rfl rfl rfl (does_move rfl) ?_
      intro a hA
      refine seq_end ?_
      refine hK32 _ _ ?_
      refine wp_block ?_
      refine wp_loop_rounds 12 ?_
      refine rounds_k (fun K33 hK33 => ?_)
      refine wp_seq_k (fun K34 hK34 => ?_)
      refine wp_region_lit ?_
      refine seq_do (v := .bool true) hA rfl rfl rfl (does_bin rfl rfl (fun w => by kernel_rfl)) ?_
      intro a hA
      refine seq_end ?_
      refine hK34 _ _ ?_
      refine wp_seq_k (fun K35 hK35 => ?_)
      refine wp_cond_true (hA.ev rfl) ?_
      refine wp_skip ?_
      refine hK35 _ _ ?_
      refine wp_seq_k (fun K36 hK36 => ?_)
      refine wp_block ?_
      refine wp_seq_k (fun K37 hK37 => ?_)
      refine wp_region_lit ?_
      refine seq_do (v := .pointer (some ⟨g, 0, none⟩)) hA rfl rfl rfl (does_indexI rfl rfl (fun w => by kernel_rfl)) ?_
      intro a hA
      refine seq_do (v := .agg #[.bool p.b1, .slice a1 p.t1.length ac1, .slice a2 p.q1.length ac2, .bool p.b2, .slice a3 p.t2.length ac3, .slice a4 p.q2.length ac4]) hA rfl rfl rfl (does_loadSF hS hg ExO_isS_26 rfl (cs := [.bool p.b1, .slice a1 p.t1.length ac1, .slice a2 p.q1.length ac2, .bool p.b2, .slice a3 p.t2.length ac3, .slice a4 p.q2.length ac4]) rfl rfl) ?_
      intro a hA
      refine seq_new (vs := [.bool false, .slice none 0 0, .slice none 0 0, .bool false, .slice none 0 0, .slice none 0 0]) (t := 26) hA hS rfl rfl rfl (fun g => .pointer (some ⟨g, 0, none⟩)) (does_alloc (z := .agg #[.bool false, .slice none 0 0, .slice none 0 0, .bool false, .slice none 0 0, .slice none 0 0]) (by kernel_rfl) rfl) rfl ?_
      intro g38 w39 hS a hA
      refine seq_store (us := [.bool p.b1, .slice a1 p.t1.length ac1, .slice a2 p.q1.length ac2, .bool p.b2, .slice a3 p.t2.length ac3, .slice a4 p.q2.length ac4]) hA hS rfl rfl (sets_store (cs := [.bool p.b1, .slice a1 p.t1.length ac1, .slice a2 p.q1.length ac2, .bool p.b2, .slice a3 p.t2.length ac3, .slice a4 p.q2.length ac4]) rfl rfl rfl (by kernel_rfl) hS 0 rfl rfl rfl) 0 rfl rfl rfl rfl ?_
      intro w40 hS
      refine seq_end ?_
      refine hK37 _ _ ?_
      refine wp_seq_k (fun K41 hK41 => ?_)
      refine wp_region_lit ?_
      refine seq_do (v := .agg #[.bool p.b1, .slice a1 p.t1.length ac1, .slice a2 p.q1.length ac2, .bool p.b2, .slice a3 p.t2.length ac3, .slice a4 p.q2.length ac4]) hA rfl rfl rfl (does_loadS hS ExO_isS_26 rfl 0 rfl (cs := [.bool p.b1, .slice a1 p.t1.length ac1, .slice a2 p.q1.length ac2, .bool p.b2, .slice a3 p.t2.length ac3, .slice a4 p.q2.length ac4]) rfl rfl) ?_
      intro a hA
      rcases Bool.eq_false_or_eq_true (decide (p.t2.length = 0)) with hb42 | hb42
      · have hb42' := of_decide_eq_true hb42
        refine seq_call hA rfl rfl rfl (enters_func  rfl rfl (fun w => by kernel_rfl)) (isRealQ_any (q := p) hl hb42) ?_
        rintro _ w44 ⟨rfl, hb43⟩
        replace hS := hS.call hb43
        refine ⟨_, rfl, ?_⟩
        intro a hA
        refine seq_do (v := .bool false) hA rfl rfl rfl (does_un rfl un_not) ?_
        intro a hA
        refine seq_end ?_
        refine hK41 _ _ ?_
        refine wp_cond_false (hA.ev rfl) ?_
        refine wp_skip ?_
        refine hK36 _ _ ?_
        refine wp_region_lit ?_
        refine seq_do (v := .int .i64 1) hA rfl rfl rfl (does_bin rfl rfl (fun w => by kernel_rfl)) ?_
        intro a hA
        refine seq_do hA rfl rfl rfl (does_move rfl) ?_
        intro a hA
        refine seq_end ?_
        refine hK33 _ _ ?_
        refine rounds_k (fun K45 hK45 => ?_)
        refine wp_seq_k (fun K46 hK46 => ?_)
        refine wp_region_lit ?_
        refine seq_do (v := .bool true) hA rfl rfl rfl (does_bin rfl rfl (fun w => by kernel_rfl)) ?_
        intro a hA
        refine seq_end ?_
        refine hK46 _ _ ?_
        refine wp_seq_k (fun K47 hK47 => ?_)
        refine wp_cond_true (hA.ev rfl) ?_
        refine wp_skip ?_
        refine hK47 _ _ ?_
        refine wp_seq_k (fun K48 hK48 => ?_)
        refine wp_block ?_
        refine wp_seq_k (fun K49 hK49 => ?_)
        refine wp_region_lit ?_
        refine seq_do (v := .pointer (some ⟨g, 6, none⟩)) hA rfl rfl rfl (does_indexI rfl rfl (fun w => by kernel_rfl)) ?_
        intro a hA
        refine seq_do (v := .agg #[.bool q.b1, .slice b1 q.t1.length bc1, .slice b2 q.q1.length bc2, .bool q.b2, .slice b3 q.t2.length bc3, .slice b4 q.q2.length bc4]) hA rfl rfl rfl (does_loadSF hS hg ExO_isS_26 rfl (cs := [.bool q.b1, .slice b1 q.t1.length bc1, .slice b2 q.q1.length bc2, .bool q.b2, .slice b3 q.t2.length bc3, .slice b4 q.q2.length bc4]) rfl rfl) ?_
        intro a hA
        refine seq_new (vs := [.bool false, .slice none 0 0, .slice none 0 0, .bool false, .slice none 0 0, .slice none 0 0]) (t := 26) hA hS rfl rfl rfl (fun g => .pointer (some ⟨g, 0, none⟩)) (does_alloc (z := .agg #[.bool false, .slice none 0 0, .slice none 0 0, .bool false, .slice none 0 0, .slice none 0 0]) (by kernel_rfl) rfl) rfl ?_
        intro g50 w51 hS a hA
        refine seq_store (us := [.bool q.b1, .slice b1 q.t1.length bc1, .slice b2 q.q1.length bc2, .bool q.b2, .slice b3 q.t2.length bc3, .slice b4 q.q2.length bc4]) hA hS rfl rfl (sets_store (cs := [.bool q.b1, .slice b1 q.t1.length bc1, .slice b2 q.q1.length bc2, .bool q.b2, .slice b3 q.t2.length bc3, .slice b4 q.q2.length bc4]) rfl rfl rfl (by kernel_rfl) hS 0 rfl rfl rfl) 0 rfl rfl rfl rfl ?_
        intro w52 hS
        refine seq_end ?_
        refine hK49 _ _ ?_
        refine wp_seq_k (fun K53 hK53 => ?_)
        refine wp_region_lit ?_
        refine seq_do (v := .agg #[.bool q.b1, .slice b1 q.t1.length bc1, .slice b2 q.q1.length bc2, .bool q.b2, .slice b3 q.t2.length bc3, .slice b4 q.q2.length bc4]) hA rfl rfl rfl (does_loadS hS ExO_isS_26 rfl 0 rfl (cs := [.bool q.b1, .slice b1 q.t1.length bc1, .slice b2 q.q1.length bc2, .bool q.b2, .slice b3 q.t2.length bc3, .slice b4 q.q2.length bc4]) rfl rfl) ?_
        intro a hA
        rcases Bool.eq_false_or_eq_true (decide (q.t2.length = 0)) with hb54 | hb54
        · have hb54' := of_decide_eq_true hb54
          refine seq_call hA rfl rfl rfl (enters_func  rfl rfl (fun w => by kernel_rfl)) (isRealQ_any (q := q) hm hb54) ?_
          rintro _ w56 ⟨rfl, hb55⟩
          replace hS := hS.call hb55
          refine ⟨_, rfl, ?_⟩
          intro a hA
          refine seq_do (v := .bool false) hA rfl rfl rfl (does_un rfl un_not) ?_
          intro a hA
          refine seq_end ?_
          refine hK53 _ _ ?_
          refine wp_cond_false (hA.ev rfl) ?_
          refine wp_skip ?_
          refine hK48 _ _ ?_
          refine wp_region_lit ?_
          refine seq_do (v := .int .i64 2) hA rfl rfl rfl (does_bin rfl rfl (fun w => by kernel_rfl)) ?_
          intro a hA
          refine seq_do hA rfl rfl rfl (does_move rfl) ?_
          intro a hA
          refine seq_end ?_
          refine hK45 _ _ ?_
          refine rounds_k (fun K57 hK57 => ?_)
          refine wp_seq_k (fun K58 hK58 => ?_)
          refine wp_region_lit ?_
          refine seq_do (v := .bool false) hA rfl rfl rfl (does_bin rfl rfl (fun w => by kernel_rfl)) ?_
          intro a hA
          refine seq_end ?_
          refine hK58 _ _ ?_
          refine wp_seq_k (fun K59 hK59 => ?_)
          refine wp_cond_false (hA.ev rfl) ?_
          refine wp_exit ?_
          refine hK31 _ _ ?_
          refine wp_seq_k (fun K60 hK60 => ?_)
          refine wp_region_lit ?_
          refine seq_do hA rfl rfl rfl (does_assign rfl) ?_
          intro a hA
          refine seq_end ?_
          refine hK60 _ _ ?_
          refine wp_ret ?_
          refine hret _ _ ?_
          refine ends (v := .int .i64 0) hA rfl (.cons (res_tmp rfl) .nil) rfl ?_
          subst hr
          have f2 := of_decide_eq_true hb42
          have f3 := of_decide_eq_true hb54
          exact ⟨by simp [wantR2, hb13, hb25, f2, f3], hS.bel⟩
        · have hb54' := of_decide_eq_false hb54
          refine seq_call hA rfl rfl rfl (enters_func  rfl rfl (fun w => by kernel_rfl)) (isRealQ_any (q := q) hm hb54) ?_
          rintro _ w62 ⟨rfl, hb61⟩
          replace hS := hS.call hb61
          refine ⟨_, rfl, ?_⟩
          intro a hA
          refine seq_do (v := .bool true) hA rfl rfl rfl (does_un rfl un_not) ?_
          intro a hA
          refine seq_end ?_
          refine hK53 _ _ ?_
          refine wp_cond_true (hA.ev rfl) ?_
          refine wp_seq_k (fun K63 hK63 => ?_)
          refine wp_region_lit ?_
          refine seq_do hA rfl rfl rfl (does_assign rfl) ?_
          intro a hA
          refine seq_end ?_
          refine hK63 _ _ ?_
          refine wp_ret ?_
          refine hret _ _ ?_
          refine ends (v := .int .i64 10) hA rfl (.cons (res_tmp rfl) .nil) rfl ?_
          subst hr
          have f2 := of_decide_eq_true hb42
          have f3 := of_decide_eq_false hb54
          exact ⟨by simp [wantR2, hb13, hb25, f2, f3], hS.bel⟩
      · have hb42' := of_decide_eq_false hb42
        refine seq_call hA rfl rfl rfl (enters_func  rfl rfl (fun w => by kernel_rfl)) (isRealQ_any (q := p) hl hb42) ?_
        rintro _ w65 ⟨rfl, hb64⟩
        replace hS := hS.call hb64
        refine ⟨_, rfl, ?_⟩
        intro a hA
        refine seq_do (v := .bool true) hA rfl rfl rfl (does_un rfl un_not) ?_
        intro a hA
        refine seq_end ?_
        refine hK41 _ _ ?_
        refine wp_cond_true (hA.ev rfl) ?_
        refine wp_seq_k (fun K66 hK66 => ?_)
        refine wp_region_lit ?_
        refine seq_do hA rfl rfl rfl (does_assign rfl) ?_
        intro a hA
        refine seq_end ?_
        refine hK66 _ _ ?_
        refine wp_ret ?_
        refine hret _ _ ?_
        refine ends (v := .int .i64 10) hA rfl (.cons (res_tmp rfl) .nil) rfl ?_
        subst hr
        have f2 := of_decide_eq_false hb42
        exact ⟨by simp [wantR2, hb13, hb25, f2], hS.bel⟩
    · refine seq_call hA rfl rfl rfl (enters_func  rfl rfl (fun w => by kernel_rfl)) (soundQ_any (show Nm _ _ b1 bc1 b2 bc2 b3 bc3 b4 bc4 from ⟨⟨(hS.rd 3 rfl), hb.s1.nil, hb.s1.cap⟩, ⟨(hS.rd 2 rfl), hb.s2.nil, hb.s2.cap⟩, ⟨(hS.rd 1 rfl), hb.s3.nil, hb.s3.cap⟩, ⟨(hS.rd 0 rfl), hb.s4.nil, hb.s4.cap⟩⟩) hm hb25) ?_
      rintro _ w68 ⟨rfl, hb67⟩
      replace hS := hS.call hb67
      refine ⟨_, rfl, ?_⟩
      intro a hA
      refine seq_do (v := .bool true) hA rfl rfl rfl (does_un rfl un_not) ?_
      intro a hA
      refine seq_end ?_
      refine hK24 _ _ ?_
      refine wp_cond_true (hA.ev rfl) ?_
      refine wp_seq_k (fun K69 hK69 => ?_)
      refine wp_region_lit ?_
      refine seq_do hA rfl rfl rfl (does_assign rfl) ?_
      intro a hA
      refine seq_end ?_
      refine hK69 _ _ ?_
      refine wp_ret ?_
      refine hret _ _ ?_
      refine ends (v := .int .i64 2) hA rfl (.cons (res_tmp rfl) .nil) rfl ?_
      subst hr
      exact ⟨by simp [wantR2, hb13, hb25], hS.bel⟩
  · refine seq_call hA rfl rfl rfl (enters_func  rfl rfl (fun w => by kernel_rfl)) (soundQ_any (show Nm _ _ a1 ac1 a2 ac2 a3 ac3 a4 ac4 from ⟨⟨(hS.rd 7 rfl), ha.s1.nil, ha.s1.cap⟩, ⟨(hS.rd 6 rfl), ha.s2.nil, ha.s2.cap⟩, ⟨(hS.rd 5 rfl), ha.s3.nil, ha.s3.cap⟩, ⟨(hS.rd 4 rfl), ha.s4.nil, ha.s4.cap⟩⟩) hl hb13) ?_
    rintro _ w71 ⟨rfl, hb70⟩
    replace hS := hS.call hb70
    refine ⟨_, rfl, ?_⟩
    intro a hA
    refine seq_do (v := .bool true) hA rfl rfl rfl (does_un rfl un_not) ?_
    intro a hA
    refine seq_end ?_
    refine hK12 _ _ ?_
    refine wp_cond_true (hA.ev rfl) ?_
    refine wp_seq_k (fun K72 hK72 => ?_)
    refine wp_region_lit ?_
    refine seq_do hA rfl rfl rfl (does_assign rfl) ?_
    intro a hA
    refine seq_end ?_
    refine hK72 _ _ ?_
    refine wp_ret ?_
    refine hret _ _ ?_
    refine ends (v := .int .i64 2) hA rfl (.cons (res_tmp rfl) .nil) rfl ?_
    subst hr
    exact ⟨by simp [wantR2, hb13], hS.bel⟩
end Go.Proofs.Ytmibkfihcihphaa
namespace Go.Proofs.Ytmibkfihcihphaa
open Go.RowKit
set_option linter.unusedVariables false
set_option linter.unusedSimpArgs false
set_option maxRecDepth 100000
end Go.Proofs.Ytmibkfihcihphaa
namespace Go.Proofs.Ytmibkfihcihphaa
open Go.RowKit
set_option linter.unusedVariables false
set_option linter.unusedSimpArgs false
set_option maxRecDepth 100000
theorem ExQ_is1_22 : Is1 Try.prog 22 := ⟨⟨_, Try.underlying22, rfl⟩, by kernel_rfl⟩
theorem ExQ_is1_4 : Is1 Try.prog 4 := ⟨⟨_, Try.underlying4, rfl⟩, by kernel_rfl⟩
theorem ExQ_fld_46_0 : FieldAt Try.prog 46 0 0 := ⟨_, _, Try.underlying46, rfl, rfl, by kernel_rfl⟩
theorem ExQ_fld_46_1 : FieldAt Try.prog 46 1 1 := ⟨_, _, Try.underlying46, rfl, rfl, by kernel_rfl⟩
theorem ExQ_fld_48_0 : FieldAt Try.prog 48 0 0 := ⟨_, _, Try.underlying48, rfl, rfl, by kernel_rfl⟩
theorem ExQ_fld_48_2 : FieldAt Try.prog 48 2 4 := ⟨_, _, Try.underlying48, rfl, rfl, by kernel_rfl⟩
theorem ExQ_isS_46 : IsS Try.prog 46 2 := ⟨⟨_, Try.underlying46⟩, by kernel_rfl⟩
theorem ExQ_isS_48 : IsS Try.prog 48 5 := ⟨⟨_, Try.underlying48⟩, by kernel_rfl⟩
theorem zdivmod_any {w : World} {x1 y1 x2 y2 : Int} {d1 d2 : Nat} {a1 a2 a3 : Option Addr} {ac1 ac2 ac3 : Nat} (ha1 : Sc w a1 ac1 (words x1.natAbs)) (ha2 : Sc w a2 ac2 (words y1.natAbs)) (ha3 : Sc w a3 ac3 (words d1)) {u1 u2 u3 : Option Addr} {uc1 uc2 uc3 : Nat} (hu1 : Sc w u1 uc1 (words x2.natAbs)) (hu2 : Sc w u2 uc2 (words y2.natAbs)) (hu3 : Sc w u3 uc3 (words d2)) (la1 : (words x1.natAbs).length ≤ 10000) (la2 : (words y1.natAbs).length ≤ 10000) (la3 : (words d1).length ≤ 10000) (lu1 : (words x2.natAbs).length ≤ 10000) (lu2 : (words y2.natAbs).length ≤ 10000) (lu3 : (words d2).length ≤ 10000) (h1 : d1 ≠ 0) (h2 : x2 ≠ 0) : Calls Try.prog 33 #[.agg #[.bool (rb x1), .slice a1 (words x1.natAbs).length ac1, .bool (rb y1), .slice a2 (words y1.natAbs).length ac2, .slice a3 (words d1).length ac3], .agg #[.bool (rb x2), .slice u1 (words x2.natAbs).length uc1, .bool (rb y2), .slice u2 (words y2.natAbs).length uc2, .slice u3 (words d2).length uc3]] w (AnsRR w (dmT x1 x2 d1 d2) 1 ((dmR x1 x2 d1 d2 : Nat) : Int) (d1 * d2)) := by
  have k1 := abs_mul_len la1 (nat_abs_len lu3)
  have k2 := words_mul_length lu1 la3
  have hS : St w w [] [(u3, words d2), (u2, words y2.natAbs), (u1, words x2.natAbs), (a3, words d1), (a2, words y1.natAbs), (a1, words x1.natAbs)] [] := ((((((St.start w).addR ha1.rd).addR ha2.rd).addR ha3.rd).addR hu1.rd).addR hu2.rd).addR hu3.rd
  refine walk_of (l := [(0, .agg #[.bool ((rb x1)), .slice a1 ((words x1.natAbs).length) ac1, .bool ((rb y1)), .slice a2 ((words y1.natAbs).length) ac2, .slice a3 ((words d1).length) ac3]), (1, .agg #[.bool ((rb x2)), .slice u1 ((words x2.natAbs).length) uc1, .bool ((rb y2)), .slice u2 ((words y2.natAbs).length) uc2, .slice u3 ((words d2).length) uc3])]) Try.func33 rfl Try.ntmps33 rfl rfl ?_
  intro Q hret hnorm hP a hA
  refine wp_seq_k (fun K1 hK1 => ?_)
  refine wp_region_lit ?_
  refine seq_new (vs := [.bool ((rb x1)), .slice a1 ((words x1.natAbs).length) ac1, .bool ((rb y1)), .slice a2 ((words y1.natAbs).length) ac2, .slice a3 ((words d1).length) ac3]) (t := 48) hA hS rfl rfl rfl (fun g => .pointer (some ⟨g, 0, none⟩)) (does_box rfl rfl) rfl ?_
  intro g2 w3 hS a hA
  refine seq_new (vs := [.bool ((rb x2)), .slice u1 ((words x2.natAbs).length) uc1, .bool ((rb y2)), .slice u2 ((words y2.natAbs).length) uc2, .slice u3 ((words d2).length) uc3]) (t := 48) hA hS rfl rfl rfl (fun g => .pointer (some ⟨g, 0, none⟩)) (does_box rfl rfl) rfl ?_
  intro g4 w5 hS a hA
  refine seq_new (vs := [.bool false, .slice none 0 0, .bool false, .slice none 0 0, .slice none 0 0]) (t := 48) hA hS rfl rfl rfl (fun g => .pointer (some ⟨g, 0, none⟩)) (does_alloc (z := .agg #[.bool false, .slice none 0 0, .bool false, .slice none 0 0, .slice none 0 0]) (by kernel_rfl) rfl) rfl ?_
  intro g6 w7 hS a hA
  refine seq_new (vs := [.bool false, .slice none 0 0, .bool false, .slice none 0 0, .slice none 0 0]) (t := 48) hA hS rfl rfl rfl (fun g => .pointer (some ⟨g, 0, none⟩)) (does_alloc (z := .agg #[.bool false, .slice none 0 0, .bool false, .slice none 0 0, .slice none 0 0]) (by kernel_rfl) rfl) rfl ?_
  intro g8 w9 hS a hA
  refine seq_end ?_
  refine hK1 _ _ ?_
  refine wp_seq_k (fun K10 hK10 => ?_)
  have hJ41 : ∀ a w1, (∃ (J32g : Nat) (J33 : Option Addr) (J34 : Nat) (J35 : Option Addr) (J36 : Nat), Sl a 41 [(0, .agg #[.bool ((rb x1)), .slice a1 ((words x1.natAbs).length) ac1, .bool ((rb y1)), .slice a2 ((words y1.natAbs).length) ac2, .slice a3 ((words d1).length) ac3]), (1, .agg #[.bool ((rb x2)), .slice u1 ((words x2.natAbs).length) uc1, .bool ((rb y2)), .slice u2 ((words y2.natAbs).length) uc2, .slice u3 ((words d2).length) uc3]), (2, .pointer (some ⟨g2, 0, none⟩)), (3, .pointer (some ⟨g4, 0, none⟩)), (4, .pointer (some ⟨g6, 0, none⟩)), (5, .pointer (some ⟨g8, 0, none⟩)), (6, .pointer (some ⟨J32g, 0, none⟩)), (7, .slice J33 ((words (dmR x1 x2 d1 d2)).length) J34)] ∧ St w w1 [(J32g, [.bool ((rb (x1 * ((d2 : Nat) : Int) / ((x2.natAbs * d1 : Nat) : Int)))), .slice J35 ((words (x1 * ((d2 : Nat) : Int) / ((x2.natAbs * d1 : Nat) : Int)).natAbs).length) J36]), (g8, [.bool false, .slice none 0 0, .bool false, .slice none 0 0, .slice none 0 0]), (g6, [.bool false, .slice none 0 0, .bool false, .slice none 0 0, .slice none 0 0]), (g4, [.bool ((rb x2)), .slice u1 ((words x2.natAbs).length) uc1, .bool ((rb y2)), .slice u2 ((words y2.natAbs).length) uc2, .slice u3 ((words d2).length) uc3]), (g2, [.bool ((rb x1)), .slice a1 ((words x1.natAbs).length) ac1, .bool ((rb y1)), .slice a2 ((words y1.natAbs).length) ac2, .slice a3 ((words d1).length) ac3])] [(J33, words (dmR x1 x2 d1 d2)), (J35, words (x1 * ((d2 : Nat) : Int) / ((x2.natAbs * d1 : Nat) : Int)).natAbs), (u3, words d2), (u2, words y2.natAbs), (u1, words x2.natAbs), (a3, words d1), (a2, words y1.natAbs), (a1, words x1.natAbs)] [] ∧ (J33 = none → J34 = 0) ∧ (words (dmR x1 x2 d1 d2) : List Nat).length ≤ J34 ∧ (J35 = none → J36 = 0) ∧ (words (x1 * ((d2 : Nat) : Int) / ((x2.natAbs * d1 : Nat) : Int)).natAbs : List Nat).length ≤ J36) → K10 a w1 := by
    clear hA hS
    rintro a w42 ⟨J32g, J33, J34, J35, J36, hA, hS, hn37, hc38, hn39, hc40⟩
    refine hK10 _ _ ?_
    refine wp_seq_k (fun K43 hK43 => ?_)
    refine wp_seq_k (fun K44 hK44 => ?_)
    refine wp_region_lit ?_
    refine seq_do (v := .pointer (some ⟨g4, 0, none⟩)) hA rfl rfl rfl (does_field ExQ_fld_48_0 rfl rfl) ?_
    intro a hA
    refine seq_do (v := .pointer (some ⟨g4, 0, none⟩)) hA rfl rfl rfl (does_field ExQ_fld_46_0 rfl rfl) ?_
    intro a hA
    refine seq_do hA rfl rfl rfl (does_load1 hS ExQ_is1_4 rfl 3 rfl rfl) ?_
    intro a hA
    refine seq_end ?_
    refine hK44 _ _ ?_
    refine wp_cond_split (t := (rb x2)) (hA.ev rfl) (fun hc45 => ?_) (fun hc45 => ?_)
    · refine wp_region_lit ?_
      refine seq_do (v := .agg #[.bool ((rb (x1 * ((d2 : Nat) : Int) / ((x2.natAbs * d1 : Nat) : Int)))), .slice J35 ((words (x1 * ((d2 : Nat) : Int) / ((x2.natAbs * d1 : Nat) : Int)).natAbs).length) J36]) hA rfl rfl rfl (does_loadS hS ExQ_isS_46 rfl 0 rfl (cs := [.bool ((rb (x1 * ((d2 : Nat) : Int) / ((x2.natAbs * d1 : Nat) : Int)))), .slice J35 ((words (x1 * ((d2 : Nat) : Int) / ((x2.natAbs * d1 : Nat) : Int)).natAbs).length) J36]) rfl rfl) ?_
      intro a hA
      refine seq_call hA rfl rfl rfl (enters_func  rfl rfl (fun w => by kernel_rfl)) (zopp_any ⟨(hS.rd 1 rfl), hn39, hc40⟩) ?_
      rintro _ w50 ⟨zo46, zc47, rfl, hs48, hb49⟩
      replace hS := hS.call hb49
      replace hS := hS.addR hs48.rd
      refine ⟨_, rfl, ?_⟩
      intro a hA
      refine seq_store (us := [.bool ((rb (-(x1 * ((d2 : Nat) : Int) / ((x2.natAbs * d1 : Nat) : Int))))), .slice zo46 ((words (-(x1 * ((d2 : Nat) : Int) / ((x2.natAbs * d1 : Nat) : Int))).natAbs).length) zc47]) hA hS rfl rfl (sets_store (cs := [.bool ((rb (-(x1 * ((d2 : Nat) : Int) / ((x2.natAbs * d1 : Nat) : Int))))), .slice zo46 ((words (-(x1 * ((d2 : Nat) : Int) / ((x2.natAbs * d1 : Nat) : Int))).natAbs).length) zc47]) rfl rfl rfl (by kernel_rfl) hS 0 rfl rfl rfl) 0 rfl rfl rfl rfl ?_
      intro w51 hS
      refine seq_end ?_
      refine hK43 _ _ ?_
      refine wp_seq_k (fun K52 hK52 => ?_)
      refine wp_draw (S := fun w1 => St w w1 [(J32g, [.bool ((rb (-(x1 * ((d2 : Nat) : Int) / ((x2.natAbs * d1 : Nat) : Int))))), .slice zo46 ((words (-(x1 * ((d2 : Nat) : Int) / ((x2.natAbs * d1 : Nat) : Int))).natAbs).length) zc47]), (g8, [.bool false, .slice none 0 0, .bool false, .slice none 0 0, .slice none 0 0]), (g4, [.bool ((rb x2)), .slice u1 ((words x2.natAbs).length) uc1, .bool ((rb y2)), .slice u2 ((words y2.natAbs).length) uc2, .slice u3 ((words d2).length) uc3]), (g2, [.bool ((rb x1)), .slice a1 ((words x1.natAbs).length) ac1, .bool ((rb y1)), .slice a2 ((words y1.natAbs).length) ac2, .slice a3 ((words d1).length) ac3])] [(zo46, words (-(x1 * ((d2 : Nat) : Int) / ((x2.natAbs * d1 : Nat) : Int))).natAbs), (J33, words (dmR x1 x2 d1 d2)), (J35, words (x1 * ((d2 : Nat) : Int) / ((x2.natAbs * d1 : Nat) : Int)).natAbs), (u3, words d2), (u2, words y2.natAbs), (u1, words x2.natAbs), (a3, words d1), (a2, words y1.natAbs), (a1, words x1.natAbs)] []) (by kernel_rfl) ?_
      replace hS := hS.drew
      refine any_take (v := .agg #[.bool ((rb (-(x1 * ((d2 : Nat) : Int) / ((x2.natAbs * d1 : Nat) : Int))))), .slice zo46 ((words (-(x1 * ((d2 : Nat) : Int) / ((x2.natAbs * d1 : Nat) : Int))).natAbs).length) zc47]) hA 0 rfl rfl rfl rfl (by kernel_rfl) (by kernel_rfl) (by kernel_rfl) (fun c a w h => hP c a _ _ w h) (hS.partD (.cons_cons _ (.cons_cons _ (.cons _ (.cons_cons _ (.cons_cons _ .slnil))))) 0 rfl (.refl _)) (fun w1 hS => does_loadS hS ExQ_isS_46 rfl 0 rfl (cs := [.bool ((rb (-(x1 * ((d2 : Nat) : Int) / ((x2.natAbs * d1 : Nat) : Int))))), .slice zo46 ((words (-(x1 * ((d2 : Nat) : Int) / ((x2.natAbs * d1 : Nat) : Int))).natAbs).length) zc47]) rfl rfl) ?_
      intro a hA
      refine any_one (by kernel_rfl) (op_call hA 1 rfl rfl rfl rfl (enters_func  rfl rfl (fun w => by kernel_rfl)) (wof_any 1 _ (by decide)) ?_)
      rintro _ w57 ⟨ro53, rc54, rfl, ho55, hb56⟩
      replace hS := hS.call hb56
      replace hS := hS.addR ho55.rd
      refine ⟨_, rfl, (hS.partD (.cons_cons _ (.cons_cons _ (.cons _ (.cons_cons _ (.cons_cons _ .slnil))))) 1 rfl (.refl _)), ?_⟩
      intro a hA
      refine any_take (v := .agg #[.bool ((rb (-(x1 * ((d2 : Nat) : Int) / ((x2.natAbs * d1 : Nat) : Int))))), .slice zo46 ((words (-(x1 * ((d2 : Nat) : Int) / ((x2.natAbs * d1 : Nat) : Int))).natAbs).length) zc47, .bool false, .slice none 0 0, .slice ro53 ((words 1).length) rc54]) hA 2 rfl rfl rfl rfl (by kernel_rfl) (by kernel_rfl) (by kernel_rfl) (fun c a w h => hP c a _ _ w h) (hS.partD (.cons_cons _ (.cons_cons _ (.cons _ (.cons_cons _ (.cons_cons _ .slnil))))) 1 rfl (.refl _)) (fun w1 hS => does_build rfl (fun w => by kernel_rfl)) ?_
      intro a hA
      refine any_one (by kernel_rfl) (op_store (us := [.bool ((rb (-(x1 * ((d2 : Nat) : Int) / ((x2.natAbs * d1 : Nat) : Int))))), .slice zo46 ((words (-(x1 * ((d2 : Nat) : Int) / ((x2.natAbs * d1 : Nat) : Int))).natAbs).length) zc47, .bool false, .slice none 0 0, .slice ro53 ((words 1).length) rc54]) hA hS 3 rfl rfl rfl (sets_store (cs := [.bool ((rb (-(x1 * ((d2 : Nat) : Int) / ((x2.natAbs * d1 : Nat) : Int))))), .slice zo46 ((words (-(x1 * ((d2 : Nat) : Int) / ((x2.natAbs * d1 : Nat) : Int))).natAbs).length) zc47, .bool false, .slice none 0 0, .slice ro53 ((words 1).length) rc54]) rfl rfl rfl (by kernel_rfl) hS 2 rfl rfl rfl) 2 rfl rfl rfl rfl ?_)
      intro w58 hS
      refine ⟨(hS.partD (.cons_cons _ (.cons_cons _ (.cons _ (.cons_cons _ (.cons_cons _ .slnil))))) 1 rfl (.refl _)), ?_⟩
      refine any_end (by kernel_rfl) ?_
      refine hK52 _ _ ?_
      refine wp_seq_k (fun K59 hK59 => ?_)
      refine wp_draw (S := fun w1 => St w w1 [(J32g, [.bool ((rb (-(x1 * ((d2 : Nat) : Int) / ((x2.natAbs * d1 : Nat) : Int))))), .slice zo46 ((words (-(x1 * ((d2 : Nat) : Int) / ((x2.natAbs * d1 : Nat) : Int))).natAbs).length) zc47]), (g6, [.bool ((rb (-(x1 * ((d2 : Nat) : Int) / ((x2.natAbs * d1 : Nat) : Int))))), .slice zo46 ((words (-(x1 * ((d2 : Nat) : Int) / ((x2.natAbs * d1 : Nat) : Int))).natAbs).length) zc47, .bool false, .slice none 0 0, .slice ro53 ((words 1).length) rc54]), (g4, [.bool ((rb x2)), .slice u1 ((words x2.natAbs).length) uc1, .bool ((rb y2)), .slice u2 ((words y2.natAbs).length) uc2, .slice u3 ((words d2).length) uc3]), (g2, [.bool ((rb x1)), .slice a1 ((words x1.natAbs).length) ac1, .bool ((rb y1)), .slice a2 ((words y1.natAbs).length) ac2, .slice a3 ((words d1).length) ac3])] [(ro53, words 1), (zo46, words (-(x1 * ((d2 : Nat) : Int) / ((x2.natAbs * d1 : Nat) : Int))).natAbs), (J33, words (dmR x1 x2 d1 d2)), (J35, words (x1 * ((d2 : Nat) : Int) / ((x2.natAbs * d1 : Nat) : Int)).natAbs), (u3, words d2), (u2, words y2.natAbs), (u1, words x2.natAbs), (a3, words d1), (a2, words y1.natAbs), (a1, words x1.natAbs)] []) (by kernel_rfl) ?_
      replace hS := hS.drew
      refine any_take hA 0 rfl rfl rfl rfl (by kernel_rfl) (by kernel_rfl) (by kernel_rfl) (fun c a w h => hP c a _ _ w h) (hS.partD (.cons_cons _ (.cons _ (.cons_cons _ (.cons_cons _ (.cons_cons _ .slnil))))) 0 rfl (.refl _)) (fun w1 hS => does_move rfl) ?_
      intro a hA
      refine any_take (v := .pointer (some ⟨g2, 4, none⟩)) hA 2 rfl rfl rfl rfl (by kernel_rfl) (by kernel_rfl) (by kernel_rfl) (fun c a w h => hP c a _ _ w h) (hS.partD (.cons_cons _ (.cons _ (.cons_cons _ (.cons_cons _ (.cons_cons _ .slnil))))) 0 rfl (.refl _)) (fun w1 hS => does_field ExQ_fld_48_2 rfl rfl) ?_
      intro a hA
      refine any_take hA 3 rfl rfl rfl rfl (by kernel_rfl) (by kernel_rfl) (by kernel_rfl) (fun c a w h => hP c a _ _ w h) (hS.partD (.cons_cons _ (.cons _ (.cons_cons _ (.cons_cons _ (.cons_cons _ .slnil))))) 0 rfl (.refl _)) (fun w1 hS => does_load1 hS ExQ_is1_22 rfl 3 rfl rfl) ?_
      intro a hA
      refine any_take (v := .pointer (some ⟨g4, 4, none⟩)) hA 4 rfl rfl rfl rfl (by kernel_rfl) (by kernel_rfl) (by kernel_rfl) (fun c a w h => hP c a _ _ w h) (hS.partD (.cons_cons _ (.cons _ (.cons_cons _ (.cons_cons _ (.cons_cons _ .slnil))))) 0 rfl (.refl _)) (fun w1 hS => does_field ExQ_fld_48_2 rfl rfl) ?_
      intro a hA
      refine any_take hA 5 rfl rfl rfl rfl (by kernel_rfl) (by kernel_rfl) (by kernel_rfl) (fun c a w h => hP c a _ _ w h) (hS.partD (.cons_cons _ (.cons _ (.cons_cons _ (.cons_cons _ (.cons_cons _ .slnil))))) 0 rfl (.refl _)) (fun w1 hS => does_load1 hS ExQ_is1_22 rfl 2 rfl rfl) ?_
      intro a hA
      refine any_one (by kernel_rfl) (op_call hA 1 rfl rfl rfl rfl (enters_func  rfl rfl (fun w => by kernel_rfl)) (zsigned_any (b := false) (n := dmR x1 x2 d1 d2) (z := ((dmR x1 x2 d1 d2 : Nat) : Int)) ⟨(hS.rd 2 rfl), hn37, hc38⟩ rfl) ?_)
      rintro _ w64 ⟨zo60, zc61, rfl, hs62, hb63⟩
      replace hS := hS.call hb63
      replace hS := hS.addR hs62.rd
      refine ⟨_, rfl, (hS.partD (.cons_cons _ (.cons _ (.cons_cons _ (.cons_cons _ (.cons_cons _ .slnil))))) 1 rfl (.refl _)), ?_⟩
      intro a hA
      refine any_one (by kernel_rfl) (op_call hA 6 rfl rfl rfl rfl (enters_func  rfl rfl (fun w => by kernel_rfl)) (product_any _ _ (hS.rd 8 rfl) (hS.rd 5 rfl) (by omega) (by omega)) ?_)
      rintro _ w69 ⟨ro65, rc66, rfl, ho67, hb68⟩
      replace hS := hS.call hb68
      replace hS := hS.addR ho67.rd
      refine ⟨_, rfl, (hS.partD (.cons_cons _ (.cons _ (.cons_cons _ (.cons_cons _ (.cons_cons _ .slnil))))) 2 rfl (.refl _)), ?_⟩
      intro a hA
      refine any_take (v := .agg #[.bool ((rb (((dmR x1 x2 d1 d2 : Nat) : Int)))), .slice zo60 ((words (((dmR x1 x2 d1 d2 : Nat) : Int)).natAbs).length) zc61, .bool false, .slice none 0 0, .slice ro65 ((words (d1 * d2)).length) rc66]) hA 7 rfl rfl rfl rfl (by kernel_rfl) (by kernel_rfl) (by kernel_rfl) (fun c a w h => hP c a _ _ w h) (hS.partD (.cons_cons _ (.cons _ (.cons_cons _ (.cons_cons _ (.cons_cons _ .slnil))))) 2 rfl (.refl _)) (fun w1 hS => does_build rfl (fun w => by kernel_rfl)) ?_
      intro a hA
      refine any_one (by kernel_rfl) (op_store (us := [.bool ((rb (((dmR x1 x2 d1 d2 : Nat) : Int)))), .slice zo60 ((words (((dmR x1 x2 d1 d2 : Nat) : Int)).natAbs).length) zc61, .bool false, .slice none 0 0, .slice ro65 ((words (d1 * d2)).length) rc66]) hA hS 8 rfl rfl rfl (sets_store (cs := [.bool ((rb (((dmR x1 x2 d1 d2 : Nat) : Int)))), .slice zo60 ((words (((dmR x1 x2 d1 d2 : Nat) : Int)).natAbs).length) zc61, .bool false, .slice none 0 0, .slice ro65 ((words (d1 * d2)).length) rc66]) rfl rfl rfl (by kernel_rfl) hS 1 rfl rfl rfl) 1 rfl rfl rfl rfl ?_)
      intro w70 hS
      refine ⟨(hS.partD (.cons_cons _ (.cons _ (.cons_cons _ (.cons_cons _ (.cons_cons _ .slnil))))) 2 rfl (.refl _)), ?_⟩
      refine any_end (by kernel_rfl) ?_
      refine hK59 _ _ ?_
      refine wp_seq_k (fun K71 hK71 => ?_)
      refine wp_draw (S := fun w1 => St w w1 [(J32g, [.bool ((rb (-(x1 * ((d2 : Nat) : Int) / ((x2.natAbs * d1 : Nat) : Int))))), .slice zo46 ((words (-(x1 * ((d2 : Nat) : Int) / ((x2.natAbs * d1 : Nat) : Int))).natAbs).length) zc47]), (g8, [.bool ((rb (((dmR x1 x2 d1 d2 : Nat) : Int)))), .slice zo60 ((words (((dmR x1 x2 d1 d2 : Nat) : Int)).natAbs).length) zc61, .bool false, .slice none 0 0, .slice ro65 ((words (d1 * d2)).length) rc66]), (g6, [.bool ((rb (-(x1 * ((d2 : Nat) : Int) / ((x2.natAbs * d1 : Nat) : Int))))), .slice zo46 ((words (-(x1 * ((d2 : Nat) : Int) / ((x2.natAbs * d1 : Nat) : Int))).natAbs).length) zc47, .bool false, .slice none 0 0, .slice ro53 ((words 1).length) rc54]), (g4, [.bool ((rb x2)), .slice u1 ((words x2.natAbs).length) uc1, .bool ((rb y2)), .slice u2 ((words y2.natAbs).length) uc2, .slice u3 ((words d2).length) uc3]), (g2, [.bool ((rb x1)), .slice a1 ((words x1.natAbs).length) ac1, .bool ((rb y1)), .slice a2 ((words y1.natAbs).length) ac2, .slice a3 ((words d1).length) ac3])] [(ro65, words (d1 * d2)), (zo60, words (((dmR x1 x2 d1 d2 : Nat) : Int)).natAbs), (ro53, words 1), (zo46, words (-(x1 * ((d2 : Nat) : Int) / ((x2.natAbs * d1 : Nat) : Int))).natAbs), (J33, words (dmR x1 x2 d1 d2)), (J35, words (x1 * ((d2 : Nat) : Int) / ((x2.natAbs * d1 : Nat) : Int)).natAbs), (u3, words d2), (u2, words y2.natAbs), (u1, words x2.natAbs), (a3, words d1), (a2, words y1.natAbs), (a1, words x1.natAbs)] []) (by kernel_rfl) ?_
      replace hS := hS.drew
      refine any_take (v := .agg #[.bool ((rb (-(x1 * ((d2 : Nat) : Int) / ((x2.natAbs * d1 : Nat) : Int))))), .slice zo46 ((words (-(x1 * ((d2 : Nat) : Int) / ((x2.natAbs * d1 : Nat) : Int))).natAbs).length) zc47, .bool false, .slice none 0 0, .slice ro53 ((words 1).length) rc54]) hA 0 rfl rfl rfl rfl (by kernel_rfl) (by kernel_rfl) (by kernel_rfl) (fun c a w h => hP c a _ _ w h) hS (fun w1 hS => does_loadS hS ExQ_isS_48 rfl 2 rfl (cs := [.bool ((rb (-(x1 * ((d2 : Nat) : Int) / ((x2.natAbs * d1 : Nat) : Int))))), .slice zo46 ((words (-(x1 * ((d2 : Nat) : Int) / ((x2.natAbs * d1 : Nat) : Int))).natAbs).length) zc47, .bool false, .slice none 0 0, .slice ro53 ((words 1).length) rc54]) rfl rfl) ?_
      intro a hA
      refine any_take (v := .agg #[.bool ((rb (((dmR x1 x2 d1 d2 : Nat) : Int)))), .slice zo60 ((words (((dmR x1 x2 d1 d2 : Nat) : Int)).natAbs).length) zc61, .bool false, .slice none 0 0, .slice ro65 ((words (d1 * d2)).length) rc66]) hA 1 rfl rfl rfl rfl (by kernel_rfl) (by kernel_rfl) (by kernel_rfl) (fun c a w h => hP c a _ _ w h) hS (fun w1 hS => does_loadS hS ExQ_isS_48 rfl 1 rfl (cs := [.bool ((rb (((dmR x1 x2 d1 d2 : Nat) : Int)))), .slice zo60 ((words (((dmR x1 x2 d1 d2 : Nat) : Int)).natAbs).length) zc61, .bool false, .slice none 0 0, .slice ro65 ((words (d1 * d2)).length) rc66]) rfl rfl) ?_
      intro a hA
      refine any_one (by kernel_rfl) (op_store (us := [.bool ((rb (-(x1 * ((d2 : Nat) : Int) / ((x2.natAbs * d1 : Nat) : Int))))), .slice zo46 ((words (-(x1 * ((d2 : Nat) : Int) / ((x2.natAbs * d1 : Nat) : Int))).natAbs).length) zc47, .bool false, .slice none 0 0, .slice ro53 ((words 1).length) rc54]) hA hS 2 rfl rfl rfl (sets_store (cs := [.bool ((rb (-(x1 * ((d2 : Nat) : Int) / ((x2.natAbs * d1 : Nat) : Int))))), .slice zo46 ((words (-(x1 * ((d2 : Nat) : Int) / ((x2.natAbs * d1 : Nat) : Int))).natAbs).length) zc47, .bool false, .slice none 0 0, .slice ro53 ((words 1).length) rc54]) rfl rfl rfl (by kernel_rfl) hS 2 rfl rfl rfl) 2 rfl rfl rfl rfl ?_)
      intro w72 hS
      refine ⟨hS, ?_⟩
      refine any_one (by kernel_rfl) (op_store (us := [.bool ((rb (((dmR x1 x2 d1 d2 : Nat) : Int)))), .slice zo60 ((words (((dmR x1 x2 d1 d2 : Nat) : Int)).natAbs).length) zc61, .bool false, .slice none 0 0, .slice ro65 ((words (d1 * d2)).length) rc66]) hA hS 3 rfl rfl rfl (sets_store (cs := [.bool ((rb (((dmR x1 x2 d1 d2 : Nat) : Int)))), .slice zo60 ((words (((dmR x1 x2 d1 d2 : Nat) : Int)).natAbs).length) zc61, .bool false, .slice none 0 0, .slice ro65 ((words (d1 * d2)).length) rc66]) rfl rfl rfl (by kernel_rfl) hS 1 rfl rfl rfl) 1 rfl rfl rfl rfl ?_)
      intro w73 hS
      refine ⟨hS, ?_⟩
      refine any_end (by kernel_rfl) ?_
      refine hK71 _ _ ?_
      refine wp_ret ?_
      refine hret _ _ ?_
      refine ends (v := .tuple #[.agg #[.bool ((rb (-(x1 * ((d2 : Nat) : Int) / ((x2.natAbs * d1 : Nat) : Int))))), .slice zo46 ((words (-(x1 * ((d2 : Nat) : Int) / ((x2.natAbs * d1 : Nat) : Int))).natAbs).length) zc47, .bool false, .slice none 0 0, .slice ro53 ((words 1).length) rc54], .agg #[.bool ((rb (((dmR x1 x2 d1 d2 : Nat) : Int)))), .slice zo60 ((words (((dmR x1 x2 d1 d2 : Nat) : Int)).natAbs).length) zc61, .bool false, .slice none 0 0, .slice ro65 ((words (d1 * d2)).length) rc66]]) hA rfl (.cons (res_cell hS ExQ_isS_48 rfl 2 rfl (cs := [.bool ((rb (-(x1 * ((d2 : Nat) : Int) / ((x2.natAbs * d1 : Nat) : Int))))), .slice zo46 ((words (-(x1 * ((d2 : Nat) : Int) / ((x2.natAbs * d1 : Nat) : Int))).natAbs).length) zc47, .bool false, .slice none 0 0, .slice ro53 ((words 1).length) rc54]) rfl rfl) (.cons (res_cell hS ExQ_isS_48 rfl 1 rfl (cs := [.bool ((rb (((dmR x1 x2 d1 d2 : Nat) : Int)))), .slice zo60 ((words (((dmR x1 x2 d1 d2 : Nat) : Int)).natAbs).length) zc61, .bool false, .slice none 0 0, .slice ro65 ((words (d1 * d2)).length) rc66]) rfl rfl) .nil)) rfl ?_
      rw [show dmT x1 x2 d1 d2 = -(x1 * ((d2 : Nat) : Int) / ((x2.natAbs * d1 : Nat) : Int)) from if_pos hc45]
      exact ⟨zo46, zc47, ro53, rc54, zo60, zc61, ro65, rc66, rfl, ⟨(hS.rd 3 rfl), hs48.nil, hs48.cap⟩, ⟨(hS.rd 2 rfl), ho55.nocap, ho55.caps⟩, ⟨(hS.rd 1 rfl), hs62.nil, hs62.cap⟩, ⟨(hS.rd 0 rfl), ho67.nocap, ho67.caps⟩, hS.bel⟩
    · refine wp_skip ?_
      refine hK43 _ _ ?_
      refine wp_seq_k (fun K74 hK74 => ?_)
      refine wp_draw (S := fun w1 => St w w1 [(J32g, [.bool ((rb (x1 * ((d2 : Nat) : Int) / ((x2.natAbs * d1 : Nat) : Int)))), .slice J35 ((words (x1 * ((d2 : Nat) : Int) / ((x2.natAbs * d1 : Nat) : Int)).natAbs).length) J36]), (g8, [.bool false, .slice none 0 0, .bool false, .slice none 0 0, .slice none 0 0]), (g4, [.bool ((rb x2)), .slice u1 ((words x2.natAbs).length) uc1, .bool ((rb y2)), .slice u2 ((words y2.natAbs).length) uc2, .slice u3 ((words d2).length) uc3]), (g2, [.bool ((rb x1)), .slice a1 ((words x1.natAbs).length) ac1, .bool ((rb y1)), .slice a2 ((words y1.natAbs).length) ac2, .slice a3 ((words d1).length) ac3])] [(J33, words (dmR x1 x2 d1 d2)), (J35, words (x1 * ((d2 : Nat) : Int) / ((x2.natAbs * d1 : Nat) : Int)).natAbs), (u3, words d2), (u2, words y2.natAbs), (u1, words x2.natAbs), (a3, words d1), (a2, words y1.natAbs), (a1, words x1.natAbs)] []) (by kernel_rfl) ?_
      replace hS := hS.drew
      refine any_take (v := .agg #[.bool ((rb (x1 * ((d2 : Nat) : Int) / ((x2.natAbs * d1 : Nat) : Int)))), .slice J35 ((words (x1 * ((d2 : Nat) : Int) / ((x2.natAbs * d1 : Nat) : Int)).natAbs).length) J36]) hA 0 rfl rfl rfl rfl (by kernel_rfl) (by kernel_rfl) (by kernel_rfl) (fun c a w h => hP c a _ _ w h) (hS.partD (.cons_cons _ (.cons_cons _ (.cons _ (.cons_cons _ (.cons_cons _ .slnil))))) 0 rfl (.refl _)) (fun w1 hS => does_loadS hS ExQ_isS_46 rfl 0 rfl (cs := [.bool ((rb (x1 * ((d2 : Nat) : Int) / ((x2.natAbs * d1 : Nat) : Int)))), .slice J35 ((words (x1 * ((d2 : Nat) : Int) / ((x2.natAbs * d1 : Nat) : Int)).natAbs).length) J36]) rfl rfl) ?_
      intro a hA
      refine any_one (by kernel_rfl) (op_call hA 1 rfl rfl rfl rfl (enters_func  rfl rfl (fun w => by kernel_rfl)) (wof_any 1 _ (by decide)) ?_)
      rintro _ w79 ⟨ro75, rc76, rfl, ho77, hb78⟩
      replace hS := hS.call hb78
      replace hS := hS.addR ho77.rd
      refine ⟨_, rfl, (hS.partD (.cons_cons _ (.cons_cons _ (.cons _ (.cons_cons _ (.cons_cons _ .slnil))))) 1 rfl (.refl _)), ?_⟩
      intro a hA
      refine any_take (v := .agg #[.bool ((rb (x1 * ((d2 : Nat) : Int) / ((x2.natAbs * d1 : Nat) : Int)))), .slice J35 ((words (x1 * ((d2 : Nat) : Int) / ((x2.natAbs * d1 : Nat) : Int)).natAbs).length) J36, .bool false, .slice none 0 0, .slice ro75 ((words 1).length) rc76]) hA 2 rfl rfl rfl rfl (by kernel_rfl) (by kernel_rfl) (by kernel_rfl) (fun c a w h => hP c a _ _ w h) (hS.partD (.cons_cons _ (.cons_cons _ (.cons _ (.cons_cons _ (.cons_cons _ .slnil))))) 1 rfl (.refl _)) (fun w1 hS => does_build rfl (fun w => by kernel_rfl)) ?_
      intro a hA
      refine any_one (by kernel_rfl) (op_store (us := [.bool ((rb (x1 * ((d2 : Nat) : Int) / ((x2.natAbs * d1 : Nat) : Int)))), .slice J35 ((words (x1 * ((d2 : Nat) : Int) / ((x2.natAbs * d1 : Nat) : Int)).natAbs).length) J36, .bool false, .slice none 0 0, .slice ro75 ((words 1).length) rc76]) hA hS 3 rfl rfl rfl (sets_store (cs := [.bool ((rb (x1 * ((d2 : Nat) : Int) / ((x2.natAbs * d1 : Nat) : Int)))), .slice J35 ((words (x1 * ((d2 : Nat) : Int) / ((x2.natAbs * d1 : Nat) : Int)).natAbs).length) J36, .bool false, .slice none 0 0, .slice ro75 ((words 1).length) rc76]) rfl rfl rfl (by kernel_rfl) hS 2 rfl rfl rfl) 2 rfl rfl rfl rfl ?_)
      intro w80 hS
      refine ⟨(hS.partD (.cons_cons _ (.cons_cons _ (.cons _ (.cons_cons _ (.cons_cons _ .slnil))))) 1 rfl (.refl _)), ?_⟩
      refine any_end (by kernel_rfl) ?_
      refine hK74 _ _ ?_
      refine wp_seq_k (fun K81 hK81 => ?_)
      refine wp_draw (S := fun w1 => St w w1 [(J32g, [.bool ((rb (x1 * ((d2 : Nat) : Int) / ((x2.natAbs * d1 : Nat) : Int)))), .slice J35 ((words (x1 * ((d2 : Nat) : Int) / ((x2.natAbs * d1 : Nat) : Int)).natAbs).length) J36]), (g6, [.bool ((rb (x1 * ((d2 : Nat) : Int) / ((x2.natAbs * d1 : Nat) : Int)))), .slice J35 ((words (x1 * ((d2 : Nat) : Int) / ((x2.natAbs * d1 : Nat) : Int)).natAbs).length) J36, .bool false, .slice none 0 0, .slice ro75 ((words 1).length) rc76]), (g4, [.bool ((rb x2)), .slice u1 ((words x2.natAbs).length) uc1, .bool ((rb y2)), .slice u2 ((words y2.natAbs).length) uc2, .slice u3 ((words d2).length) uc3]), (g2, [.bool ((rb x1)), .slice a1 ((words x1.natAbs).length) ac1, .bool ((rb y1)), .slice a2 ((words y1.natAbs).length) ac2, .slice a3 ((words d1).length) ac3])] [(ro75, words 1), (J33, words (dmR x1 x2 d1 d2)), (J35, words (x1 * ((d2 : Nat) : Int) / ((x2.natAbs * d1 : Nat) : Int)).natAbs), (u3, words d2), (u2, words y2.natAbs), (u1, words x2.natAbs), (a3, words d1), (a2, words y1.natAbs), (a1, words x1.natAbs)] []) (by kernel_rfl) ?_
      replace hS := hS.drew
      refine any_take hA 0 rfl rfl rfl rfl (by kernel_rfl) (by kernel_rfl) (by kernel_rfl) (fun c a w h => hP c a _ _ w h) (hS.partD (.cons_cons _ (.cons _ (.cons_cons _ (.cons_cons _ (.cons_cons _ .slnil))))) 0 rfl (.refl _)) (fun w1 hS => does_move rfl) ?_
      intro a hA
      refine any_take (v := .pointer (some ⟨g2, 4, none⟩)) hA 2 rfl rfl rfl rfl (by kernel_rfl) (by kernel_rfl) (by kernel_rfl) (fun c a w h => hP c a _ _ w h) (hS.partD (.cons_cons _ (.cons _ (.cons_cons _ (.cons_cons _ (.cons_cons _ .slnil))))) 0 rfl (.refl _)) (fun w1 hS => does_field ExQ_fld_48_2 rfl rfl) ?_
      intro a hA
      refine any_take hA 3 rfl rfl rfl rfl (by kernel_rfl) (by kernel_rfl) (by kernel_rfl) (fun c a w h => hP c a _ _ w h) (hS.partD (.cons_cons _ (.cons _ (.cons_cons _ (.cons_cons _ (.cons_cons _ .slnil))))) 0 rfl (.refl _)) (fun w1 hS => does_load1 hS ExQ_is1_22 rfl 3 rfl rfl) ?_
      intro a hA
      refine any_take (v := .pointer (some ⟨g4, 4, none⟩)) hA 4 rfl rfl rfl rfl (by kernel_rfl) (by kernel_rfl) (by kernel_rfl) (fun c a w h => hP c a _ _ w h) (hS.partD (.cons_cons _ (.cons _ (.cons_cons _ (.cons_cons _ (.cons_cons _ .slnil))))) 0 rfl (.refl _)) (fun w1 hS => does_field ExQ_fld_48_2 rfl rfl) ?_
      intro a hA
      refine any_take hA 5 rfl rfl rfl rfl (by kernel_rfl) (by kernel_rfl) (by kernel_rfl) (fun c a w h => hP c a _ _ w h) (hS.partD (.cons_cons _ (.cons _ (.cons_cons _ (.cons_cons _ (.cons_cons _ .slnil))))) 0 rfl (.refl _)) (fun w1 hS => does_load1 hS ExQ_is1_22 rfl 2 rfl rfl) ?_
      intro a hA
      refine any_one (by kernel_rfl) (op_call hA 1 rfl rfl rfl rfl (enters_func  rfl rfl (fun w => by kernel_rfl)) (zsigned_any (b := false) (n := dmR x1 x2 d1 d2) (z := ((dmR x1 x2 d1 d2 : Nat) : Int)) ⟨(hS.rd 1 rfl), hn37, hc38⟩ rfl) ?_)
      rintro _ w86 ⟨zo82, zc83, rfl, hs84, hb85⟩
      replace hS := hS.call hb85
      replace hS := hS.addR hs84.rd
      refine ⟨_, rfl, (hS.partD (.cons_cons _ (.cons _ (.cons_cons _ (.cons_cons _ (.cons_cons _ .slnil))))) 1 rfl (.refl _)), ?_⟩
      intro a hA
      refine any_one (by kernel_rfl) (op_call hA 6 rfl rfl rfl rfl (enters_func  rfl rfl (fun w => by kernel_rfl)) (product_any _ _ (hS.rd 7 rfl) (hS.rd 4 rfl) (by omega) (by omega)) ?_)
      rintro _ w91 ⟨ro87, rc88, rfl, ho89, hb90⟩
      replace hS := hS.call hb90
      replace hS := hS.addR ho89.rd
      refine ⟨_, rfl, (hS.partD (.cons_cons _ (.cons _ (.cons_cons _ (.cons_cons _ (.cons_cons _ .slnil))))) 2 rfl (.refl _)), ?_⟩
      intro a hA
      refine any_take (v := .agg #[.bool ((rb (((dmR x1 x2 d1 d2 : Nat) : Int)))), .slice zo82 ((words (((dmR x1 x2 d1 d2 : Nat) : Int)).natAbs).length) zc83, .bool false, .slice none 0 0, .slice ro87 ((words (d1 * d2)).length) rc88]) hA 7 rfl rfl rfl rfl (by kernel_rfl) (by kernel_rfl) (by kernel_rfl) (fun c a w h => hP c a _ _ w h) (hS.partD (.cons_cons _ (.cons _ (.cons_cons _ (.cons_cons _ (.cons_cons _ .slnil))))) 2 rfl (.refl _)) (fun w1 hS => does_build rfl (fun w => by kernel_rfl)) ?_
      intro a hA
      refine any_one (by kernel_rfl) (op_store (us := [.bool ((rb (((dmR x1 x2 d1 d2 : Nat) : Int)))), .slice zo82 ((words (((dmR x1 x2 d1 d2 : Nat) : Int)).natAbs).length) zc83, .bool false, .slice none 0 0, .slice ro87 ((words (d1 * d2)).length) rc88]) hA hS 8 rfl rfl rfl (sets_store (cs := [.bool ((rb (((dmR x1 x2 d1 d2 : Nat) : Int)))), .slice zo82 ((words (((dmR x1 x2 d1 d2 : Nat) : Int)).natAbs).length) zc83, .bool false, .slice none 0 0, .slice ro87 ((words (d1 * d2)).length) rc88]) rfl rfl rfl (by kernel_rfl) hS 1 rfl rfl rfl) 1 rfl rfl rfl rfl ?_)
      intro w92 hS
      refine ⟨(hS.partD (.cons_cons _ (.cons _ (.cons_cons _ (.cons_cons _ (.cons_cons _ .slnil))))) 2 rfl (.refl _)), ?_⟩
      refine any_end (by kernel_rfl) ?_
      refine hK81 _ _ ?_
      refine wp_seq_k (fun K93 hK93 => ?_)
      refine wp_draw (S := fun w1 => St w w1 [(J32g, [.bool ((rb (x1 * ((d2 : Nat) : Int) / ((x2.natAbs * d1 : Nat) : Int)))), .slice J35 ((words (x1 * ((d2 : Nat) : Int) / ((x2.natAbs * d1 : Nat) : Int)).natAbs).length) J36]), (g8, [.bool ((rb (((dmR x1 x2 d1 d2 : Nat) : Int)))), .slice zo82 ((words (((dmR x1 x2 d1 d2 : Nat) : Int)).natAbs).length) zc83, .bool false, .slice none 0 0, .slice ro87 ((words (d1 * d2)).length) rc88]), (g6, [.bool ((rb (x1 * ((d2 : Nat) : Int) / ((x2.natAbs * d1 : Nat) : Int)))), .slice J35 ((words (x1 * ((d2 : Nat) : Int) / ((x2.natAbs * d1 : Nat) : Int)).natAbs).length) J36, .bool false, .slice none 0 0, .slice ro75 ((words 1).length) rc76]), (g4, [.bool ((rb x2)), .slice u1 ((words x2.natAbs).length) uc1, .bool ((rb y2)), .slice u2 ((words y2.natAbs).length) uc2, .slice u3 ((words d2).length) uc3]), (g2, [.bool ((rb x1)), .slice a1 ((words x1.natAbs).length) ac1, .bool ((rb y1)), .slice a2 ((words y1.natAbs).length) ac2, .slice a3 ((words d1).length) ac3])] [(ro87, words (d1 * d2)), (zo82, words (((dmR x1 x2 d1 d2 : Nat) : Int)).natAbs), (ro75, words 1), (J33, words (dmR x1 x2 d1 d2)), (J35, words (x1 * ((d2 : Nat) : Int) / ((x2.natAbs * d1 : Nat) : Int)).natAbs), (u3, words d2), (u2, words y2.natAbs), (u1, words x2.natAbs), (a3, words d1), (a2, words y1.natAbs), (a1, words x1.natAbs)] []) (by kernel_rfl) ?_
      replace hS := hS.drew
      refine any_take (v := .agg #[.bool ((rb (x1 * ((d2 : Nat) : Int) / ((x2.natAbs * d1 : Nat) : Int)))), .slice J35 ((words (x1 * ((d2 : Nat) : Int) / ((x2.natAbs * d1 : Nat) : Int)).natAbs).length) J36, .bool false, .slice none 0 0, .slice ro75 ((words 1).length) rc76]) hA 0 rfl rfl rfl rfl (by kernel_rfl) (by kernel_rfl) (by kernel_rfl) (fun c a w h => hP c a _ _ w h) hS (fun w1 hS => does_loadS hS ExQ_isS_48 rfl 2 rfl (cs := [.bool ((rb (x1 * ((d2 : Nat) : Int) / ((x2.natAbs * d1 : Nat) : Int)))), .slice J35 ((words (x1 * ((d2 : Nat) : Int) / ((x2.natAbs * d1 : Nat) : Int)).natAbs).length) J36, .bool false, .slice none 0 0, .slice ro75 ((words 1).length) rc76]) rfl rfl) ?_
      intro a hA
      refine any_take (v := .agg #[.bool ((rb (((dmR x1 x2 d1 d2 : Nat) : Int)))), .slice zo82 ((words (((dmR x1 x2 d1 d2 : Nat) : Int)).natAbs).length) zc83, .bool false, .slice none 0 0, .slice ro87 ((words (d1 * d2)).length) rc88]) hA 1 rfl rfl rfl rfl (by kernel_rfl) (by kernel_rfl) (by kernel_rfl) (fun c a w h => hP c a _ _ w h) hS (fun w1 hS => does_loadS hS ExQ_isS_48 rfl 1 rfl (cs := [.bool ((rb (((dmR x1 x2 d1 d2 : Nat) : Int)))), .slice zo82 ((words (((dmR x1 x2 d1 d2 : Nat) : Int)).natAbs).length) zc83, .bool false, .slice none 0 0, .slice ro87 ((words (d1 * d2)).length) rc88]) rfl rfl) ?_
      intro a hA
      refine any_one (by kernel_rfl) (op_store (us := [.bool ((rb (x1 * ((d2 : Nat) : Int) / ((x2.natAbs * d1 : Nat) : Int)))), .slice J35 ((words (x1 * ((d2 : Nat) : Int) / ((x2.natAbs * d1 : Nat) : Int)).natAbs).length) J36, .bool false, .slice none 0 0, .slice ro75 ((words 1).length) rc76]) hA hS 2 rfl rfl rfl (sets_store (cs := [.bool ((rb (x1 * ((d2 : Nat) : Int) / ((x2.natAbs * d1 : Nat) : Int)))), .slice J35 ((words (x1 * ((d2 : Nat) : Int) / ((x2.natAbs * d1 : Nat) : Int)).natAbs).length) J36, .bool false, .slice none 0 0, .slice ro75 ((words 1).length) rc76]) rfl rfl rfl (by kernel_rfl) hS 2 rfl rfl rfl) 2 rfl rfl rfl rfl ?_)
      intro w94 hS
      refine ⟨hS, ?_⟩
      refine any_one (by kernel_rfl) (op_store (us := [.bool ((rb (((dmR x1 x2 d1 d2 : Nat) : Int)))), .slice zo82 ((words (((dmR x1 x2 d1 d2 : Nat) : Int)).natAbs).length) zc83, .bool false, .slice none 0 0, .slice ro87 ((words (d1 * d2)).length) rc88]) hA hS 3 rfl rfl rfl (sets_store (cs := [.bool ((rb (((dmR x1 x2 d1 d2 : Nat) : Int)))), .slice zo82 ((words (((dmR x1 x2 d1 d2 : Nat) : Int)).natAbs).length) zc83, .bool false, .slice none 0 0, .slice ro87 ((words (d1 * d2)).length) rc88]) rfl rfl rfl (by kernel_rfl) hS 1 rfl rfl rfl) 1 rfl rfl rfl rfl ?_)
      intro w95 hS
      refine ⟨hS, ?_⟩
      refine any_end (by kernel_rfl) ?_
      refine hK93 _ _ ?_
      refine wp_ret ?_
      refine hret _ _ ?_
      refine ends (v := .tuple #[.agg #[.bool ((rb (x1 * ((d2 : Nat) : Int) / ((x2.natAbs * d1 : Nat) : Int)))), .slice J35 ((words (x1 * ((d2 : Nat) : Int) / ((x2.natAbs * d1 : Nat) : Int)).natAbs).length) J36, .bool false, .slice none 0 0, .slice ro75 ((words 1).length) rc76], .agg #[.bool ((rb (((dmR x1 x2 d1 d2 : Nat) : Int)))), .slice zo82 ((words (((dmR x1 x2 d1 d2 : Nat) : Int)).natAbs).length) zc83, .bool false, .slice none 0 0, .slice ro87 ((words (d1 * d2)).length) rc88]]) hA rfl (.cons (res_cell hS ExQ_isS_48 rfl 2 rfl (cs := [.bool ((rb (x1 * ((d2 : Nat) : Int) / ((x2.natAbs * d1 : Nat) : Int)))), .slice J35 ((words (x1 * ((d2 : Nat) : Int) / ((x2.natAbs * d1 : Nat) : Int)).natAbs).length) J36, .bool false, .slice none 0 0, .slice ro75 ((words 1).length) rc76]) rfl rfl) (.cons (res_cell hS ExQ_isS_48 rfl 1 rfl (cs := [.bool ((rb (((dmR x1 x2 d1 d2 : Nat) : Int)))), .slice zo82 ((words (((dmR x1 x2 d1 d2 : Nat) : Int)).natAbs).length) zc83, .bool false, .slice none 0 0, .slice ro87 ((words (d1 * d2)).length) rc88]) rfl rfl) .nil)) rfl ?_
      rw [show dmT x1 x2 d1 d2 = x1 * ((d2 : Nat) : Int) / ((x2.natAbs * d1 : Nat) : Int) from if_neg (by rw [hc45]; decide)]
      exact ⟨J35, J36, ro75, rc76, zo82, zc83, ro87, rc88, rfl, ⟨(hS.rd 4 rfl), hn39, hc40⟩, ⟨(hS.rd 2 rfl), ho77.nocap, ho77.caps⟩, ⟨(hS.rd 1 rfl), hs84.nil, hs84.cap⟩, ⟨(hS.rd 0 rfl), ho89.nocap, ho89.caps⟩, hS.bel⟩
  refine wp_draw (S := fun w1 => St w w1 [(g8, [.bool false, .slice none 0 0, .bool false, .slice none 0 0, .slice none 0 0]), (g6, [.bool false, .slice none 0 0, .bool false, .slice none 0 0, .slice none 0 0]), (g4, [.bool ((rb x2)), .slice u1 ((words x2.natAbs).length) uc1, .bool ((rb y2)), .slice u2 ((words y2.natAbs).length) uc2, .slice u3 ((words d2).length) uc3]), (g2, [.bool ((rb x1)), .slice a1 ((words x1.natAbs).length) ac1, .bool ((rb y1)), .slice a2 ((words y1.natAbs).length) ac2, .slice a3 ((words d1).length) ac3])] [(u3, words d2), (u2, words y2.natAbs), (u1, words x2.natAbs), (a3, words d1), (a2, words y1.natAbs), (a1, words x1.natAbs)] []) (by kernel_rfl) ?_
  replace hS := hS.drew
  refine any_take (v := .pointer (some ⟨g2, 0, none⟩)) hA 0 rfl rfl rfl rfl (by kernel_rfl) (by kernel_rfl) (by kernel_rfl) (fun c a w h => hP c a _ _ w h) hS (fun w1 hS => does_field ExQ_fld_48_0 rfl rfl) ?_
  intro a hA
  refine any_take (v := .agg #[.bool ((rb x1)), .slice a1 ((words x1.natAbs).length) ac1]) hA 1 rfl rfl rfl rfl (by kernel_rfl) (by kernel_rfl) (by kernel_rfl) (fun c a w h => hP c a _ _ w h) hS (fun w1 hS => does_loadS hS ExQ_isS_46 rfl 3 rfl (cs := [.bool ((rb x1)), .slice a1 ((words x1.natAbs).length) ac1]) rfl rfl) ?_
  intro a hA
  refine any_take (v := .pointer (some ⟨g4, 4, none⟩)) hA 2 rfl rfl rfl rfl (by kernel_rfl) (by kernel_rfl) (by kernel_rfl) (fun c a w h => hP c a _ _ w h) hS (fun w1 hS => does_field ExQ_fld_48_2 rfl rfl) ?_
  intro a hA
  refine any_take hA 3 rfl rfl rfl rfl (by kernel_rfl) (by kernel_rfl) (by kernel_rfl) (fun c a w h => hP c a _ _ w h) hS (fun w1 hS => does_load1 hS ExQ_is1_22 rfl 2 rfl rfl) ?_
  intro a hA
  refine any_take (v := .pointer (some ⟨g4, 0, none⟩)) hA 5 rfl rfl rfl rfl (by kernel_rfl) (by kernel_rfl) (by kernel_rfl) (fun c a w h => hP c a _ _ w h) hS (fun w1 hS => does_field ExQ_fld_48_0 rfl rfl) ?_
  intro a hA
  refine any_take (v := .pointer (some ⟨g4, 1, none⟩)) hA 6 rfl rfl rfl rfl (by kernel_rfl) (by kernel_rfl) (by kernel_rfl) (fun c a w h => hP c a _ _ w h) hS (fun w1 hS => does_field ExQ_fld_46_1 rfl rfl) ?_
  intro a hA
  refine any_take hA 7 rfl rfl rfl rfl (by kernel_rfl) (by kernel_rfl) (by kernel_rfl) (fun c a w h => hP c a _ _ w h) hS (fun w1 hS => does_load1 hS ExQ_is1_22 rfl 2 rfl rfl) ?_
  intro a hA
  refine any_take (v := .pointer (some ⟨g2, 4, none⟩)) hA 8 rfl rfl rfl rfl (by kernel_rfl) (by kernel_rfl) (by kernel_rfl) (fun c a w h => hP c a _ _ w h) hS (fun w1 hS => does_field ExQ_fld_48_2 rfl rfl) ?_
  intro a hA
  refine any_take hA 9 rfl rfl rfl rfl (by kernel_rfl) (by kernel_rfl) (by kernel_rfl) (fun c a w h => hP c a _ _ w h) hS (fun w1 hS => does_load1 hS ExQ_is1_22 rfl 3 rfl rfl) ?_
  intro a hA
  refine any_many (rs := [4, 15]) (by kernel_rfl) (by simp) ⟨?_, ?_, trivial⟩
  · refine op_call hA 4 rfl rfl rfl rfl (enters_func  rfl rfl (fun w => by kernel_rfl)) (zscaled_any ⟨(hS.rd 5 rfl), ha1.nil, ha1.cap⟩ ⟨(hS.rd 0 rfl), hu3.nil, hu3.cap⟩ (by omega) (by omega)) ?_
    rintro _ w100 ⟨zo96, zc97, rfl, hs98, hb99⟩
    replace hS := hS.call hb99
    replace hS := hS.addR hs98.rd
    refine ⟨_, rfl, (hS.partD (.refl _) 1 rfl (.refl _)), ?_⟩
    intro a hA
    refine any_many (rs := [10, 15]) (by kernel_rfl) (by simp) ⟨?_, ?_, trivial⟩
    · refine op_call hA 10 rfl rfl rfl rfl (enters_func  rfl rfl (fun w => by kernel_rfl)) (product_any _ _ (hS.rd 3 rfl) (hS.rd 4 rfl) (by omega) (by omega)) ?_
      rintro _ w105 ⟨ro101, rc102, rfl, ho103, hb104⟩
      replace hS := hS.call hb104
      replace hS := hS.addR ho103.rd
      refine ⟨_, rfl, (hS.partD (.refl _) 2 rfl (.refl _)), ?_⟩
      intro a hA
      refine any_many (rs := [11, 15]) (by kernel_rfl) (by simp) ⟨?_, ?_, trivial⟩
      · refine op_call hA 11 rfl rfl rfl rfl (enters_func  rfl rfl (fun w => by kernel_rfl)) (zover_any ⟨(hS.rd 1 rfl), hs98.nil, hs98.cap⟩ ⟨(hS.rd 0 rfl), ho103.nocap, ho103.caps⟩ (by omega) (by omega) (Nat.mul_ne_zero (by omega) h1)) ?_
        rintro _ w113 ⟨zo106, zc107, uo108, uc109, rfl, hs110, ht111, hb112⟩
        replace hS := hS.call hb112
        replace hS := hS.addR hs110.rd
        replace hS := hS.addR ht111.rd
        refine ⟨_, rfl, (hS.partD (.refl _) 4 rfl (.refl _)), ?_⟩
        intro a hA
        refine any_take hA 12 rfl rfl rfl rfl (by kernel_rfl) (by kernel_rfl) (by kernel_rfl) (fun c a w h => hP c a _ _ w h) (hS.partD (.refl _) 4 rfl (.refl _)) (fun w1 hS => does_move rfl) ?_
        intro a hA
        refine any_take (v := .agg #[.bool ((rb (x1 * ((d2 : Nat) : Int) / ((x2.natAbs * d1 : Nat) : Int)))), .slice zo106 ((words (x1 * ((d2 : Nat) : Int) / ((x2.natAbs * d1 : Nat) : Int)).natAbs).length) zc107]) hA 13 rfl rfl rfl rfl (by kernel_rfl) (by kernel_rfl) (by kernel_rfl) (fun c a w h => hP c a _ _ w h) (hS.partD (.refl _) 4 rfl (.refl _)) (fun w1 hS => does_extract (vs := [.agg #[.bool ((rb (x1 * ((d2 : Nat) : Int) / ((x2.natAbs * d1 : Nat) : Int)))), .slice zo106 ((words (x1 * ((d2 : Nat) : Int) / ((x2.natAbs * d1 : Nat) : Int)).natAbs).length) zc107], .slice uo108 ((words (dmR x1 x2 d1 d2)).length) uc109]) rfl rfl) ?_
        intro a hA
        refine any_take (v := .slice uo108 ((words (dmR x1 x2 d1 d2)).length) uc109) hA 14 rfl rfl rfl rfl (by kernel_rfl) (by kernel_rfl) (by kernel_rfl) (fun c a w h => hP c a _ _ w h) (hS.partD (.refl _) 4 rfl (.refl _)) (fun w1 hS => does_extract (vs := [.agg #[.bool ((rb (x1 * ((d2 : Nat) : Int) / ((x2.natAbs * d1 : Nat) : Int)))), .slice zo106 ((words (x1 * ((d2 : Nat) : Int) / ((x2.natAbs * d1 : Nat) : Int)).natAbs).length) zc107], .slice uo108 ((words (dmR x1 x2 d1 d2)).length) uc109]) rfl rfl) ?_
        intro a hA
        refine any_one (by kernel_rfl) (op_new (vs := [.bool false, .slice none 0 0]) (t := 46) hA hS 15 rfl rfl rfl rfl (fun g => .pointer (some ⟨g, 0, none⟩)) (does_alloc (z := .agg #[.bool false, .slice none 0 0]) (by kernel_rfl) rfl) rfl ?_)
        intro g114 w115 hS
        refine ⟨(hS.partD (.cons _ (.cons_cons _ (.cons_cons _ (.cons_cons _ (.cons_cons _ .slnil))))) 4 rfl (.refl _)), ?_⟩
        intro a hA
        refine any_one (by kernel_rfl) (op_store (us := [.bool ((rb (x1 * ((d2 : Nat) : Int) / ((x2.natAbs * d1 : Nat) : Int)))), .slice zo106 ((words (x1 * ((d2 : Nat) : Int) / ((x2.natAbs * d1 : Nat) : Int)).natAbs).length) zc107]) hA hS 16 rfl rfl rfl (sets_store (cs := [.bool ((rb (x1 * ((d2 : Nat) : Int) / ((x2.natAbs * d1 : Nat) : Int)))), .slice zo106 ((words (x1 * ((d2 : Nat) : Int) / ((x2.natAbs * d1 : Nat) : Int)).natAbs).length) zc107]) rfl rfl rfl (by kernel_rfl) hS 0 rfl rfl rfl) 0 rfl rfl rfl rfl ?_)
        intro w116 hS
        refine ⟨(hS.partD (.cons _ (.cons_cons _ (.cons_cons _ (.cons_cons _ (.cons_cons _ .slnil))))) 4 rfl (.refl _)), ?_⟩
        refine any_take hA 17 rfl rfl rfl rfl (by kernel_rfl) (by kernel_rfl) (by kernel_rfl) (fun c a w h => hP c a _ _ w h) (hS.partD (.cons _ (.cons_cons _ (.cons_cons _ (.cons_cons _ (.cons_cons _ .slnil))))) 4 rfl (.refl _)) (fun w1 hS => does_assign rfl) ?_
        intro a hA
        refine any_end (by kernel_rfl) ?_
        refine hJ41 _ _ ⟨g114, uo108, uc109, zo106, zc107, hA.keep _ ⟨rfl, rfl, rfl, rfl, rfl, rfl, rfl, rfl, trivial⟩, ((hS.pickR [(uo108, words (dmR x1 x2 d1 d2)), (zo106, words (x1 * ((d2 : Nat) : Int) / ((x2.natAbs * d1 : Nat) : Int)).natAbs), (u3, words d2), (u2, words y2.natAbs), (u1, words x2.natAbs), (a3, words d1), (a2, words y1.natAbs), (a1, words x1.natAbs)] ⟨⟨0, rfl⟩, ⟨⟨1, rfl⟩, ⟨⟨4, rfl⟩, ⟨⟨5, rfl⟩, ⟨⟨6, rfl⟩, ⟨⟨7, rfl⟩, ⟨⟨8, rfl⟩, ⟨⟨9, rfl⟩, trivial⟩⟩⟩⟩⟩⟩⟩⟩).pickL [(g114, [.bool ((rb (x1 * ((d2 : Nat) : Int) / ((x2.natAbs * d1 : Nat) : Int)))), .slice zo106 ((words (x1 * ((d2 : Nat) : Int) / ((x2.natAbs * d1 : Nat) : Int)).natAbs).length) zc107]), (g8, [.bool false, .slice none 0 0, .bool false, .slice none 0 0, .slice none 0 0]), (g6, [.bool false, .slice none 0 0, .bool false, .slice none 0 0, .slice none 0 0]), (g4, [.bool ((rb x2)), .slice u1 ((words x2.natAbs).length) uc1, .bool ((rb y2)), .slice u2 ((words y2.natAbs).length) uc2, .slice u3 ((words d2).length) uc3]), (g2, [.bool ((rb x1)), .slice a1 ((words x1.natAbs).length) ac1, .bool ((rb y1)), .slice a2 ((words y1.natAbs).length) ac2, .slice a3 ((words d1).length) ac3])] [0, 1, 2, 3, 4] rfl (by decide)), ht111.nil, ht111.cap, hs110.nil, hs110.cap⟩
      · refine op_new (vs := [.bool false, .slice none 0 0]) (t := 46) hA hS 15 rfl rfl rfl rfl (fun g => .pointer (some ⟨g, 0, none⟩)) (does_alloc (z := .agg #[.bool false, .slice none 0 0]) (by kernel_rfl) rfl) rfl ?_
        intro g117 w118 hS
        refine ⟨(hS.partD (.cons _ (.cons_cons _ (.cons_cons _ (.cons_cons _ (.cons_cons _ .slnil))))) 2 rfl (.refl _)), ?_⟩
        intro a hA
        refine any_one (by kernel_rfl) (op_call hA 11 rfl rfl rfl rfl (enters_func  rfl rfl (fun w => by kernel_rfl)) (zover_any ⟨(hS.rd 1 rfl), hs98.nil, hs98.cap⟩ ⟨(hS.rd 0 rfl), ho103.nocap, ho103.caps⟩ (by omega) (by omega) (Nat.mul_ne_zero (by omega) h1)) ?_)
        rintro _ w126 ⟨zo119, zc120, uo121, uc122, rfl, hs123, ht124, hb125⟩
        replace hS := hS.call hb125
        replace hS := hS.addR hs123.rd
        replace hS := hS.addR ht124.rd
        refine ⟨_, rfl, (hS.partD (.cons _ (.cons_cons _ (.cons_cons _ (.cons_cons _ (.cons_cons _ .slnil))))) 4 rfl (.refl _)), ?_⟩
        intro a hA
        refine any_take hA 12 rfl rfl rfl rfl (by kernel_rfl) (by kernel_rfl) (by kernel_rfl) (fun c a w h => hP c a _ _ w h) (hS.partD (.cons _ (.cons_cons _ (.cons_cons _ (.cons_cons _ (.cons_cons _ .slnil))))) 4 rfl (.refl _)) (fun w1 hS => does_move rfl) ?_
        intro a hA
        refine any_take (v := .agg #[.bool ((rb (x1 * ((d2 : Nat) : Int) / ((x2.natAbs * d1 : Nat) : Int)))), .slice zo119 ((words (x1 * ((d2 : Nat) : Int) / ((x2.natAbs * d1 : Nat) : Int)).natAbs).length) zc120]) hA 13 rfl rfl rfl rfl (by kernel_rfl) (by kernel_rfl) (by kernel_rfl) (fun c a w h => hP c a _ _ w h) (hS.partD (.cons _ (.cons_cons _ (.cons_cons _ (.cons_cons _ (.cons_cons _ .slnil))))) 4 rfl (.refl _)) (fun w1 hS => does_extract (vs := [.agg #[.bool ((rb (x1 * ((d2 : Nat) : Int) / ((x2.natAbs * d1 : Nat) : Int)))), .slice zo119 ((words (x1 * ((d2 : Nat) : Int) / ((x2.natAbs * d1 : Nat) : Int)).natAbs).length) zc120], .slice uo121 ((words (dmR x1 x2 d1 d2)).length) uc122]) rfl rfl) ?_
        intro a hA
        refine any_take (v := .slice uo121 ((words (dmR x1 x2 d1 d2)).length) uc122) hA 14 rfl rfl rfl rfl (by kernel_rfl) (by kernel_rfl) (by kernel_rfl) (fun c a w h => hP c a _ _ w h) (hS.partD (.cons _ (.cons_cons _ (.cons_cons _ (.cons_cons _ (.cons_cons _ .slnil))))) 4 rfl (.refl _)) (fun w1 hS => does_extract (vs := [.agg #[.bool ((rb (x1 * ((d2 : Nat) : Int) / ((x2.natAbs * d1 : Nat) : Int)))), .slice zo119 ((words (x1 * ((d2 : Nat) : Int) / ((x2.natAbs * d1 : Nat) : Int)).natAbs).length) zc120], .slice uo121 ((words (dmR x1 x2 d1 d2)).length) uc122]) rfl rfl) ?_
        intro a hA
        refine any_one (by kernel_rfl) (op_store (us := [.bool ((rb (x1 * ((d2 : Nat) : Int) / ((x2.natAbs * d1 : Nat) : Int)))), .slice zo119 ((words (x1 * ((d2 : Nat) : Int) / ((x2.natAbs * d1 : Nat) : Int)).natAbs).length) zc120]) hA hS 16 rfl rfl rfl (sets_store (cs := [.bool ((rb (x1 * ((d2 : Nat) : Int) / ((x2.natAbs * d1 : Nat) : Int)))), .slice zo119 ((words (x1 * ((d2 : Nat) : Int) / ((x2.natAbs * d1 : Nat) : Int)).natAbs).length) zc120]) rfl rfl rfl (by kernel_rfl) hS 0 rfl rfl rfl) 0 rfl rfl rfl rfl ?_)
        intro w127 hS
        refine ⟨(hS.partD (.cons _ (.cons_cons _ (.cons_cons _ (.cons_cons _ (.cons_cons _ .slnil))))) 4 rfl (.refl _)), ?_⟩
        refine any_take hA 17 rfl rfl rfl rfl (by kernel_rfl) (by kernel_rfl) (by kernel_rfl) (fun c a w h => hP c a _ _ w h) (hS.partD (.cons _ (.cons_cons _ (.cons_cons _ (.cons_cons _ (.cons_cons _ .slnil))))) 4 rfl (.refl _)) (fun w1 hS => does_assign rfl) ?_
        intro a hA
        refine any_end (by kernel_rfl) ?_
        refine hJ41 _ _ ⟨g117, uo121, uc122, zo119, zc120, hA.keep _ ⟨rfl, rfl, rfl, rfl, rfl, rfl, rfl, rfl, trivial⟩, ((hS.pickR [(uo121, words (dmR x1 x2 d1 d2)), (zo119, words (x1 * ((d2 : Nat) : Int) / ((x2.natAbs * d1 : Nat) : Int)).natAbs), (u3, words d2), (u2, words y2.natAbs), (u1, words x2.natAbs), (a3, words d1), (a2, words y1.natAbs), (a1, words x1.natAbs)] ⟨⟨0, rfl⟩, ⟨⟨1, rfl⟩, ⟨⟨4, rfl⟩, ⟨⟨5, rfl⟩, ⟨⟨6, rfl⟩, ⟨⟨7, rfl⟩, ⟨⟨8, rfl⟩, ⟨⟨9, rfl⟩, trivial⟩⟩⟩⟩⟩⟩⟩⟩).pickL [(g117, [.bool ((rb (x1 * ((d2 : Nat) : Int) / ((x2.natAbs * d1 : Nat) : Int)))), .slice zo119 ((words (x1 * ((d2 : Nat) : Int) / ((x2.natAbs * d1 : Nat) : Int)).natAbs).length) zc120]), (g8, [.bool false, .slice none 0 0, .bool false, .slice none 0 0, .slice none 0 0]), (g6, [.bool false, .slice none 0 0, .bool false, .slice none 0 0, .slice none 0 0]), (g4, [.bool ((rb x2)), .slice u1 ((words x2.natAbs).length) uc1, .bool ((rb y2)), .slice u2 ((words y2.natAbs).length) uc2, .slice u3 ((words d2).length) uc3]), (g2, [.bool ((rb x1)), .slice a1 ((words x1.natAbs).length) ac1, .bool ((rb y1)), .slice a2 ((words y1.natAbs).length) ac2, .slice a3 ((words d1).length) ac3])] [0, 1, 2, 3, 4] rfl (by decide)), ht124.nil, ht124.cap, hs123.nil, hs123.cap⟩
    · refine op_new (vs := [.bool false, .slice none 0 0]) (t := 46) hA hS 15 rfl rfl rfl rfl (fun g => .pointer (some ⟨g, 0, none⟩)) (does_alloc (z := .agg #[.bool false, .slice none 0 0]) (by kernel_rfl) rfl) rfl ?_
      intro g128 w129 hS
      refine ⟨(hS.partD (.cons _ (.cons_cons _ (.cons_cons _ (.cons_cons _ (.cons_cons _ .slnil))))) 1 rfl (.refl _)), ?_⟩
      intro a hA
      refine any_one (by kernel_rfl) (op_call hA 10 rfl rfl rfl rfl (enters_func  rfl rfl (fun w => by kernel_rfl)) (product_any _ _ (hS.rd 3 rfl) (hS.rd 4 rfl) (by omega) (by omega)) ?_)
      rintro _ w134 ⟨ro130, rc131, rfl, ho132, hb133⟩
      replace hS := hS.call hb133
      replace hS := hS.addR ho132.rd
      refine ⟨_, rfl, (hS.partD (.cons _ (.cons_cons _ (.cons_cons _ (.cons_cons _ (.cons_cons _ .slnil))))) 2 rfl (.refl _)), ?_⟩
      intro a hA
      refine any_one (by kernel_rfl) (op_call hA 11 rfl rfl rfl rfl (enters_func  rfl rfl (fun w => by kernel_rfl)) (zover_any ⟨(hS.rd 1 rfl), hs98.nil, hs98.cap⟩ ⟨(hS.rd 0 rfl), ho132.nocap, ho132.caps⟩ (by omega) (by omega) (Nat.mul_ne_zero (by omega) h1)) ?_)
      rintro _ w142 ⟨zo135, zc136, uo137, uc138, rfl, hs139, ht140, hb141⟩
      replace hS := hS.call hb141
      replace hS := hS.addR hs139.rd
      replace hS := hS.addR ht140.rd
      refine ⟨_, rfl, (hS.partD (.cons _ (.cons_cons _ (.cons_cons _ (.cons_cons _ (.cons_cons _ .slnil))))) 4 rfl (.refl _)), ?_⟩
      intro a hA
      refine any_take hA 12 rfl rfl rfl rfl (by kernel_rfl) (by kernel_rfl) (by kernel_rfl) (fun c a w h => hP c a _ _ w h) (hS.partD (.cons _ (.cons_cons _ (.cons_cons _ (.cons_cons _ (.cons_cons _ .slnil))))) 4 rfl (.refl _)) (fun w1 hS => does_move rfl) ?_
      intro a hA
      refine any_take (v := .agg #[.bool ((rb (x1 * ((d2 : Nat) : Int) / ((x2.natAbs * d1 : Nat) : Int)))), .slice zo135 ((words (x1 * ((d2 : Nat) : Int) / ((x2.natAbs * d1 : Nat) : Int)).natAbs).length) zc136]) hA 13 rfl rfl rfl rfl (by kernel_rfl) (by kernel_rfl) (by kernel_rfl) (fun c a w h => hP c a _ _ w h) (hS.partD (.cons _ (.cons_cons _ (.cons_cons _ (.cons_cons _ (.cons_cons _ .slnil))))) 4 rfl (.refl _)) (fun w1 hS => does_extract (vs := [.agg #[.bool ((rb (x1 * ((d2 : Nat) : Int) / ((x2.natAbs * d1 : Nat) : Int)))), .slice zo135 ((words (x1 * ((d2 : Nat) : Int) / ((x2.natAbs * d1 : Nat) : Int)).natAbs).length) zc136], .slice uo137 ((words (dmR x1 x2 d1 d2)).length) uc138]) rfl rfl) ?_
      intro a hA
      refine any_take (v := .slice uo137 ((words (dmR x1 x2 d1 d2)).length) uc138) hA 14 rfl rfl rfl rfl (by kernel_rfl) (by kernel_rfl) (by kernel_rfl) (fun c a w h => hP c a _ _ w h) (hS.partD (.cons _ (.cons_cons _ (.cons_cons _ (.cons_cons _ (.cons_cons _ .slnil))))) 4 rfl (.refl _)) (fun w1 hS => does_extract (vs := [.agg #[.bool ((rb (x1 * ((d2 : Nat) : Int) / ((x2.natAbs * d1 : Nat) : Int)))), .slice zo135 ((words (x1 * ((d2 : Nat) : Int) / ((x2.natAbs * d1 : Nat) : Int)).natAbs).length) zc136], .slice uo137 ((words (dmR x1 x2 d1 d2)).length) uc138]) rfl rfl) ?_
      intro a hA
      refine any_one (by kernel_rfl) (op_store (us := [.bool ((rb (x1 * ((d2 : Nat) : Int) / ((x2.natAbs * d1 : Nat) : Int)))), .slice zo135 ((words (x1 * ((d2 : Nat) : Int) / ((x2.natAbs * d1 : Nat) : Int)).natAbs).length) zc136]) hA hS 16 rfl rfl rfl (sets_store (cs := [.bool ((rb (x1 * ((d2 : Nat) : Int) / ((x2.natAbs * d1 : Nat) : Int)))), .slice zo135 ((words (x1 * ((d2 : Nat) : Int) / ((x2.natAbs * d1 : Nat) : Int)).natAbs).length) zc136]) rfl rfl rfl (by kernel_rfl) hS 0 rfl rfl rfl) 0 rfl rfl rfl rfl ?_)
      intro w143 hS
      refine ⟨(hS.partD (.cons _ (.cons_cons _ (.cons_cons _ (.cons_cons _ (.cons_cons _ .slnil))))) 4 rfl (.refl _)), ?_⟩
      refine any_take hA 17 rfl rfl rfl rfl (by kernel_rfl) (by kernel_rfl) (by kernel_rfl) (fun c a w h => hP c a _ _ w h) (hS.partD (.cons _ (.cons_cons _ (.cons_cons _ (.cons_cons _ (.cons_cons _ .slnil))))) 4 rfl (.refl _)) (fun w1 hS => does_assign rfl) ?_
      intro a hA
      refine any_end (by kernel_rfl) ?_
      refine hJ41 _ _ ⟨g128, uo137, uc138, zo135, zc136, hA.keep _ ⟨rfl, rfl, rfl, rfl, rfl, rfl, rfl, rfl, trivial⟩, ((hS.pickR [(uo137, words (dmR x1 x2 d1 d2)), (zo135, words (x1 * ((d2 : Nat) : Int) / ((x2.natAbs * d1 : Nat) : Int)).natAbs), (u3, words d2), (u2, words y2.natAbs), (u1, words x2.natAbs), (a3, words d1), (a2, words y1.natAbs), (a1, words x1.natAbs)] ⟨⟨0, rfl⟩, ⟨⟨1, rfl⟩, ⟨⟨4, rfl⟩, ⟨⟨5, rfl⟩, ⟨⟨6, rfl⟩, ⟨⟨7, rfl⟩, ⟨⟨8, rfl⟩, ⟨⟨9, rfl⟩, trivial⟩⟩⟩⟩⟩⟩⟩⟩).pickL [(g128, [.bool ((rb (x1 * ((d2 : Nat) : Int) / ((x2.natAbs * d1 : Nat) : Int)))), .slice zo135 ((words (x1 * ((d2 : Nat) : Int) / ((x2.natAbs * d1 : Nat) : Int)).natAbs).length) zc136]), (g8, [.bool false, .slice none 0 0, .bool false, .slice none 0 0, .slice none 0 0]), (g6, [.bool false, .slice none 0 0, .bool false, .slice none 0 0, .slice none 0 0]), (g4, [.bool ((rb x2)), .slice u1 ((words x2.natAbs).length) uc1, .bool ((rb y2)), .slice u2 ((words y2.natAbs).length) uc2, .slice u3 ((words d2).length) uc3]), (g2, [.bool ((rb x1)), .slice a1 ((words x1.natAbs).length) ac1, .bool ((rb y1)), .slice a2 ((words y1.natAbs).length) ac2, .slice a3 ((words d1).length) ac3])] [0, 1, 2, 3, 4] rfl (by decide)), ht140.nil, ht140.cap, hs139.nil, hs139.cap⟩
  · refine op_new (vs := [.bool false, .slice none 0 0]) (t := 46) hA hS 15 rfl rfl rfl rfl (fun g => .pointer (some ⟨g, 0, none⟩)) (does_alloc (z := .agg #[.bool false, .slice none 0 0]) (by kernel_rfl) rfl) rfl ?_
    intro g144 w145 hS
    refine ⟨(hS.partD (.cons _ (.cons_cons _ (.cons_cons _ (.cons_cons _ (.cons_cons _ .slnil))))) 0 rfl (.refl _)), ?_⟩
    intro a hA
    refine any_one (by kernel_rfl) (op_call hA 4 rfl rfl rfl rfl (enters_func  rfl rfl (fun w => by kernel_rfl)) (zscaled_any ⟨(hS.rd 5 rfl), ha1.nil, ha1.cap⟩ ⟨(hS.rd 0 rfl), hu3.nil, hu3.cap⟩ (by omega) (by omega)) ?_)
    rintro _ w150 ⟨zo146, zc147, rfl, hs148, hb149⟩
    replace hS := hS.call hb149
    replace hS := hS.addR hs148.rd
    refine ⟨_, rfl, (hS.partD (.cons _ (.cons_cons _ (.cons_cons _ (.cons_cons _ (.cons_cons _ .slnil))))) 1 rfl (.refl _)), ?_⟩
    intro a hA
    refine any_one (by kernel_rfl) (op_call hA 10 rfl rfl rfl rfl (enters_func  rfl rfl (fun w => by kernel_rfl)) (product_any _ _ (hS.rd 3 rfl) (hS.rd 4 rfl) (by omega) (by omega)) ?_)
    rintro _ w155 ⟨ro151, rc152, rfl, ho153, hb154⟩
    replace hS := hS.call hb154
    replace hS := hS.addR ho153.rd
    refine ⟨_, rfl, (hS.partD (.cons _ (.cons_cons _ (.cons_cons _ (.cons_cons _ (.cons_cons _ .slnil))))) 2 rfl (.refl _)), ?_⟩
    intro a hA
    refine any_one (by kernel_rfl) (op_call hA 11 rfl rfl rfl rfl (enters_func  rfl rfl (fun w => by kernel_rfl)) (zover_any ⟨(hS.rd 1 rfl), hs148.nil, hs148.cap⟩ ⟨(hS.rd 0 rfl), ho153.nocap, ho153.caps⟩ (by omega) (by omega) (Nat.mul_ne_zero (by omega) h1)) ?_)
    rintro _ w163 ⟨zo156, zc157, uo158, uc159, rfl, hs160, ht161, hb162⟩
    replace hS := hS.call hb162
    replace hS := hS.addR hs160.rd
    replace hS := hS.addR ht161.rd
    refine ⟨_, rfl, (hS.partD (.cons _ (.cons_cons _ (.cons_cons _ (.cons_cons _ (.cons_cons _ .slnil))))) 4 rfl (.refl _)), ?_⟩
    intro a hA
    refine any_take hA 12 rfl rfl rfl rfl (by kernel_rfl) (by kernel_rfl) (by kernel_rfl) (fun c a w h => hP c a _ _ w h) (hS.partD (.cons _ (.cons_cons _ (.cons_cons _ (.cons_cons _ (.cons_cons _ .slnil))))) 4 rfl (.refl _)) (fun w1 hS => does_move rfl) ?_
    intro a hA
    refine any_take (v := .agg #[.bool ((rb (x1 * ((d2 : Nat) : Int) / ((x2.natAbs * d1 : Nat) : Int)))), .slice zo156 ((words (x1 * ((d2 : Nat) : Int) / ((x2.natAbs * d1 : Nat) : Int)).natAbs).length) zc157]) hA 13 rfl rfl rfl rfl (by kernel_rfl) (by kernel_rfl) (by kernel_rfl) (fun c a w h => hP c a _ _ w h) (hS.partD (.cons _ (.cons_cons _ (.cons_cons _ (.cons_cons _ (.cons_cons _ .slnil))))) 4 rfl (.refl _)) (fun w1 hS => does_extract (vs := [.agg #[.bool ((rb (x1 * ((d2 : Nat) : Int) / ((x2.natAbs * d1 : Nat) : Int)))), .slice zo156 ((words (x1 * ((d2 : Nat) : Int) / ((x2.natAbs * d1 : Nat) : Int)).natAbs).length) zc157], .slice uo158 ((words (dmR x1 x2 d1 d2)).length) uc159]) rfl rfl) ?_
    intro a hA
    refine any_take (v := .slice uo158 ((words (dmR x1 x2 d1 d2)).length) uc159) hA 14 rfl rfl rfl rfl (by kernel_rfl) (by kernel_rfl) (by kernel_rfl) (fun c a w h => hP c a _ _ w h) (hS.partD (.cons _ (.cons_cons _ (.cons_cons _ (.cons_cons _ (.cons_cons _ .slnil))))) 4 rfl (.refl _)) (fun w1 hS => does_extract (vs := [.agg #[.bool ((rb (x1 * ((d2 : Nat) : Int) / ((x2.natAbs * d1 : Nat) : Int)))), .slice zo156 ((words (x1 * ((d2 : Nat) : Int) / ((x2.natAbs * d1 : Nat) : Int)).natAbs).length) zc157], .slice uo158 ((words (dmR x1 x2 d1 d2)).length) uc159]) rfl rfl) ?_
    intro a hA
    refine any_one (by kernel_rfl) (op_store (us := [.bool ((rb (x1 * ((d2 : Nat) : Int) / ((x2.natAbs * d1 : Nat) : Int)))), .slice zo156 ((words (x1 * ((d2 : Nat) : Int) / ((x2.natAbs * d1 : Nat) : Int)).natAbs).length) zc157]) hA hS 16 rfl rfl rfl (sets_store (cs := [.bool ((rb (x1 * ((d2 : Nat) : Int) / ((x2.natAbs * d1 : Nat) : Int)))), .slice zo156 ((words (x1 * ((d2 : Nat) : Int) / ((x2.natAbs * d1 : Nat) : Int)).natAbs).length) zc157]) rfl rfl rfl (by kernel_rfl) hS 0 rfl rfl rfl) 0 rfl rfl rfl rfl ?_)
    intro w164 hS
    refine ⟨(hS.partD (.cons _ (.cons_cons _ (.cons_cons _ (.cons_cons _ (.cons_cons _ .slnil))))) 4 rfl (.refl _)), ?_⟩
    refine any_take hA 17 rfl rfl rfl rfl (by kernel_rfl) (by kernel_rfl) (by kernel_rfl) (fun c a w h => hP c a _ _ w h) (hS.partD (.cons _ (.cons_cons _ (.cons_cons _ (.cons_cons _ (.cons_cons _ .slnil))))) 4 rfl (.refl _)) (fun w1 hS => does_assign rfl) ?_
    intro a hA
    refine any_end (by kernel_rfl) ?_
    refine hJ41 _ _ ⟨g144, uo158, uc159, zo156, zc157, hA.keep _ ⟨rfl, rfl, rfl, rfl, rfl, rfl, rfl, rfl, trivial⟩, ((hS.pickR [(uo158, words (dmR x1 x2 d1 d2)), (zo156, words (x1 * ((d2 : Nat) : Int) / ((x2.natAbs * d1 : Nat) : Int)).natAbs), (u3, words d2), (u2, words y2.natAbs), (u1, words x2.natAbs), (a3, words d1), (a2, words y1.natAbs), (a1, words x1.natAbs)] ⟨⟨0, rfl⟩, ⟨⟨1, rfl⟩, ⟨⟨4, rfl⟩, ⟨⟨5, rfl⟩, ⟨⟨6, rfl⟩, ⟨⟨7, rfl⟩, ⟨⟨8, rfl⟩, ⟨⟨9, rfl⟩, trivial⟩⟩⟩⟩⟩⟩⟩⟩).pickL [(g144, [.bool ((rb (x1 * ((d2 : Nat) : Int) / ((x2.natAbs * d1 : Nat) : Int)))), .slice zo156 ((words (x1 * ((d2 : Nat) : Int) / ((x2.natAbs * d1 : Nat) : Int)).natAbs).length) zc157]), (g8, [.bool false, .slice none 0 0, .bool false, .slice none 0 0, .slice none 0 0]), (g6, [.bool false, .slice none 0 0, .bool false, .slice none 0 0, .slice none 0 0]), (g4, [.bool ((rb x2)), .slice u1 ((words x2.natAbs).length) uc1, .bool ((rb y2)), .slice u2 ((words y2.natAbs).length) uc2, .slice u3 ((words d2).length) uc3]), (g2, [.bool ((rb x1)), .slice a1 ((words x1.natAbs).length) ac1, .bool ((rb y1)), .slice a2 ((words y1.natAbs).length) ac2, .slice a3 ((words d1).length) ac3])] [0, 1, 2, 3, 4] rfl (by decide)), ht161.nil, ht161.cap, hs160.nil, hs160.cap⟩
theorem zsettle0_as {w : World} {x : Int} {d : Nat} {a1 a3 : Option Addr} {ac1 ac3 : Nat} (ha1 : Sc w a1 ac1 (words x.natAbs)) (ha3 : Sc w a3 ac3 (words d)) {r : Q6 × Int} (h : setQ x 0 d = r) (l1 : (words x.natAbs).length ≤ 50000) (l3 : (words d).length ≤ 50000) (hd : d ≠ 0) : Calls Try.prog 34 #[.agg #[.bool (rb x), .slice a1 (words x.natAbs).length ac1, .bool false, .slice none 0 0, .slice a3 (words d).length ac3]] w (AnsN w r) := by
  have e : words (Int.natAbs 0) = [] := words_zero
  have k := zsettle_as (w := w) (x := x) (y := 0) (d := d) (a2 := none) (ac2 := 0) ha1 (by rw [e]; exact Sc.none _) ha3 h l1 (by rw [e]; decide) l3 hd
  rw [e] at k
  exact k
end Go.Proofs.Ytmibkfihcihphaa
