/- And, Or, Xor and Not as whole numbers. Walks of the law on And, Or, Xor and Not as whole numbers. Numbers that come in as arguments. -/
import Derived.Test.YtmibkfihcihphaaPbitsla8b
import Derived.Test.YtmibkfihcihphaaPbitsla8a
import Derived.Test.YtmibkfihcihphaaArgs
import Derived.WalkKit
import Derived.ProofKit
import Derived.OpenShut
import Derived.ChangeOld
import Derived.Lib.SmallJoins
import Derived.Deep.Strs
namespace Go.Proofs.Ytmibkfihcihphaa
open Go.RowKit
set_option linter.unusedVariables false
set_option linter.unusedSimpArgs false
theorem and_or_add : ∀ (n x y : Nat), x < 2 ^ n → y < 2 ^ n → (x &&& y) + (x ||| y) = x + y ∧ (x ^^^ y) + (x &&& y) = x ||| y
  | 0, x, y, hx, hy => by
    obtain rfl : x = 0 := by simpa using hx
    obtain rfl : y = 0 := by simpa using hy
    exact ⟨rfl, rfl⟩
  | n + 1, x, y, hx, hy => by
    obtain ⟨h1, h2⟩ := and_or_add n (x / 2) (y / 2) (by rw [Nat.pow_succ] at hx; omega) (by rw [Nat.pow_succ] at hy; omega)
    rw [← Nat.and_div_two, ← Nat.or_div_two] at h1 h2
    rw [← Nat.xor_div_two] at h2
    have a1 : (x &&& y) % 2 = (x % 2) &&& (y % 2) := Nat.and_mod_two_pow (n := 1)
    have a2 : (x ||| y) % 2 = (x % 2) ||| (y % 2) := Nat.or_mod_two_pow (n := 1)
    have a3 : (x ^^^ y) % 2 = (x % 2) ^^^ (y % 2) := Nat.xor_mod_two_pow (n := 1)
    rcases Nat.mod_two_eq_zero_or_one x with e1 | e1 <;> rcases Nat.mod_two_eq_zero_or_one y with e2 | e2 <;>
      · rw [e1, e2] at a1 a2 a3
        simp only [Nat.zero_and, Nat.and_self, Nat.or_self, Nat.zero_or, Nat.or_zero, Nat.and_zero, Nat.xor_self, Nat.zero_xor, Nat.xor_zero] at a1 a2 a3
        omega
/-- The words of two rows, put together. -/
def zipL (f : Nat → Nat → Nat) : List Nat → List Nat → List Nat := List.zipWith f
theorem zip_and_or : ∀ (l m : List Nat), Dig l → Dig m → l.length = m.length →
    val (zipL (fun x y => x &&& y) l m) + val (zipL (fun x y => x ||| y) l m) = val l + val m ∧ val (zipL (fun x y => x ^^^ y) l m) + val (zipL (fun x y => x &&& y) l m) = val (zipL (fun x y => x ||| y) l m)
  | [], [], _, _, _ => ⟨rfl, rfl⟩
  | a :: l, b :: m, h1, h2, h3 => by
    have ih := zip_and_or l m (fun z hz => h1 z (List.mem_cons_of_mem _ hz)) (fun z hz => h2 z (List.mem_cons_of_mem _ hz)) (by simpa using h3)
    have k := and_or_add 32 a b (h1 a (List.mem_cons_self ..)) (h2 b (List.mem_cons_self ..))
    unfold zipL at *
    simp only [List.zipWith_cons_cons, val_cons]
    omega
  | [], _ :: _, _, _, h => by simp at h
  | _ :: _, [], _, _, h => by simp at h
/-- The whole number of a row without end. -/
def zrow (b : Bool) (y : Nat) : Int := if b = true then -((y : Int) + 1) else (y : Int)
theorem zrow_sgn {b : Bool} {x : Nat} (h : b.toNat ≤ x) : zrow b (x - b.toNat) = sgn b x := by
  unfold zrow sgn
  cases b with
  | false => simp
  | true =>
    simp at h ⊢
    omega
theorem sgn_zrow (b : Bool) (y : Nat) : sgn b (y + b.toNat) = zrow b y := by
  unfold zrow sgn
  cases b with
  | false => simp
  | true => simp
theorem rowL_succ (b : Bool) (y n : Nat) : rowL b y (n + 1) = rowL b y n ++ [rwd b y n] := by simp [rowL, List.range_succ]
theorem xor_ones {x : Nat} (h : x < 4294967296) : x ^^^ 4294967295 = 4294967295 - x := by
  have k := and_or_add 32 x 4294967295 h (by decide)
  have e : x &&& 4294967295 = x := by
    rw [show (4294967295 : Nat) = 2 ^ 32 - 1 from rfl, Nat.and_two_pow_sub_one_eq_mod]
    exact Nat.mod_eq_of_lt h
  omega
theorem pw_succ' (n : Nat) : pw (n + 1) = pw n * 4294967296 := by rw [pw_succ, Nat.mul_comm]
theorem lt_pw_of_len {y n : Nat} (h : (words y).length ≤ n) : y < pw n := (Nat.div_eq_zero_iff_lt (pw_pos n)).1 (div_words_length y n h)
theorem rowL_val (b : Bool) (y : Nat) : ∀ n, (val (rowL b y n) : Int) = (if b = true then (pw n : Int) - 1 - ((y % pw n : Nat) : Int) else ((y % pw n : Nat) : Int))
  | 0 => by cases b <;> simp [rowL, pw, Nat.mod_one, val_nil]
  | n + 1 => by
    have ih := rowL_val b y n
    have hs : y % pw (n + 1) = y % pw n + pw n * (y / pw n % 4294967296) := by rw [pw_succ', Nat.mod_mul]
    rw [rowL_succ, val_snoc, rowL_len]
    have hp := pw_succ' n
    have hl : y / pw n % 4294967296 < 4294967296 := Nat.mod_lt _ (by decide)
    unfold rwd
    cases b with
    | false =>
      simp only [Bool.toNat_false, Nat.zero_mul, Nat.xor_zero] at *
      simp only [Bool.false_eq_true, if_false] at ih ⊢
      rw [hs]
      generalize pw n * (y / pw n % 4294967296) = A at *
      omega
    | true =>
      simp only [Bool.toNat_true, Nat.one_mul] at *
      rw [xor_ones hl]
      simp only [if_true] at ih ⊢
      rw [hs, hp]
      have e : pw n * (4294967295 - y / pw n % 4294967296) + pw n * (y / pw n % 4294967296) = pw n * 4294967295 := by rw [← Nat.mul_add]; congr 1; omega
      generalize pw n * (y / pw n % 4294967296) = A at *
      generalize pw n * (4294967295 - y / pw n % 4294967296) = C at *
      omega
theorem zrow_val {b : Bool} {y n : Nat} (h : (words y).length ≤ n) : zrow b y = (val (rowL b y n) : Int) - ((b.toNat * pw n : Nat) : Int) := by
  have hy : y < pw n := lt_pw_of_len h
  rw [rowL_val, Nat.mod_eq_of_lt hy]
  unfold zrow
  cases b with
  | false => simp
  | true => simp; omega
section
variable {fop : Nat → Nat → Nat} {fb : Bool → Bool → Bool} {b1 b2 : Bool} {y1 y2 : Nat}
theorem putY_rwd (h : BOp fop fb) {i : Nat} (hi : i < max (words y1).length (words y2).length) : rwd (fb b1 b2) (putY fop fb b1 y1 b2 y2) i = fop (rwd b1 y1 i) (rwd b2 y2 i) := by
  have e : putY fop fb b1 y1 b2 y2 / pw i % 4294967296 = outW fop fb b1 y1 b2 y2 i := by
    unfold putY
    rw [← val_getD (outL_dig h _) i, outL_get hi]
  unfold rwd
  rw [e]
  unfold outW
  rw [Nat.xor_assoc, Nat.xor_self, Nat.xor_zero]
  rfl
theorem putY_row (h : BOp fop fb) : rowL (fb b1 b2) (putY fop fb b1 y1 b2 y2) (max (words y1).length (words y2).length) = zipL fop (rowL b1 y1 (max (words y1).length (words y2).length)) (rowL b2 y2 (max (words y1).length (words y2).length)) := by
  unfold zipL rowL
  rw [List.zipWith_map, List.zipWith_self]
  apply List.map_congr_left
  intro i hi
  exact putY_rwd h (List.mem_range.1 hi)
theorem zput (h : BOp fop fb) : zrow (fb b1 b2) (putY fop fb b1 y1 b2 y2) = (val (zipL fop (rowL b1 y1 (max (words y1).length (words y2).length)) (rowL b2 y2 (max (words y1).length (words y2).length))) : Int) - (((fb b1 b2).toNat * pw (max (words y1).length (words y2).length) : Nat) : Int) := by
  rw [zrow_val (putY_len h (Nat.le_max_left _ _) (Nat.le_max_right _ _)), putY_row h]
end
theorem z_and_or (b1 : Bool) (y1 : Nat) (b2 : Bool) (y2 : Nat) :
    zrow (b1 && b2) (putY (fun x y => x &&& y) (fun b c => b && c) b1 y1 b2 y2) + zrow (b1 || b2) (putY (fun x y => x ||| y) (fun b c => b || c) b1 y1 b2 y2) = zrow b1 y1 + zrow b2 y2 ∧
    zrow (b1 || b2) (putY (fun x y => x ||| y) (fun b c => b || c) b1 y1 b2 y2) - zrow (b1 && b2) (putY (fun x y => x &&& y) (fun b c => b && c) b1 y1 b2 y2) = zrow (b1 != b2) (putY (fun x y => x ^^^ y) (fun b c => b != c) b1 y1 b2 y2) := by
  have k1 := zput and_op (b1 := b1) (y1 := y1) (b2 := b2) (y2 := y2)
  have k2 := zput or_op (b1 := b1) (y1 := y1) (b2 := b2) (y2 := y2)
  have k3 := zput xor_op (b1 := b1) (y1 := y1) (b2 := b2) (y2 := y2)
  have k4 := zrow_val (b := b1) (Nat.le_max_left (words y1).length (words y2).length)
  have k5 := zrow_val (b := b2) (Nat.le_max_right (words y1).length (words y2).length)
  obtain ⟨h1, h2⟩ := zip_and_or _ _ (rowL_dig b1 y1 (max (words y1).length (words y2).length)) (rowL_dig b2 y2 (max (words y1).length (words y2).length)) (by rw [rowL_len, rowL_len])
  rw [k1, k2, k3, k4, k5]
  cases b1 <;> cases b2 <;> simp at h1 h2 ⊢ <;> omega
/-- Not exchanges And and Or. -/
theorem rwd_not (b : Bool) (y i : Nat) : rwd (!b) y i = 4294967295 - rwd b y i := by
  have hl : y / pw i % 4294967296 < 4294967296 := Nat.mod_lt _ (by decide)
  unfold rwd
  cases b with
  | false => simp; exact xor_ones hl
  | true => simp; rw [xor_ones hl]; omega
theorem demorgan {x y : Nat} (hx : x < 4294967296) (hy : y < 4294967296) : (4294967295 - x) ||| (4294967295 - y) = (x &&& y) ^^^ 4294967295 := by
  rw [← xor_ones hx, ← xor_ones hy]
  apply Nat.eq_of_testBit_eq
  intro i
  have hb : ∀ z, z < 4294967296 → z.testBit i = (z.testBit i && decide (i < 32)) := fun z hz => by
    by_cases h : i < 32
    · simp [h]
    · rw [Nat.testBit_lt_two_pow (Nat.lt_of_lt_of_le hz (Nat.pow_le_pow_right (n := 2) (by decide) (show 32 ≤ i by omega)))]
      simp
  rw [Nat.testBit_or, Nat.testBit_xor, Nat.testBit_xor, Nat.testBit_xor, Nat.testBit_and, show (4294967295 : Nat) = 2 ^ 32 - 1 from rfl, Nat.testBit_two_pow_sub_one, hb x hx, hb y hy]
  by_cases h : i < 32 <;> simp [h]
theorem putY_not (b1 : Bool) (y1 : Nat) (b2 : Bool) (y2 : Nat) : putY (fun x y => x ||| y) (fun b c => b || c) (!b1) y1 (!b2) y2 = putY (fun x y => x &&& y) (fun b c => b && c) b1 y1 b2 y2 := by
  unfold putY outL
  congr 1
  apply List.map_congr_left
  intro i hi
  unfold outW
  simp only []
  rw [rwd_not, rwd_not, demorgan (rwd_lt _ _ _) (rwd_lt _ _ _), Nat.xor_assoc]
  congr 1
  cases b1 <;> cases b2 <;> decide
theorem want2_whole {b1 b2 : Bool} {x1 x2 : Nat} (hx1 : (words x1).length ≤ 512) (hb1 : b1.toNat ≤ x1) (hx2 : (words x2).length ≤ 512) (hb2 : b2.toNat ≤ x2) : want2 (Q6.whole b1 x1) (Q6.whole b2 x2) = 0 := by
  unfold want2
  rw [soundQ_whole hx1 hb1, soundQ_whole hx2 hb2, wholeQ_whole hx1 hb1, wholeQ_whole hx2 hb2]
  simp
theorem want1_whole {b : Bool} {x : Nat} (hx : (words x).length ≤ 512) (hb : b.toNat ≤ x) : want1 (Q6.whole b x) = 0 := by
  unfold want1
  rw [soundQ_whole hx hb, wholeQ_whole hx hb]
  simp
theorem bigS_ok {b : Bool} {z : Nat} (h : (bigS b z).2 = 0) : bigS b z = (Q6.whole b z, 0) ∧ (words z).length ≤ 512 := by
  unfold bigS at *
  by_cases k : (words z).length ≤ 512
  · rw [if_pos k]; exact ⟨rfl, k⟩
  · rw [if_neg k] at h; exact absurd h (by decide)
section
variable {fop : Nat → Nat → Nat} {fb : Bool → Bool → Bool}
/-- What is too long has an operand of as many words as there may be. -/
theorem bit_long (h : BOp fop fb) {p q : Q6} (hp : Dig p.t1) (hp4 : Dig p.q2) (hq : Dig q.t1) (hq4 : Dig q.q2) (he : (bitQ fop fb p q).2 ≠ 0) (h1 : wholeQ p = true) (h2 : wholeQ q = true) : p.t1.length = 512 ∨ q.t1.length = 512 := by
  obtain ⟨x1, e1, hx1, hb1⟩ := whole_form hp hp4 h1
  obtain ⟨x2, e2, hx2, hb2⟩ := whole_form hq hq4 h2
  generalize p.b1 = b1 at *
  generalize q.b1 = b2 at *
  subst e1 e2
  rw [bitQ_whole (want2_whole hx1 hb1 hx2 hb2)] at he
  apply Classical.byContradiction
  intro hn
  have n1 : (words x1).length ≤ 511 := by
    have : ¬ (words x1).length = 512 := fun k => hn (.inl k)
    omega
  have n2 : (words x2).length ≤ 511 := by
    have : ¬ (words x2).length = 512 := fun k => hn (.inr k)
    omega
  have l := putY_len h (b1 := b1) (b2 := b2) (sub_len (b := b1) n1) (sub_len (b := b2) n2)
  refine he ?_
  rw [bigS_pos]
  refine words_add_length (k := 511) l ?_
  exact Nat.le_trans (words_toNat _) (by decide)
end
theorem bits_facts {b1 b2 : Bool} {x1 x2 : Nat} (hx1 : (words x1).length ≤ 512) (hb1 : b1.toNat ≤ x1) (hx2 : (words x2).length ≤ 512) (hb2 : b2.toNat ≤ x2) {z1 z2 z3 : Q6 × Int}
    (e1 : bitQ (fun x y => x &&& y) (fun b c => b && c) (Q6.whole b1 x1) (Q6.whole b2 x2) = z1) (e2 : bitQ (fun x y => x ||| y) (fun b c => b || c) (Q6.whole b1 x1) (Q6.whole b2 x2) = z2) (e3 : bitQ (fun x y => x ^^^ y) (fun b c => b != c) (Q6.whole b1 x1) (Q6.whole b2 x2) = z3)
    (h1 : z1.2 = 0) (h2 : z2.2 = 0) (h3 : z3.2 = 0) :
    ((addQ z1.1 z2.1).2 = (addQ (Q6.whole b1 x1) (Q6.whole b2 x2)).2 ∧ ((addQ z1.1 z2.1).2 = 0 → sameQ (addQ z1.1 z2.1).1 (addQ (Q6.whole b1 x1) (Q6.whole b2 x2)).1 = true) ∧ ((subQ z2.1 z1.1).2 = 0 → sameQ (subQ z2.1 z1.1).1 z3.1 = true)) ∧
    ((notQ (Q6.whole b1 x1)).2 = 0 → (notQ (Q6.whole b2 x2)).2 = 0 → (notQ (notQ (Q6.whole b1 x1)).1).2 = 0 → (bitQ (fun x y => x ||| y) (fun b c => b || c) (notQ (Q6.whole b1 x1)).1 (notQ (Q6.whole b2 x2)).1).2 = 0 → (notQ z1.1).2 = 0 →
      sameQ (notQ (notQ (Q6.whole b1 x1)).1).1 (Q6.whole b1 x1) = true ∧ sameQ (bitQ (fun x y => x ||| y) (fun b c => b || c) (notQ (Q6.whole b1 x1)).1 (notQ (Q6.whole b2 x2)).1).1 (notQ z1.1).1 = true) := by
  rw [bitQ_whole (want2_whole hx1 hb1 hx2 hb2)] at e1 e2 e3
  subst e1 e2 e3
  obtain ⟨f1, l1⟩ := bigS_ok h1
  obtain ⟨f2, l2⟩ := bigS_ok h2
  obtain ⟨f3, l3⟩ := bigS_ok h3
  rw [f1, f2, f3]
  have zz := z_and_or b1 (x1 - b1.toNat) b2 (x2 - b2.toNat)
  have g1 := sgn_zrow (b1 && b2) (putY (fun x y => x &&& y) (fun b c => b && c) b1 (x1 - b1.toNat) b2 (x2 - b2.toNat))
  have g2 := sgn_zrow (b1 || b2) (putY (fun x y => x ||| y) (fun b c => b || c) b1 (x1 - b1.toNat) b2 (x2 - b2.toNat))
  have g3 := sgn_zrow (b1 != b2) (putY (fun x y => x ^^^ y) (fun b c => b != c) b1 (x1 - b1.toNat) b2 (x2 - b2.toNat))
  have i1 := Nat.le_add_left (b1 && b2).toNat (putY (fun x y => x &&& y) (fun b c => b && c) b1 (x1 - b1.toNat) b2 (x2 - b2.toNat))
  have i2 := Nat.le_add_left (b1 || b2).toNat (putY (fun x y => x ||| y) (fun b c => b || c) b1 (x1 - b1.toNat) b2 (x2 - b2.toNat))
  have i3 := Nat.le_add_left (b1 != b2).toNat (putY (fun x y => x ^^^ y) (fun b c => b != c) b1 (x1 - b1.toNat) b2 (x2 - b2.toNat))
  rw [zrow_sgn hb1, zrow_sgn hb2] at zz
  simp only []
  refine ⟨?_, ?_⟩
  · rw [rat_whole hb1, rat_whole hb2, rat_whole i1, rat_whole i2, rat_whole i3, addQ_rat (fitR_whole l1) fitR_zero (fitR_whole l2) fitR_zero, addQ_rat (fitR_whole hx1) fitR_zero (fitR_whole hx2) fitR_zero, subQ_rat (fitR_whole l2) fitR_zero (fitR_whole l1) fitR_zero, g1, g2, g3]
    rw [← Rat.intCast_add, ← Rat.intCast_add, ← Rat.intCast_sub, zz.1, zz.2]
    have z0 : (0 : Rat) - 0 = 0 := by decide +kernel
    rw [z0]
    refine ⟨rfl, fun k => ?_, fun k => ?_⟩
    · obtain ⟨e, a, b⟩ := ratS_ok k
      rw [e]
      exact sameQ_self (soundQ_rat a b)
    · obtain ⟨e, a, b⟩ := ratS_ok k
      rw [e]
      exact sameQ_self (soundQ_rat a b)
  · rw [notQ_whole (want1_whole hx1 hb1), notQ_whole (want1_whole hx2 hb2), notQ_whole (want1_whole l1 i1), ← turn_sum hb1, ← turn_sum hb2, ← turn_sum i1]
    intro k1 k2
    obtain ⟨e1, m1⟩ := bigS_ok k1
    obtain ⟨e2, m2⟩ := bigS_ok k2
    rw [e1, e2]
    simp only []
    have j1 := Nat.le_add_left (!b1).toNat (x1 - b1.toNat)
    have j2 := Nat.le_add_left (!b2).toNat (x2 - b2.toNat)
    rw [notQ_whole (want1_whole m1 j1), bitQ_whole (want2_whole m1 j1 m2 j2), ← turn_sum j1]
    simp only [Nat.add_sub_cancel, Bool.not_not, putY_not, ← Bool.not_and]
    intro k3 k4 k5
    rw [Nat.sub_add_cancel hb1] at k3 ⊢
    obtain ⟨e3, m3⟩ := bigS_ok k3
    obtain ⟨e4, m4⟩ := bigS_ok k4
    rw [e3, e4]
    exact ⟨sameQ_self (soundQ_whole hx1 hb1), sameQ_self (soundQ_whole m4 (Nat.le_add_left _ _))⟩
end Go.Proofs.Ytmibkfihcihphaa
namespace Go.Proofs.Ytmibkfihcihphaa
open Go.RowKit
set_option linter.unusedVariables false
set_option linter.unusedSimpArgs false
set_option maxRecDepth 100000
theorem BiT_is1_22 : Is1 Try.prog 22 := ⟨⟨_, Try.underlying22, rfl⟩, by kernel_rfl⟩
theorem BiT_fld_24_1 : FieldAt Try.prog 24 1 1 := ⟨_, _, Try.underlying24, rfl, rfl, by kernel_rfl⟩
theorem BiT_fld_26_0 : FieldAt Try.prog 26 0 0 := ⟨_, _, Try.underlying26, rfl, rfl, by kernel_rfl⟩
theorem BiT_isS_26 : IsS Try.prog 26 6 := ⟨⟨_, Try.underlying26⟩, by kernel_rfl⟩
theorem andQ_as {w : World} {p q : Q6} {a1 a2 a3 a4 : Option Addr} {ac1 ac2 ac3 ac4 : Nat} (ha : Nm w p a1 ac1 a2 ac2 a3 ac3 a4 ac4) (hl : LenQ p) {u1 u2 u3 u4 : Option Addr} {uc1 uc2 uc3 uc4 : Nat} (hb : Nm w q u1 uc1 u2 uc2 u3 uc3 u4 uc4) (hm : LenQ q) {z : Q6 × Int} (hz : bitQ (fun x y => x &&& y) (fun b c => b && c) p q = z) : Calls Try.prog 17 #[numV p a1 ac1 a2 ac2 a3 ac3 a4 ac4, numV q u1 uc1 u2 uc2 u3 uc3 u4 uc4] w (AnsN w z) := hz ▸ andQ_any ha hl hb hm
theorem orQ_as {w : World} {p q : Q6} {a1 a2 a3 a4 : Option Addr} {ac1 ac2 ac3 ac4 : Nat} (ha : Nm w p a1 ac1 a2 ac2 a3 ac3 a4 ac4) (hl : LenQ p) {u1 u2 u3 u4 : Option Addr} {uc1 uc2 uc3 uc4 : Nat} (hb : Nm w q u1 uc1 u2 uc2 u3 uc3 u4 uc4) (hm : LenQ q) {z : Q6 × Int} (hz : bitQ (fun x y => x ||| y) (fun b c => b || c) p q = z) : Calls Try.prog 18 #[numV p a1 ac1 a2 ac2 a3 ac3 a4 ac4, numV q u1 uc1 u2 uc2 u3 uc3 u4 uc4] w (AnsN w z) := hz ▸ orQ_any ha hl hb hm
theorem xorQ_as {w : World} {p q : Q6} {a1 a2 a3 a4 : Option Addr} {ac1 ac2 ac3 ac4 : Nat} (ha : Nm w p a1 ac1 a2 ac2 a3 ac3 a4 ac4) (hl : LenQ p) {u1 u2 u3 u4 : Option Addr} {uc1 uc2 uc3 uc4 : Nat} (hb : Nm w q u1 uc1 u2 uc2 u3 uc3 u4 uc4) (hm : LenQ q) {z : Q6 × Int} (hz : bitQ (fun x y => x ^^^ y) (fun b c => b != c) p q = z) : Calls Try.prog 19 #[numV p a1 ac1 a2 ac2 a3 ac3 a4 ac4, numV q u1 uc1 u2 uc2 u3 uc3 u4 uc4] w (AnsN w z) := hz ▸ xorQ_any ha hl hb hm
theorem notQ_as {w : World} {q : Q6} {a1 a2 a3 a4 : Option Addr} {ac1 ac2 ac3 ac4 : Nat} (ha : Nm w q a1 ac1 a2 ac2 a3 ac3 a4 ac4) (hl : LenQ q) {z : Q6 × Int} (hz : notQ q = z) : Calls Try.prog 21 #[numV q a1 ac1 a2 ac2 a3 ac3 a4 ac4] w (AnsN w z) := hz ▸ notP_any ha hl
theorem lenQ_bigS (b : Bool) (z : Nat) : LenQ (bigS b z).1 := by
  unfold bigS
  split
  · rename_i h; exact lenQ_whole h
  · exact lenQ_z
theorem lenQ_bitQ (fop : Nat → Nat → Nat) (fb : Bool → Bool → Bool) (p q : Q6) : LenQ (bitQ fop fb p q).1 := by
  unfold bitQ
  split
  · exact lenQ_bigS _ _
  · exact lenQ_z
theorem lenQ_notQ (q : Q6) : LenQ (notQ q).1 := by
  unfold notQ
  split
  · exact lenQ_bigS _ _
  · exact lenQ_z
set_option maxHeartbeats 2000000 in
theorem bitsW_any {w : World} {p q : Q6} {a1 a2 a3 a4 : Option Addr} {ac1 ac2 ac3 ac4 : Nat} (ha : Nm w p a1 ac1 a2 ac2 a3 ac3 a4 ac4) (hl : LenQ p) {u1 u2 u3 u4 : Option Addr} {uc1 uc2 uc3 uc4 : Nat} (hb : Nm w q u1 uc1 u2 uc2 u3 uc3 u4 uc4) (hm : LenQ q) {z1 z2 z3 z4 z5 z6 z7 z8 z9 z10 z11 : Q6 × Int} (e1 : bitQ (fun x y => x &&& y) (fun b c => b && c) p q = z1) (l1 : LenQ z1.1) (e2 : bitQ (fun x y => x ||| y) (fun b c => b || c) p q = z2) (l2 : LenQ z2.1) (e3 : bitQ (fun x y => x ^^^ y) (fun b c => b != c) p q = z3) (l3 : LenQ z3.1) (e4 : addQ z1.1 z2.1 = z4) (l4 : LenQ z4.1) (e5 : addQ p q = z5) (l5 : LenQ z5.1) (e6 : subQ z2.1 z1.1 = z6) (l6 : LenQ z6.1) (e7 : notQ p = z7) (l7 : LenQ z7.1) (e8 : notQ q = z8) (l8 : LenQ z8.1) (e9 : notQ z7.1 = z9) (l9 : LenQ z9.1) (e10 : bitQ (fun x y => x ||| y) (fun b c => b || c) z7.1 z8.1 = z10) (l10 : LenQ z10.1) (e11 : notQ z1.1 = z11) (l11 : LenQ z11.1) (hG1 : (z1.2 ≠ 0 ∨ z2.2 ≠ 0 ∨ z3.2 ≠ 0) → wholeQ p = true → wholeQ q = true → p.t1.length = 512 ∨ q.t1.length = 512) (hG2 : z1.2 = 0 → z2.2 = 0 → z3.2 = 0 → z4.2 = z5.2 ∧ (z4.2 = 0 → sameQ z4.1 z5.1 = true) ∧ (z6.2 = 0 → sameQ z6.1 z3.1 = true)) (hG3 : z1.2 = 0 → z2.2 = 0 → z3.2 = 0 → z7.2 = 0 → z8.2 = 0 → z9.2 = 0 → z10.2 = 0 → z11.2 = 0 → sameQ z9.1 p = true ∧ sameQ z10.1 z11.1 = true) : Calls Try.prog 5 #[numV p a1 ac1 a2 ac2 a3 ac3 a4 ac4, numV q u1 uc1 u2 uc2 u3 uc3 u4 uc4] w fun e w' => e = .returned (.bool true) ∧ Below w.heap.size w w' := by
  have kp := hl.l1
  have kq := hm.l1
  have hS : St w w [] [(u4, q.q2), (u3, q.t2), (u2, q.q1), (u1, q.t1), (a4, p.q2), (a3, p.t2), (a2, p.q1), (a1, p.t1)] [] := ((((((((St.start w).addR ha.s1.rd).addR ha.s2.rd).addR ha.s3.rd).addR ha.s4.rd).addR hb.s1.rd).addR hb.s2.rd).addR hb.s3.rd).addR hb.s4.rd
  refine walk_of (l := [(0, .agg #[.bool p.b1, .slice a1 p.t1.length ac1, .slice a2 p.q1.length ac2, .bool p.b2, .slice a3 p.t2.length ac3, .slice a4 p.q2.length ac4]), (1, .agg #[.bool q.b1, .slice u1 q.t1.length uc1, .slice u2 q.q1.length uc2, .bool q.b2, .slice u3 q.t2.length uc3, .slice u4 q.q2.length uc4])]) Try.func5 rfl Try.ntmps5 rfl rfl ?_
  intro Q hret hnorm hP a hA
  refine wp_seq_k (fun K1 hK1 => ?_)
  refine wp_region_lit ?_
  refine seq_new (vs := [.bool p.b1, .slice a1 p.t1.length ac1, .slice a2 p.q1.length ac2, .bool p.b2, .slice a3 p.t2.length ac3, .slice a4 p.q2.length ac4]) (t := 26) hA hS rfl rfl rfl (fun g => .pointer (some ⟨g, 0, none⟩)) (does_box rfl rfl) rfl ?_
  intro g2 w3 hS a hA
  refine seq_new (vs := [.bool q.b1, .slice u1 q.t1.length uc1, .slice u2 q.q1.length uc2, .bool q.b2, .slice u3 q.t2.length uc3, .slice u4 q.q2.length uc4]) (t := 26) hA hS rfl rfl rfl (fun g => .pointer (some ⟨g, 0, none⟩)) (does_box rfl rfl) rfl ?_
  intro g4 w5 hS a hA
  refine seq_do hA rfl rfl rfl (does_assign rfl) ?_
  intro a hA
  refine seq_end ?_
  refine hK1 _ _ ?_
  refine wp_seq_k (fun K6 hK6 => ?_)
  refine wp_region_lit ?_
  refine seq_do (v := .agg #[.bool p.b1, .slice a1 p.t1.length ac1, .slice a2 p.q1.length ac2, .bool p.b2, .slice a3 p.t2.length ac3, .slice a4 p.q2.length ac4]) hA rfl rfl rfl (does_loadS hS BiT_isS_26 rfl 1 rfl (cs := [.bool p.b1, .slice a1 p.t1.length ac1, .slice a2 p.q1.length ac2, .bool p.b2, .slice a3 p.t2.length ac3, .slice a4 p.q2.length ac4]) rfl rfl) ?_
  intro a hA
  refine seq_do (v := .agg #[.bool q.b1, .slice u1 q.t1.length uc1, .slice u2 q.q1.length uc2, .bool q.b2, .slice u3 q.t2.length uc3, .slice u4 q.q2.length uc4]) hA rfl rfl rfl (does_loadS hS BiT_isS_26 rfl 0 rfl (cs := [.bool q.b1, .slice u1 q.t1.length uc1, .slice u2 q.q1.length uc2, .bool q.b2, .slice u3 q.t2.length uc3, .slice u4 q.q2.length uc4]) rfl rfl) ?_
  intro a hA
  refine seq_call hA rfl rfl rfl (enters_func  rfl rfl (fun w => by kernel_rfl)) (andQ_as (show Nm _ p a1 ac1 a2 ac2 a3 ac3 a4 ac4 from ⟨⟨(hS.rd 7 rfl), ha.s1.nil, ha.s1.cap⟩, ⟨(hS.rd 6 rfl), ha.s2.nil, ha.s2.cap⟩, ⟨(hS.rd 5 rfl), ha.s3.nil, ha.s3.cap⟩, ⟨(hS.rd 4 rfl), ha.s4.nil, ha.s4.cap⟩⟩) hl (show Nm _ q u1 uc1 u2 uc2 u3 uc3 u4 uc4 from ⟨⟨(hS.rd 3 rfl), hb.s1.nil, hb.s1.cap⟩, ⟨(hS.rd 2 rfl), hb.s2.nil, hb.s2.cap⟩, ⟨(hS.rd 1 rfl), hb.s3.nil, hb.s3.cap⟩, ⟨(hS.rd 0 rfl), hb.s4.nil, hb.s4.cap⟩⟩) hm e1) ?_
  rintro _ w10 ⟨p7_1, p7_c1, p7_2, p7_c2, p7_3, p7_c3, p7_4, p7_c4, rfl, hn8, hb9⟩
  replace hS := hS.call hb9
  replace hS := hS.addR hn8.s1.rd
  replace hS := hS.addR hn8.s2.rd
  replace hS := hS.addR hn8.s3.rd
  replace hS := hS.addR hn8.s4.rd
  refine ⟨_, rfl, ?_⟩
  intro a hA
  refine seq_do hA rfl rfl rfl (does_move rfl) ?_
  intro a hA
  refine seq_do (v := .agg #[.bool z1.1.b1, .slice p7_1 z1.1.t1.length p7_c1, .slice p7_2 z1.1.q1.length p7_c2, .bool z1.1.b2, .slice p7_3 z1.1.t2.length p7_c3, .slice p7_4 z1.1.q2.length p7_c4]) hA rfl rfl rfl (does_extract (vs := [.agg #[.bool z1.1.b1, .slice p7_1 z1.1.t1.length p7_c1, .slice p7_2 z1.1.q1.length p7_c2, .bool z1.1.b2, .slice p7_3 z1.1.t2.length p7_c3, .slice p7_4 z1.1.q2.length p7_c4], .int .i64 z1.2]) rfl rfl) ?_
  intro a hA
  refine seq_do (v := .int .i64 z1.2) hA rfl rfl rfl (does_extract (vs := [.agg #[.bool z1.1.b1, .slice p7_1 z1.1.t1.length p7_c1, .slice p7_2 z1.1.q1.length p7_c2, .bool z1.1.b2, .slice p7_3 z1.1.t2.length p7_c3, .slice p7_4 z1.1.q2.length p7_c4], .int .i64 z1.2]) rfl rfl) ?_
  intro a hA
  refine seq_new (vs := [.bool false, .slice none 0 0, .slice none 0 0, .bool false, .slice none 0 0, .slice none 0 0]) (t := 26) hA hS rfl rfl rfl (fun g => .pointer (some ⟨g, 0, none⟩)) (does_alloc (z := .agg #[.bool false, .slice none 0 0, .slice none 0 0, .bool false, .slice none 0 0, .slice none 0 0]) (by kernel_rfl) rfl) rfl ?_
  intro g11 w12 hS a hA
  refine seq_store (us := [.bool z1.1.b1, .slice p7_1 z1.1.t1.length p7_c1, .slice p7_2 z1.1.q1.length p7_c2, .bool z1.1.b2, .slice p7_3 z1.1.t2.length p7_c3, .slice p7_4 z1.1.q2.length p7_c4]) hA hS rfl rfl (sets_store (cs := [.bool z1.1.b1, .slice p7_1 z1.1.t1.length p7_c1, .slice p7_2 z1.1.q1.length p7_c2, .bool z1.1.b2, .slice p7_3 z1.1.t2.length p7_c3, .slice p7_4 z1.1.q2.length p7_c4]) rfl rfl rfl (by kernel_rfl) hS 0 rfl rfl rfl) 0 rfl rfl rfl rfl ?_
  intro w13 hS
  refine seq_do hA rfl rfl rfl (does_assign rfl) ?_
  intro a hA
  refine seq_end ?_
  refine hK6 _ _ ?_
  refine wp_seq_k (fun K14 hK14 => ?_)
  refine wp_region_lit ?_
  refine seq_do (v := .agg #[.bool p.b1, .slice a1 p.t1.length ac1, .slice a2 p.q1.length ac2, .bool p.b2, .slice a3 p.t2.length ac3, .slice a4 p.q2.length ac4]) hA rfl rfl rfl (does_loadS hS BiT_isS_26 rfl 2 rfl (cs := [.bool p.b1, .slice a1 p.t1.length ac1, .slice a2 p.q1.length ac2, .bool p.b2, .slice a3 p.t2.length ac3, .slice a4 p.q2.length ac4]) rfl rfl) ?_
  intro a hA
  refine seq_do (v := .agg #[.bool q.b1, .slice u1 q.t1.length uc1, .slice u2 q.q1.length uc2, .bool q.b2, .slice u3 q.t2.length uc3, .slice u4 q.q2.length uc4]) hA rfl rfl rfl (does_loadS hS BiT_isS_26 rfl 1 rfl (cs := [.bool q.b1, .slice u1 q.t1.length uc1, .slice u2 q.q1.length uc2, .bool q.b2, .slice u3 q.t2.length uc3, .slice u4 q.q2.length uc4]) rfl rfl) ?_
  intro a hA
  refine seq_call hA rfl rfl rfl (enters_func  rfl rfl (fun w => by kernel_rfl)) (orQ_as (show Nm _ p a1 ac1 a2 ac2 a3 ac3 a4 ac4 from ⟨⟨(hS.rd 11 rfl), ha.s1.nil, ha.s1.cap⟩, ⟨(hS.rd 10 rfl), ha.s2.nil, ha.s2.cap⟩, ⟨(hS.rd 9 rfl), ha.s3.nil, ha.s3.cap⟩, ⟨(hS.rd 8 rfl), ha.s4.nil, ha.s4.cap⟩⟩) hl (show Nm _ q u1 uc1 u2 uc2 u3 uc3 u4 uc4 from ⟨⟨(hS.rd 7 rfl), hb.s1.nil, hb.s1.cap⟩, ⟨(hS.rd 6 rfl), hb.s2.nil, hb.s2.cap⟩, ⟨(hS.rd 5 rfl), hb.s3.nil, hb.s3.cap⟩, ⟨(hS.rd 4 rfl), hb.s4.nil, hb.s4.cap⟩⟩) hm e2) ?_
  rintro _ w18 ⟨p15_1, p15_c1, p15_2, p15_c2, p15_3, p15_c3, p15_4, p15_c4, rfl, hn16, hb17⟩
  replace hS := hS.call hb17
  replace hS := hS.addR hn16.s1.rd
  replace hS := hS.addR hn16.s2.rd
  replace hS := hS.addR hn16.s3.rd
  replace hS := hS.addR hn16.s4.rd
  refine ⟨_, rfl, ?_⟩
  intro a hA
  refine seq_do hA rfl rfl rfl (does_move rfl) ?_
  intro a hA
  refine seq_do (v := .agg #[.bool z2.1.b1, .slice p15_1 z2.1.t1.length p15_c1, .slice p15_2 z2.1.q1.length p15_c2, .bool z2.1.b2, .slice p15_3 z2.1.t2.length p15_c3, .slice p15_4 z2.1.q2.length p15_c4]) hA rfl rfl rfl (does_extract (vs := [.agg #[.bool z2.1.b1, .slice p15_1 z2.1.t1.length p15_c1, .slice p15_2 z2.1.q1.length p15_c2, .bool z2.1.b2, .slice p15_3 z2.1.t2.length p15_c3, .slice p15_4 z2.1.q2.length p15_c4], .int .i64 z2.2]) rfl rfl) ?_
  intro a hA
  refine seq_do (v := .int .i64 z2.2) hA rfl rfl rfl (does_extract (vs := [.agg #[.bool z2.1.b1, .slice p15_1 z2.1.t1.length p15_c1, .slice p15_2 z2.1.q1.length p15_c2, .bool z2.1.b2, .slice p15_3 z2.1.t2.length p15_c3, .slice p15_4 z2.1.q2.length p15_c4], .int .i64 z2.2]) rfl rfl) ?_
  intro a hA
  refine seq_new (vs := [.bool false, .slice none 0 0, .slice none 0 0, .bool false, .slice none 0 0, .slice none 0 0]) (t := 26) hA hS rfl rfl rfl (fun g => .pointer (some ⟨g, 0, none⟩)) (does_alloc (z := .agg #[.bool false, .slice none 0 0, .slice none 0 0, .bool false, .slice none 0 0, .slice none 0 0]) (by kernel_rfl) rfl) rfl ?_
  intro g19 w20 hS a hA
  refine seq_store (us := [.bool z2.1.b1, .slice p15_1 z2.1.t1.length p15_c1, .slice p15_2 z2.1.q1.length p15_c2, .bool z2.1.b2, .slice p15_3 z2.1.t2.length p15_c3, .slice p15_4 z2.1.q2.length p15_c4]) hA hS rfl rfl (sets_store (cs := [.bool z2.1.b1, .slice p15_1 z2.1.t1.length p15_c1, .slice p15_2 z2.1.q1.length p15_c2, .bool z2.1.b2, .slice p15_3 z2.1.t2.length p15_c3, .slice p15_4 z2.1.q2.length p15_c4]) rfl rfl rfl (by kernel_rfl) hS 0 rfl rfl rfl) 0 rfl rfl rfl rfl ?_
  intro w21 hS
  refine seq_do hA rfl rfl rfl (does_assign rfl) ?_
  intro a hA
  refine seq_end ?_
  refine hK14 _ _ ?_
  refine wp_seq_k (fun K22 hK22 => ?_)
  refine wp_region_lit ?_
  refine seq_do (v := .agg #[.bool p.b1, .slice a1 p.t1.length ac1, .slice a2 p.q1.length ac2, .bool p.b2, .slice a3 p.t2.length ac3, .slice a4 p.q2.length ac4]) hA rfl rfl rfl (does_loadS hS BiT_isS_26 rfl 3 rfl (cs := [.bool p.b1, .slice a1 p.t1.length ac1, .slice a2 p.q1.length ac2, .bool p.b2, .slice a3 p.t2.length ac3, .slice a4 p.q2.length ac4]) rfl rfl) ?_
  intro a hA
  refine seq_do (v := .agg #[.bool q.b1, .slice u1 q.t1.length uc1, .slice u2 q.q1.length uc2, .bool q.b2, .slice u3 q.t2.length uc3, .slice u4 q.q2.length uc4]) hA rfl rfl rfl (does_loadS hS BiT_isS_26 rfl 2 rfl (cs := [.bool q.b1, .slice u1 q.t1.length uc1, .slice u2 q.q1.length uc2, .bool q.b2, .slice u3 q.t2.length uc3, .slice u4 q.q2.length uc4]) rfl rfl) ?_
  intro a hA
  refine seq_call hA rfl rfl rfl (enters_func  rfl rfl (fun w => by kernel_rfl)) (xorQ_as (show Nm _ p a1 ac1 a2 ac2 a3 ac3 a4 ac4 from ⟨⟨(hS.rd 15 rfl), ha.s1.nil, ha.s1.cap⟩, ⟨(hS.rd 14 rfl), ha.s2.nil, ha.s2.cap⟩, ⟨(hS.rd 13 rfl), ha.s3.nil, ha.s3.cap⟩, ⟨(hS.rd 12 rfl), ha.s4.nil, ha.s4.cap⟩⟩) hl (show Nm _ q u1 uc1 u2 uc2 u3 uc3 u4 uc4 from ⟨⟨(hS.rd 11 rfl), hb.s1.nil, hb.s1.cap⟩, ⟨(hS.rd 10 rfl), hb.s2.nil, hb.s2.cap⟩, ⟨(hS.rd 9 rfl), hb.s3.nil, hb.s3.cap⟩, ⟨(hS.rd 8 rfl), hb.s4.nil, hb.s4.cap⟩⟩) hm e3) ?_
  rintro _ w26 ⟨p23_1, p23_c1, p23_2, p23_c2, p23_3, p23_c3, p23_4, p23_c4, rfl, hn24, hb25⟩
  replace hS := hS.call hb25
  replace hS := hS.addR hn24.s1.rd
  replace hS := hS.addR hn24.s2.rd
  replace hS := hS.addR hn24.s3.rd
  replace hS := hS.addR hn24.s4.rd
  refine ⟨_, rfl, ?_⟩
  intro a hA
  refine seq_do hA rfl rfl rfl (does_move rfl) ?_
  intro a hA
  refine seq_do (v := .agg #[.bool z3.1.b1, .slice p23_1 z3.1.t1.length p23_c1, .slice p23_2 z3.1.q1.length p23_c2, .bool z3.1.b2, .slice p23_3 z3.1.t2.length p23_c3, .slice p23_4 z3.1.q2.length p23_c4]) hA rfl rfl rfl (does_extract (vs := [.agg #[.bool z3.1.b1, .slice p23_1 z3.1.t1.length p23_c1, .slice p23_2 z3.1.q1.length p23_c2, .bool z3.1.b2, .slice p23_3 z3.1.t2.length p23_c3, .slice p23_4 z3.1.q2.length p23_c4], .int .i64 z3.2]) rfl rfl) ?_
  intro a hA
  refine seq_do (v := .int .i64 z3.2) hA rfl rfl rfl (does_extract (vs := [.agg #[.bool z3.1.b1, .slice p23_1 z3.1.t1.length p23_c1, .slice p23_2 z3.1.q1.length p23_c2, .bool z3.1.b2, .slice p23_3 z3.1.t2.length p23_c3, .slice p23_4 z3.1.q2.length p23_c4], .int .i64 z3.2]) rfl rfl) ?_
  intro a hA
  refine seq_new (vs := [.bool false, .slice none 0 0, .slice none 0 0, .bool false, .slice none 0 0, .slice none 0 0]) (t := 26) hA hS rfl rfl rfl (fun g => .pointer (some ⟨g, 0, none⟩)) (does_alloc (z := .agg #[.bool false, .slice none 0 0, .slice none 0 0, .bool false, .slice none 0 0, .slice none 0 0]) (by kernel_rfl) rfl) rfl ?_
  intro g27 w28 hS a hA
  refine seq_store (us := [.bool z3.1.b1, .slice p23_1 z3.1.t1.length p23_c1, .slice p23_2 z3.1.q1.length p23_c2, .bool z3.1.b2, .slice p23_3 z3.1.t2.length p23_c3, .slice p23_4 z3.1.q2.length p23_c4]) hA hS rfl rfl (sets_store (cs := [.bool z3.1.b1, .slice p23_1 z3.1.t1.length p23_c1, .slice p23_2 z3.1.q1.length p23_c2, .bool z3.1.b2, .slice p23_3 z3.1.t2.length p23_c3, .slice p23_4 z3.1.q2.length p23_c4]) rfl rfl rfl (by kernel_rfl) hS 0 rfl rfl rfl) 0 rfl rfl rfl rfl ?_
  intro w29 hS
  refine seq_do hA rfl rfl rfl (does_assign rfl) ?_
  intro a hA
  refine seq_end ?_
  refine hK22 _ _ ?_
  refine wp_seq_k (fun K30 hK30 => ?_)
  refine wp_seq_k (fun K31 hK31 => ?_)
  refine wp_region_lit ?_
  refine seq_call hA rfl rfl rfl (enters_func  rfl rfl (fun w => by kernel_rfl)) (awake4_any) ?_
  rintro _ w33 ⟨rfl, hb32⟩
  replace hS := hS.call hb32
  refine ⟨_, rfl, ?_⟩
  intro a hA
  refine seq_do (v := .bool false) hA rfl rfl rfl (does_un rfl un_not) ?_
  intro a hA
  refine seq_do hA rfl rfl rfl (does_move rfl) ?_
  intro a hA
  refine seq_do hA rfl rfl rfl (does_move rfl) ?_
  intro a hA
  rcases Bool.eq_false_or_eq_true ((z1.2 != 0)) with hb34 | hb34
  · have hb34' := bne_iff_ne.1 hb34
    refine seq_do (v := .bool true) hA rfl rfl rfl (does_bin rfl rfl (fun w => (bin_neq w).trans (by rw [hb34]))) ?_
    intro a hA
    refine seq_do (v := .bool true) hA rfl rfl rfl (does_pick rfl rfl rfl rfl) ?_
    intro a hA
    refine seq_do hA rfl rfl rfl (does_move rfl) ?_
    intro a hA
    refine seq_skip hA rfl rfl rfl ?_
    intro a hA
    refine seq_skip hA rfl rfl rfl ?_
    intro a hA
    refine seq_do (v := .bool true) hA rfl rfl rfl (does_pick rfl rfl rfl rfl) ?_
    intro a hA
    refine seq_do hA rfl rfl rfl (does_move rfl) ?_
    intro a hA
    refine seq_skip hA rfl rfl rfl ?_
    intro a hA
    refine seq_skip hA rfl rfl rfl ?_
    intro a hA
    refine seq_do (v := .bool true) hA rfl rfl rfl (does_pick rfl rfl rfl rfl) ?_
    intro a hA
    refine seq_end ?_
    refine hK31 _ _ ?_
    refine wp_cond_true (hA.ev rfl) ?_
    refine wp_seq_k (fun K35 hK35 => ?_)
    refine wp_region_lit ?_
    refine seq_call hA rfl rfl rfl (enters_func  rfl rfl (fun w => by kernel_rfl)) (awake4_any) ?_
    rintro _ w37 ⟨rfl, hb36⟩
    replace hS := hS.call hb36
    refine ⟨_, rfl, ?_⟩
    intro a hA
    refine seq_do hA rfl rfl rfl (does_move rfl) ?_
    intro a hA
    refine seq_do (v := .agg #[.bool p.b1, .slice a1 p.t1.length ac1, .slice a2 p.q1.length ac2, .bool p.b2, .slice a3 p.t2.length ac3, .slice a4 p.q2.length ac4]) hA rfl rfl rfl (does_loadS hS BiT_isS_26 rfl 4 rfl (cs := [.bool p.b1, .slice a1 p.t1.length ac1, .slice a2 p.q1.length ac2, .bool p.b2, .slice a3 p.t2.length ac3, .slice a4 p.q2.length ac4]) rfl rfl) ?_
    intro a hA
    rcases Bool.eq_false_or_eq_true (wholeQ p) with hb38 | hb38
    · refine seq_call hA rfl rfl rfl (enters_func  rfl rfl (fun w => by kernel_rfl)) (wholeQ_any (show Nm _ p a1 ac1 a2 ac2 a3 ac3 a4 ac4 from ⟨⟨(hS.rd 19 rfl), ha.s1.nil, ha.s1.cap⟩, ⟨(hS.rd 18 rfl), ha.s2.nil, ha.s2.cap⟩, ⟨(hS.rd 17 rfl), ha.s3.nil, ha.s3.cap⟩, ⟨(hS.rd 16 rfl), ha.s4.nil, ha.s4.cap⟩⟩) hl hb38) ?_
      rintro _ w40 ⟨rfl, hb39⟩
      replace hS := hS.call hb39
      refine ⟨_, rfl, ?_⟩
      intro a hA
      refine seq_do (v := .bool false) hA rfl rfl rfl (does_un rfl un_not) ?_
      intro a hA
      refine seq_do hA rfl rfl rfl (does_move rfl) ?_
      intro a hA
      refine seq_do (v := .agg #[.bool q.b1, .slice u1 q.t1.length uc1, .slice u2 q.q1.length uc2, .bool q.b2, .slice u3 q.t2.length uc3, .slice u4 q.q2.length uc4]) hA rfl rfl rfl (does_loadS hS BiT_isS_26 rfl 3 rfl (cs := [.bool q.b1, .slice u1 q.t1.length uc1, .slice u2 q.q1.length uc2, .bool q.b2, .slice u3 q.t2.length uc3, .slice u4 q.q2.length uc4]) rfl rfl) ?_
      intro a hA
      rcases Bool.eq_false_or_eq_true (wholeQ q) with hb41 | hb41
      · refine seq_call hA rfl rfl rfl (enters_func  rfl rfl (fun w => by kernel_rfl)) (wholeQ_any (show Nm _ q u1 uc1 u2 uc2 u3 uc3 u4 uc4 from ⟨⟨(hS.rd 15 rfl), hb.s1.nil, hb.s1.cap⟩, ⟨(hS.rd 14 rfl), hb.s2.nil, hb.s2.cap⟩, ⟨(hS.rd 13 rfl), hb.s3.nil, hb.s3.cap⟩, ⟨(hS.rd 12 rfl), hb.s4.nil, hb.s4.cap⟩⟩) hm hb41) ?_
        rintro _ w43 ⟨rfl, hb42⟩
        replace hS := hS.call hb42
        refine ⟨_, rfl, ?_⟩
        intro a hA
        refine seq_do (v := .bool false) hA rfl rfl rfl (does_un rfl un_not) ?_
        intro a hA
        refine seq_do (v := .bool false) hA rfl rfl rfl (does_pick rfl rfl rfl rfl) ?_
        intro a hA
        refine seq_do hA rfl rfl rfl (does_move rfl) ?_
        intro a hA
        refine seq_do (v := .pointer (some ⟨g2, 0, none⟩)) hA rfl rfl rfl (does_field BiT_fld_26_0 rfl rfl) ?_
        intro a hA
        refine seq_do (v := .pointer (some ⟨g2, 1, none⟩)) hA rfl rfl rfl (does_field BiT_fld_24_1 rfl rfl) ?_
        intro a hA
        refine seq_do hA rfl rfl rfl (does_load1 hS BiT_is1_22 rfl 4 rfl rfl) ?_
        intro a hA
        refine seq_do (v := .int .i64 (((p.t1.length : Nat) : Int))) hA rfl rfl rfl (does_len Try.underlying22 rfl) ?_
        intro a hA
        rcases Bool.eq_false_or_eq_true ((((p.t1.length : Nat) : Int) == 512)) with hb44 | hb44
        · have hb44' := eq_of_beq hb44
          refine seq_do (v := .bool true) hA rfl rfl rfl (does_bin rfl rfl (fun w => (bin_eql w).trans (by rw [hb44]))) ?_
          intro a hA
          refine seq_do (v := .bool true) hA rfl rfl rfl (does_pick rfl rfl rfl rfl) ?_
          intro a hA
          refine seq_do hA rfl rfl rfl (does_move rfl) ?_
          intro a hA
          refine seq_skip hA rfl rfl rfl ?_
          intro a hA
          refine seq_skip hA rfl rfl rfl ?_
          intro a hA
          refine seq_skip hA rfl rfl rfl ?_
          intro a hA
          refine seq_skip hA rfl rfl rfl ?_
          intro a hA
          refine seq_skip hA rfl rfl rfl ?_
          intro a hA
          refine seq_do (v := .bool true) hA rfl rfl rfl (does_pick rfl rfl rfl rfl) ?_
          intro a hA
          refine seq_do (v := .bool true) hA rfl rfl rfl (does_pick rfl rfl rfl rfl) ?_
          intro a hA
          refine seq_do hA rfl rfl rfl (does_assign rfl) ?_
          intro a hA
          refine seq_end ?_
          refine hK35 _ _ ?_
          refine wp_ret ?_
          refine hret _ _ ?_
          refine ends (v := .bool true) hA rfl (.cons (res_tmp rfl) .nil) rfl ?_
          exact ⟨rfl, hS.bel⟩
        · have hb44' := ne_of_beq_false hb44
          refine seq_do (v := .bool false) hA rfl rfl rfl (does_bin rfl rfl (fun w => (bin_eql w).trans (by rw [hb44]))) ?_
          intro a hA
          refine seq_do (v := .bool false) hA rfl rfl rfl (does_pick rfl rfl rfl rfl) ?_
          intro a hA
          refine seq_do hA rfl rfl rfl (does_move rfl) ?_
          intro a hA
          refine seq_do (v := .pointer (some ⟨g4, 0, none⟩)) hA rfl rfl rfl (does_field BiT_fld_26_0 rfl rfl) ?_
          intro a hA
          refine seq_do (v := .pointer (some ⟨g4, 1, none⟩)) hA rfl rfl rfl (does_field BiT_fld_24_1 rfl rfl) ?_
          intro a hA
          refine seq_do hA rfl rfl rfl (does_load1 hS BiT_is1_22 rfl 3 rfl rfl) ?_
          intro a hA
          refine seq_do (v := .int .i64 (((q.t1.length : Nat) : Int))) hA rfl rfl rfl (does_len Try.underlying22 rfl) ?_
          intro a hA
          refine seq_do (v := .bool true) hA rfl rfl rfl (does_bin rfl rfl (fun w => (bin_eql w).trans (by rw [show ((((q.t1.length : Nat) : Int) == 512)) = true from (beq_iff_eq.2 (by have h9 := (hG1 (.inl (bne_iff_ne.1 hb34)) hb38 hb41).resolve_left (by omega); omega))]))) ?_
          intro a hA
          refine seq_do (v := .bool true) hA rfl rfl rfl (does_pick rfl rfl rfl rfl) ?_
          intro a hA
          refine seq_do (v := .bool true) hA rfl rfl rfl (does_pick rfl rfl rfl rfl) ?_
          intro a hA
          refine seq_do hA rfl rfl rfl (does_assign rfl) ?_
          intro a hA
          refine seq_end ?_
          refine hK35 _ _ ?_
          refine wp_ret ?_
          refine hret _ _ ?_
          refine ends (v := .bool true) hA rfl (.cons (res_tmp rfl) .nil) rfl ?_
          exact ⟨rfl, hS.bel⟩
      · refine seq_call hA rfl rfl rfl (enters_func  rfl rfl (fun w => by kernel_rfl)) (wholeQ_any (show Nm _ q u1 uc1 u2 uc2 u3 uc3 u4 uc4 from ⟨⟨(hS.rd 15 rfl), hb.s1.nil, hb.s1.cap⟩, ⟨(hS.rd 14 rfl), hb.s2.nil, hb.s2.cap⟩, ⟨(hS.rd 13 rfl), hb.s3.nil, hb.s3.cap⟩, ⟨(hS.rd 12 rfl), hb.s4.nil, hb.s4.cap⟩⟩) hm hb41) ?_
        rintro _ w46 ⟨rfl, hb45⟩
        replace hS := hS.call hb45
        refine ⟨_, rfl, ?_⟩
        intro a hA
        refine seq_do (v := .bool true) hA rfl rfl rfl (does_un rfl un_not) ?_
        intro a hA
        refine seq_do (v := .bool true) hA rfl rfl rfl (does_pick rfl rfl rfl rfl) ?_
        intro a hA
        refine seq_do hA rfl rfl rfl (does_move rfl) ?_
        intro a hA
        refine seq_skip hA rfl rfl rfl ?_
        intro a hA
        refine seq_skip hA rfl rfl rfl ?_
        intro a hA
        refine seq_skip hA rfl rfl rfl ?_
        intro a hA
        refine seq_skip hA rfl rfl rfl ?_
        intro a hA
        refine seq_skip hA rfl rfl rfl ?_
        intro a hA
        refine seq_do (v := .bool true) hA rfl rfl rfl (does_pick rfl rfl rfl rfl) ?_
        intro a hA
        refine seq_do hA rfl rfl rfl (does_move rfl) ?_
        intro a hA
        refine seq_skip hA rfl rfl rfl ?_
        intro a hA
        refine seq_skip hA rfl rfl rfl ?_
        intro a hA
        refine seq_skip hA rfl rfl rfl ?_
        intro a hA
        refine seq_skip hA rfl rfl rfl ?_
        intro a hA
        refine seq_skip hA rfl rfl rfl ?_
        intro a hA
        refine seq_do (v := .bool true) hA rfl rfl rfl (does_pick rfl rfl rfl rfl) ?_
        intro a hA
        refine seq_do (v := .bool true) hA rfl rfl rfl (does_pick rfl rfl rfl rfl) ?_
        intro a hA
        refine seq_do hA rfl rfl rfl (does_assign rfl) ?_
        intro a hA
        refine seq_end ?_
        refine hK35 _ _ ?_
        refine wp_ret ?_
        refine hret _ _ ?_
        refine ends (v := .bool true) hA rfl (.cons (res_tmp rfl) .nil) rfl ?_
        exact ⟨rfl, hS.bel⟩
    · refine seq_call hA rfl rfl rfl (enters_func  rfl rfl (fun w => by kernel_rfl)) (wholeQ_any (show Nm _ p a1 ac1 a2 ac2 a3 ac3 a4 ac4 from ⟨⟨(hS.rd 19 rfl), ha.s1.nil, ha.s1.cap⟩, ⟨(hS.rd 18 rfl), ha.s2.nil, ha.s2.cap⟩, ⟨(hS.rd 17 rfl), ha.s3.nil, ha.s3.cap⟩, ⟨(hS.rd 16 rfl), ha.s4.nil, ha.s4.cap⟩⟩) hl hb38) ?_
      rintro _ w48 ⟨rfl, hb47⟩
      replace hS := hS.call hb47
      refine ⟨_, rfl, ?_⟩
      intro a hA
      refine seq_do (v := .bool true) hA rfl rfl rfl (does_un rfl un_not) ?_
      intro a hA
      refine seq_do hA rfl rfl rfl (does_move rfl) ?_
      intro a hA
      refine seq_skip hA rfl rfl rfl ?_
      intro a hA
      refine seq_skip hA rfl rfl rfl ?_
      intro a hA
      refine seq_skip hA rfl rfl rfl ?_
      intro a hA
      refine seq_do (v := .bool true) hA rfl rfl rfl (does_pick rfl rfl rfl rfl) ?_
      intro a hA
      refine seq_do hA rfl rfl rfl (does_move rfl) ?_
      intro a hA
      refine seq_skip hA rfl rfl rfl ?_
      intro a hA
      refine seq_skip hA rfl rfl rfl ?_
      intro a hA
      refine seq_skip hA rfl rfl rfl ?_
      intro a hA
      refine seq_skip hA rfl rfl rfl ?_
      intro a hA
      refine seq_skip hA rfl rfl rfl ?_
      intro a hA
      refine seq_do (v := .bool true) hA rfl rfl rfl (does_pick rfl rfl rfl rfl) ?_
      intro a hA
      refine seq_do hA rfl rfl rfl (does_move rfl) ?_
      intro a hA
      refine seq_skip hA rfl rfl rfl ?_
      intro a hA
      refine seq_skip hA rfl rfl rfl ?_
      intro a hA
      refine seq_skip hA rfl rfl rfl ?_
      intro a hA
      refine seq_skip hA rfl rfl rfl ?_
      intro a hA
      refine seq_skip hA rfl rfl rfl ?_
      intro a hA
      refine seq_do (v := .bool true) hA rfl rfl rfl (does_pick rfl rfl rfl rfl) ?_
      intro a hA
      refine seq_do (v := .bool true) hA rfl rfl rfl (does_pick rfl rfl rfl rfl) ?_
      intro a hA
      refine seq_do hA rfl rfl rfl (does_assign rfl) ?_
      intro a hA
      refine seq_end ?_
      refine hK35 _ _ ?_
      refine wp_ret ?_
      refine hret _ _ ?_
      refine ends (v := .bool true) hA rfl (.cons (res_tmp rfl) .nil) rfl ?_
      exact ⟨rfl, hS.bel⟩
  · have hb34' := bne_eq_false_iff_eq.1 hb34
    refine seq_do (v := .bool false) hA rfl rfl rfl (does_bin rfl rfl (fun w => (bin_neq w).trans (by rw [hb34]))) ?_
    intro a hA
    refine seq_do (v := .bool false) hA rfl rfl rfl (does_pick rfl rfl rfl rfl) ?_
    intro a hA
    refine seq_do hA rfl rfl rfl (does_move rfl) ?_
    intro a hA
    refine seq_do hA rfl rfl rfl (does_move rfl) ?_
    intro a hA
    rcases Bool.eq_false_or_eq_true ((z2.2 != 0)) with hb49 | hb49
    · have hb49' := bne_iff_ne.1 hb49
      refine seq_do (v := .bool true) hA rfl rfl rfl (does_bin rfl rfl (fun w => (bin_neq w).trans (by rw [hb49]))) ?_
      intro a hA
      refine seq_do (v := .bool true) hA rfl rfl rfl (does_pick rfl rfl rfl rfl) ?_
      intro a hA
      refine seq_do hA rfl rfl rfl (does_move rfl) ?_
      intro a hA
      refine seq_skip hA rfl rfl rfl ?_
      intro a hA
      refine seq_skip hA rfl rfl rfl ?_
      intro a hA
      refine seq_do (v := .bool true) hA rfl rfl rfl (does_pick rfl rfl rfl rfl) ?_
      intro a hA
      refine seq_end ?_
      refine hK31 _ _ ?_
      refine wp_cond_true (hA.ev rfl) ?_
      refine wp_seq_k (fun K50 hK50 => ?_)
      refine wp_region_lit ?_
      refine seq_call hA rfl rfl rfl (enters_func  rfl rfl (fun w => by kernel_rfl)) (awake4_any) ?_
      rintro _ w52 ⟨rfl, hb51⟩
      replace hS := hS.call hb51
      refine ⟨_, rfl, ?_⟩
      intro a hA
      refine seq_do hA rfl rfl rfl (does_move rfl) ?_
      intro a hA
      refine seq_do (v := .agg #[.bool p.b1, .slice a1 p.t1.length ac1, .slice a2 p.q1.length ac2, .bool p.b2, .slice a3 p.t2.length ac3, .slice a4 p.q2.length ac4]) hA rfl rfl rfl (does_loadS hS BiT_isS_26 rfl 4 rfl (cs := [.bool p.b1, .slice a1 p.t1.length ac1, .slice a2 p.q1.length ac2, .bool p.b2, .slice a3 p.t2.length ac3, .slice a4 p.q2.length ac4]) rfl rfl) ?_
      intro a hA
      rcases Bool.eq_false_or_eq_true (wholeQ p) with hb53 | hb53
      · refine seq_call hA rfl rfl rfl (enters_func  rfl rfl (fun w => by kernel_rfl)) (wholeQ_any (show Nm _ p a1 ac1 a2 ac2 a3 ac3 a4 ac4 from ⟨⟨(hS.rd 19 rfl), ha.s1.nil, ha.s1.cap⟩, ⟨(hS.rd 18 rfl), ha.s2.nil, ha.s2.cap⟩, ⟨(hS.rd 17 rfl), ha.s3.nil, ha.s3.cap⟩, ⟨(hS.rd 16 rfl), ha.s4.nil, ha.s4.cap⟩⟩) hl hb53) ?_
        rintro _ w55 ⟨rfl, hb54⟩
        replace hS := hS.call hb54
        refine ⟨_, rfl, ?_⟩
        intro a hA
        refine seq_do (v := .bool false) hA rfl rfl rfl (does_un rfl un_not) ?_
        intro a hA
        refine seq_do hA rfl rfl rfl (does_move rfl) ?_
        intro a hA
        refine seq_do (v := .agg #[.bool q.b1, .slice u1 q.t1.length uc1, .slice u2 q.q1.length uc2, .bool q.b2, .slice u3 q.t2.length uc3, .slice u4 q.q2.length uc4]) hA rfl rfl rfl (does_loadS hS BiT_isS_26 rfl 3 rfl (cs := [.bool q.b1, .slice u1 q.t1.length uc1, .slice u2 q.q1.length uc2, .bool q.b2, .slice u3 q.t2.length uc3, .slice u4 q.q2.length uc4]) rfl rfl) ?_
        intro a hA
        rcases Bool.eq_false_or_eq_true (wholeQ q) with hb56 | hb56
        · refine seq_call hA rfl rfl rfl (enters_func  rfl rfl (fun w => by kernel_rfl)) (wholeQ_any (show Nm _ q u1 uc1 u2 uc2 u3 uc3 u4 uc4 from ⟨⟨(hS.rd 15 rfl), hb.s1.nil, hb.s1.cap⟩, ⟨(hS.rd 14 rfl), hb.s2.nil, hb.s2.cap⟩, ⟨(hS.rd 13 rfl), hb.s3.nil, hb.s3.cap⟩, ⟨(hS.rd 12 rfl), hb.s4.nil, hb.s4.cap⟩⟩) hm hb56) ?_
          rintro _ w58 ⟨rfl, hb57⟩
          replace hS := hS.call hb57
          refine ⟨_, rfl, ?_⟩
          intro a hA
          refine seq_do (v := .bool false) hA rfl rfl rfl (does_un rfl un_not) ?_
          intro a hA
          refine seq_do (v := .bool false) hA rfl rfl rfl (does_pick rfl rfl rfl rfl) ?_
          intro a hA
          refine seq_do hA rfl rfl rfl (does_move rfl) ?_
          intro a hA
          refine seq_do (v := .pointer (some ⟨g2, 0, none⟩)) hA rfl rfl rfl (does_field BiT_fld_26_0 rfl rfl) ?_
          intro a hA
          refine seq_do (v := .pointer (some ⟨g2, 1, none⟩)) hA rfl rfl rfl (does_field BiT_fld_24_1 rfl rfl) ?_
          intro a hA
          refine seq_do hA rfl rfl rfl (does_load1 hS BiT_is1_22 rfl 4 rfl rfl) ?_
          intro a hA
          refine seq_do (v := .int .i64 (((p.t1.length : Nat) : Int))) hA rfl rfl rfl (does_len Try.underlying22 rfl) ?_
          intro a hA
          rcases Bool.eq_false_or_eq_true ((((p.t1.length : Nat) : Int) == 512)) with hb59 | hb59
          · have hb59' := eq_of_beq hb59
            refine seq_do (v := .bool true) hA rfl rfl rfl (does_bin rfl rfl (fun w => (bin_eql w).trans (by rw [hb59]))) ?_
            intro a hA
            refine seq_do (v := .bool true) hA rfl rfl rfl (does_pick rfl rfl rfl rfl) ?_
            intro a hA
            refine seq_do hA rfl rfl rfl (does_move rfl) ?_
            intro a hA
            refine seq_skip hA rfl rfl rfl ?_
            intro a hA
            refine seq_skip hA rfl rfl rfl ?_
            intro a hA
            refine seq_skip hA rfl rfl rfl ?_
            intro a hA
            refine seq_skip hA rfl rfl rfl ?_
            intro a hA
            refine seq_skip hA rfl rfl rfl ?_
            intro a hA
            refine seq_do (v := .bool true) hA rfl rfl rfl (does_pick rfl rfl rfl rfl) ?_
            intro a hA
            refine seq_do (v := .bool true) hA rfl rfl rfl (does_pick rfl rfl rfl rfl) ?_
            intro a hA
            refine seq_do hA rfl rfl rfl (does_assign rfl) ?_
            intro a hA
            refine seq_end ?_
            refine hK50 _ _ ?_
            refine wp_ret ?_
            refine hret _ _ ?_
            refine ends (v := .bool true) hA rfl (.cons (res_tmp rfl) .nil) rfl ?_
            exact ⟨rfl, hS.bel⟩
          · have hb59' := ne_of_beq_false hb59
            refine seq_do (v := .bool false) hA rfl rfl rfl (does_bin rfl rfl (fun w => (bin_eql w).trans (by rw [hb59]))) ?_
            intro a hA
            refine seq_do (v := .bool false) hA rfl rfl rfl (does_pick rfl rfl rfl rfl) ?_
            intro a hA
            refine seq_do hA rfl rfl rfl (does_move rfl) ?_
            intro a hA
            refine seq_do (v := .pointer (some ⟨g4, 0, none⟩)) hA rfl rfl rfl (does_field BiT_fld_26_0 rfl rfl) ?_
            intro a hA
            refine seq_do (v := .pointer (some ⟨g4, 1, none⟩)) hA rfl rfl rfl (does_field BiT_fld_24_1 rfl rfl) ?_
            intro a hA
            refine seq_do hA rfl rfl rfl (does_load1 hS BiT_is1_22 rfl 3 rfl rfl) ?_
            intro a hA
            refine seq_do (v := .int .i64 (((q.t1.length : Nat) : Int))) hA rfl rfl rfl (does_len Try.underlying22 rfl) ?_
            intro a hA
            refine seq_do (v := .bool true) hA rfl rfl rfl (does_bin rfl rfl (fun w => (bin_eql w).trans (by rw [show ((((q.t1.length : Nat) : Int) == 512)) = true from (beq_iff_eq.2 (by have h9 := (hG1 (.inr (.inl (bne_iff_ne.1 hb49))) hb53 hb56).resolve_left (by omega); omega))]))) ?_
            intro a hA
            refine seq_do (v := .bool true) hA rfl rfl rfl (does_pick rfl rfl rfl rfl) ?_
            intro a hA
            refine seq_do (v := .bool true) hA rfl rfl rfl (does_pick rfl rfl rfl rfl) ?_
            intro a hA
            refine seq_do hA rfl rfl rfl (does_assign rfl) ?_
            intro a hA
            refine seq_end ?_
            refine hK50 _ _ ?_
            refine wp_ret ?_
            refine hret _ _ ?_
            refine ends (v := .bool true) hA rfl (.cons (res_tmp rfl) .nil) rfl ?_
            exact ⟨rfl, hS.bel⟩
        · refine seq_call hA rfl rfl rfl (enters_func  rfl rfl (fun w => by kernel_rfl)) (wholeQ_any (show Nm _ q u1 uc1 u2 uc2 u3 uc3 u4 uc4 from ⟨⟨(hS.rd 15 rfl), hb.s1.nil, hb.s1.cap⟩, ⟨(hS.rd 14 rfl), hb.s2.nil, hb.s2.cap⟩, ⟨(hS.rd 13 rfl), hb.s3.nil, hb.s3.cap⟩, ⟨(hS.rd 12 rfl), hb.s4.nil, hb.s4.cap⟩⟩) hm hb56) ?_
          rintro _ w61 ⟨rfl, hb60⟩
          replace hS := hS.call hb60
          refine ⟨_, rfl, ?_⟩
          intro a hA
          refine seq_do (v := .bool true) hA rfl rfl rfl (does_un rfl un_not) ?_
          intro a hA
          refine seq_do (v := .bool true) hA rfl rfl rfl (does_pick rfl rfl rfl rfl) ?_
          intro a hA
          refine seq_do hA rfl rfl rfl (does_move rfl) ?_
          intro a hA
          refine seq_skip hA rfl rfl rfl ?_
          intro a hA
          refine seq_skip hA rfl rfl rfl ?_
          intro a hA
          refine seq_skip hA rfl rfl rfl ?_
          intro a hA
          refine seq_skip hA rfl rfl rfl ?_
          intro a hA
          refine seq_skip hA rfl rfl rfl ?_
          intro a hA
          refine seq_do (v := .bool true) hA rfl rfl rfl (does_pick rfl rfl rfl rfl) ?_
          intro a hA
          refine seq_do hA rfl rfl rfl (does_move rfl) ?_
          intro a hA
          refine seq_skip hA rfl rfl rfl ?_
          intro a hA
          refine seq_skip hA rfl rfl rfl ?_
          intro a hA
          refine seq_skip hA rfl rfl rfl ?_
          intro a hA
          refine seq_skip hA rfl rfl rfl ?_
          intro a hA
          refine seq_skip hA rfl rfl rfl ?_
          intro a hA
          refine seq_do (v := .bool true) hA rfl rfl rfl (does_pick rfl rfl rfl rfl) ?_
          intro a hA
          refine seq_do (v := .bool true) hA rfl rfl rfl (does_pick rfl rfl rfl rfl) ?_
          intro a hA
          refine seq_do hA rfl rfl rfl (does_assign rfl) ?_
          intro a hA
          refine seq_end ?_
          refine hK50 _ _ ?_
          refine wp_ret ?_
          refine hret _ _ ?_
          refine ends (v := .bool true) hA rfl (.cons (res_tmp rfl) .nil) rfl ?_
          exact ⟨rfl, hS.bel⟩
      · refine seq_call hA rfl rfl rfl (enters_func  rfl rfl (fun w => by kernel_rfl)) (wholeQ_any (show Nm _ p a1 ac1 a2 ac2 a3 ac3 a4 ac4 from ⟨⟨(hS.rd 19 rfl), ha.s1.nil, ha.s1.cap⟩, ⟨(hS.rd 18 rfl), ha.s2.nil, ha.s2.cap⟩, ⟨(hS.rd 17 rfl), ha.s3.nil, ha.s3.cap⟩, ⟨(hS.rd 16 rfl), ha.s4.nil, ha.s4.cap⟩⟩) hl hb53) ?_
        rintro _ w63 ⟨rfl, hb62⟩
        replace hS := hS.call hb62
        refine ⟨_, rfl, ?_⟩
        intro a hA
        refine seq_do (v := .bool true) hA rfl rfl rfl (does_un rfl un_not) ?_
        intro a hA
        refine seq_do hA rfl rfl rfl (does_move rfl) ?_
        intro a hA
        refine seq_skip hA rfl rfl rfl ?_
        intro a hA
        refine seq_skip hA rfl rfl rfl ?_
        intro a hA
        refine seq_skip hA rfl rfl rfl ?_
        intro a hA
        refine seq_do (v := .bool true) hA rfl rfl rfl (does_pick rfl rfl rfl rfl) ?_
        intro a hA
        refine seq_do hA rfl rfl rfl (does_move rfl) ?_
        intro a hA
        refine seq_skip hA rfl rfl rfl ?_
        intro a hA
        refine seq_skip hA rfl rfl rfl ?_
        intro a hA
        refine seq_skip hA rfl rfl rfl ?_
        intro a hA
        refine seq_skip hA rfl rfl rfl ?_
        intro a hA
        refine seq_skip hA rfl rfl rfl ?_
        intro a hA
        refine seq_do (v := .bool true) hA rfl rfl rfl (does_pick rfl rfl rfl rfl) ?_
        intro a hA
        refine seq_do hA rfl rfl rfl (does_move rfl) ?_
        intro a hA
        refine seq_skip hA rfl rfl rfl ?_
        intro a hA
        refine seq_skip hA rfl rfl rfl ?_
        intro a hA
        refine seq_skip hA rfl rfl rfl ?_
        intro a hA
        refine seq_skip hA rfl rfl rfl ?_
        intro a hA
        refine seq_skip hA rfl rfl rfl ?_
        intro a hA
        refine seq_do (v := .bool true) hA rfl rfl rfl (does_pick rfl rfl rfl rfl) ?_
        intro a hA
        refine seq_do (v := .bool true) hA rfl rfl rfl (does_pick rfl rfl rfl rfl) ?_
        intro a hA
        refine seq_do hA rfl rfl rfl (does_assign rfl) ?_
        intro a hA
        refine seq_end ?_
        refine hK50 _ _ ?_
        refine wp_ret ?_
        refine hret _ _ ?_
        refine ends (v := .bool true) hA rfl (.cons (res_tmp rfl) .nil) rfl ?_
        exact ⟨rfl, hS.bel⟩
    · have hb49' := bne_eq_false_iff_eq.1 hb49
      refine seq_do (v := .bool false) hA rfl rfl rfl (does_bin rfl rfl (fun w => (bin_neq w).trans (by rw [hb49]))) ?_
      intro a hA
      refine seq_do (v := .bool false) hA rfl rfl rfl (does_pick rfl rfl rfl rfl) ?_
      intro a hA
      refine seq_do hA rfl rfl rfl (does_move rfl) ?_
      intro a hA
      refine seq_do hA rfl rfl rfl (does_move rfl) ?_
      intro a hA
      rcases Bool.eq_false_or_eq_true ((z3.2 != 0)) with hb64 | hb64
      · have hb64' := bne_iff_ne.1 hb64
        refine seq_do (v := .bool true) hA rfl rfl rfl (does_bin rfl rfl (fun w => (bin_neq w).trans (by rw [hb64]))) ?_
        intro a hA
        refine seq_do (v := .bool true) hA rfl rfl rfl (does_pick rfl rfl rfl rfl) ?_
        intro a hA
        refine seq_end ?_
        refine hK31 _ _ ?_
        refine wp_cond_true (hA.ev rfl) ?_
        refine wp_seq_k (fun K65 hK65 => ?_)
        refine wp_region_lit ?_
        refine seq_call hA rfl rfl rfl (enters_func  rfl rfl (fun w => by kernel_rfl)) (awake4_any) ?_
        rintro _ w67 ⟨rfl, hb66⟩
        replace hS := hS.call hb66
        refine ⟨_, rfl, ?_⟩
        intro a hA
        refine seq_do hA rfl rfl rfl (does_move rfl) ?_
        intro a hA
        refine seq_do (v := .agg #[.bool p.b1, .slice a1 p.t1.length ac1, .slice a2 p.q1.length ac2, .bool p.b2, .slice a3 p.t2.length ac3, .slice a4 p.q2.length ac4]) hA rfl rfl rfl (does_loadS hS BiT_isS_26 rfl 4 rfl (cs := [.bool p.b1, .slice a1 p.t1.length ac1, .slice a2 p.q1.length ac2, .bool p.b2, .slice a3 p.t2.length ac3, .slice a4 p.q2.length ac4]) rfl rfl) ?_
        intro a hA
        rcases Bool.eq_false_or_eq_true (wholeQ p) with hb68 | hb68
        · refine seq_call hA rfl rfl rfl (enters_func  rfl rfl (fun w => by kernel_rfl)) (wholeQ_any (show Nm _ p a1 ac1 a2 ac2 a3 ac3 a4 ac4 from ⟨⟨(hS.rd 19 rfl), ha.s1.nil, ha.s1.cap⟩, ⟨(hS.rd 18 rfl), ha.s2.nil, ha.s2.cap⟩, ⟨(hS.rd 17 rfl), ha.s3.nil, ha.s3.cap⟩, ⟨(hS.rd 16 rfl), ha.s4.nil, ha.s4.cap⟩⟩) hl hb68) ?_
          rintro _ w70 ⟨rfl, hb69⟩
          replace hS := hS.call hb69
          refine ⟨_, rfl, ?_⟩
          intro a hA
          refine seq_do (v := .bool false) hA rfl rfl rfl (does_un rfl un_not) ?_
          intro a hA
          refine seq_do hA rfl rfl rfl (does_move rfl) ?_
          intro a hA
          refine seq_do (v := .agg #[.bool q.b1, .slice u1 q.t1.length uc1, .slice u2 q.q1.length uc2, .bool q.b2, .slice u3 q.t2.length uc3, .slice u4 q.q2.length uc4]) hA rfl rfl rfl (does_loadS hS BiT_isS_26 rfl 3 rfl (cs := [.bool q.b1, .slice u1 q.t1.length uc1, .slice u2 q.q1.length uc2, .bool q.b2, .slice u3 q.t2.length uc3, .slice u4 q.q2.length uc4]) rfl rfl) ?_
          intro a hA
          rcases Bool.eq_false_or_eq_true (wholeQ q) with hb71 | hb71
          · refine seq_call hA rfl rfl rfl (enters_func  rfl rfl (fun w => by kernel_rfl)) (wholeQ_any (show Nm _ q u1 uc1 u2 uc2 u3 uc3 u4 uc4 from ⟨⟨(hS.rd 15 rfl), hb.s1.nil, hb.s1.cap⟩, ⟨(hS.rd 14 rfl), hb.s2.nil, hb.s2.cap⟩, ⟨(hS.rd 13 rfl), hb.s3.nil, hb.s3.cap⟩, ⟨(hS.rd 12 rfl), hb.s4.nil, hb.s4.cap⟩⟩) hm hb71) ?_
            rintro _ w73 ⟨rfl, hb72⟩
            replace hS := hS.call hb72
            refine ⟨_, rfl, ?_⟩
            intro a hA
            refine seq_do (v := .bool false) hA rfl rfl rfl (does_un rfl un_not) ?_
            intro a hA
            refine seq_do (v := .bool false) hA rfl rfl rfl (does_pick rfl rfl rfl rfl) ?_
            intro a hA
            refine seq_do hA rfl rfl rfl (does_move rfl) ?_
            intro a hA
            refine seq_do (v := .pointer (some ⟨g2, 0, none⟩)) hA rfl rfl rfl (does_field BiT_fld_26_0 rfl rfl) ?_
            intro a hA
            refine seq_do (v := .pointer (some ⟨g2, 1, none⟩)) hA rfl rfl rfl (does_field BiT_fld_24_1 rfl rfl) ?_
            intro a hA
            refine seq_do hA rfl rfl rfl (does_load1 hS BiT_is1_22 rfl 4 rfl rfl) ?_
            intro a hA
            refine seq_do (v := .int .i64 (((p.t1.length : Nat) : Int))) hA rfl rfl rfl (does_len Try.underlying22 rfl) ?_
            intro a hA
            rcases Bool.eq_false_or_eq_true ((((p.t1.length : Nat) : Int) == 512)) with hb74 | hb74
            · have hb74' := eq_of_beq hb74
              refine seq_do (v := .bool true) hA rfl rfl rfl (does_bin rfl rfl (fun w => (bin_eql w).trans (by rw [hb74]))) ?_
              intro a hA
              refine seq_do (v := .bool true) hA rfl rfl rfl (does_pick rfl rfl rfl rfl) ?_
              intro a hA
              refine seq_do hA rfl rfl rfl (does_move rfl) ?_
              intro a hA
              refine seq_skip hA rfl rfl rfl ?_
              intro a hA
              refine seq_skip hA rfl rfl rfl ?_
              intro a hA
              refine seq_skip hA rfl rfl rfl ?_
              intro a hA
              refine seq_skip hA rfl rfl rfl ?_
              intro a hA
              refine seq_skip hA rfl rfl rfl ?_
              intro a hA
              refine seq_do (v := .bool true) hA rfl rfl rfl (does_pick rfl rfl rfl rfl) ?_
              intro a hA
              refine seq_do (v := .bool true) hA rfl rfl rfl (does_pick rfl rfl rfl rfl) ?_
              intro a hA
              refine seq_do hA rfl rfl rfl (does_assign rfl) ?_
              intro a hA
              refine seq_end ?_
              refine hK65 _ _ ?_
              refine wp_ret ?_
              refine hret _ _ ?_
              refine ends (v := .bool true) hA rfl (.cons (res_tmp rfl) .nil) rfl ?_
              exact ⟨rfl, hS.bel⟩
            · have hb74' := ne_of_beq_false hb74
              refine seq_do (v := .bool false) hA rfl rfl rfl (does_bin rfl rfl (fun w => (bin_eql w).trans (by rw [hb74]))) ?_
              intro a hA
              refine seq_do (v := .bool false) hA rfl rfl rfl (does_pick rfl rfl rfl rfl) ?_
              intro a hA
              refine seq_do hA rfl rfl rfl (does_move rfl) ?_
              intro a hA
              refine seq_do (v := .pointer (some ⟨g4, 0, none⟩)) hA rfl rfl rfl (does_field BiT_fld_26_0 rfl rfl) ?_
              intro a hA
              refine seq_do (v := .pointer (some ⟨g4, 1, none⟩)) hA rfl rfl rfl (does_field BiT_fld_24_1 rfl rfl) ?_
              intro a hA
              refine seq_do hA rfl rfl rfl (does_load1 hS BiT_is1_22 rfl 3 rfl rfl) ?_
              intro a hA
              refine seq_do (v := .int .i64 (((q.t1.length : Nat) : Int))) hA rfl rfl rfl (does_len Try.underlying22 rfl) ?_
              intro a hA
              refine seq_do (v := .bool true) hA rfl rfl rfl (does_bin rfl rfl (fun w => (bin_eql w).trans (by rw [show ((((q.t1.length : Nat) : Int) == 512)) = true from (beq_iff_eq.2 (by have h9 := (hG1 (.inr (.inr (bne_iff_ne.1 hb64))) hb68 hb71).resolve_left (by omega); omega))]))) ?_
              intro a hA
              refine seq_do (v := .bool true) hA rfl rfl rfl (does_pick rfl rfl rfl rfl) ?_
              intro a hA
              refine seq_do (v := .bool true) hA rfl rfl rfl (does_pick rfl rfl rfl rfl) ?_
              intro a hA
              refine seq_do hA rfl rfl rfl (does_assign rfl) ?_
              intro a hA
              refine seq_end ?_
              refine hK65 _ _ ?_
              refine wp_ret ?_
              refine hret _ _ ?_
              refine ends (v := .bool true) hA rfl (.cons (res_tmp rfl) .nil) rfl ?_
              exact ⟨rfl, hS.bel⟩
          · refine seq_call hA rfl rfl rfl (enters_func  rfl rfl (fun w => by kernel_rfl)) (wholeQ_any (show Nm _ q u1 uc1 u2 uc2 u3 uc3 u4 uc4 from ⟨⟨(hS.rd 15 rfl), hb.s1.nil, hb.s1.cap⟩, ⟨(hS.rd 14 rfl), hb.s2.nil, hb.s2.cap⟩, ⟨(hS.rd 13 rfl), hb.s3.nil, hb.s3.cap⟩, ⟨(hS.rd 12 rfl), hb.s4.nil, hb.s4.cap⟩⟩) hm hb71) ?_
            rintro _ w76 ⟨rfl, hb75⟩
            replace hS := hS.call hb75
            refine ⟨_, rfl, ?_⟩
            intro a hA
            refine seq_do (v := .bool true) hA rfl rfl rfl (does_un rfl un_not) ?_
            intro a hA
            refine seq_do (v := .bool true) hA rfl rfl rfl (does_pick rfl rfl rfl rfl) ?_
            intro a hA
            refine seq_do hA rfl rfl rfl (does_move rfl) ?_
            intro a hA
            refine seq_skip hA rfl rfl rfl ?_
            intro a hA
            refine seq_skip hA rfl rfl rfl ?_
            intro a hA
            refine seq_skip hA rfl rfl rfl ?_
            intro a hA
            refine seq_skip hA rfl rfl rfl ?_
            intro a hA
            refine seq_skip hA rfl rfl rfl ?_
            intro a hA
            refine seq_do (v := .bool true) hA rfl rfl rfl (does_pick rfl rfl rfl rfl) ?_
            intro a hA
            refine seq_do hA rfl rfl rfl (does_move rfl) ?_
            intro a hA
            refine seq_skip hA rfl rfl rfl ?_
            intro a hA
            refine seq_skip hA rfl rfl rfl ?_
            intro a hA
            refine seq_skip hA rfl rfl rfl ?_
            intro a hA
            refine seq_skip hA rfl rfl rfl ?_
            intro a hA
            refine seq_skip hA rfl rfl rfl ?_
            intro a hA
            refine seq_do (v := .bool true) hA rfl rfl rfl (does_pick rfl rfl rfl rfl) ?_
            intro a hA
            refine seq_do (v := .bool true) hA rfl rfl rfl (does_pick rfl rfl rfl rfl) ?_
            intro a hA
            refine seq_do hA rfl rfl rfl (does_assign rfl) ?_
            intro a hA
            refine seq_end ?_
            refine hK65 _ _ ?_
            refine wp_ret ?_
            refine hret _ _ ?_
            refine ends (v := .bool true) hA rfl (.cons (res_tmp rfl) .nil) rfl ?_
            exact ⟨rfl, hS.bel⟩
        · refine seq_call hA rfl rfl rfl (enters_func  rfl rfl (fun w => by kernel_rfl)) (wholeQ_any (show Nm _ p a1 ac1 a2 ac2 a3 ac3 a4 ac4 from ⟨⟨(hS.rd 19 rfl), ha.s1.nil, ha.s1.cap⟩, ⟨(hS.rd 18 rfl), ha.s2.nil, ha.s2.cap⟩, ⟨(hS.rd 17 rfl), ha.s3.nil, ha.s3.cap⟩, ⟨(hS.rd 16 rfl), ha.s4.nil, ha.s4.cap⟩⟩) hl hb68) ?_
          rintro _ w78 ⟨rfl, hb77⟩
          replace hS := hS.call hb77
          refine ⟨_, rfl, ?_⟩
          intro a hA
          refine seq_do (v := .bool true) hA rfl rfl rfl (does_un rfl un_not) ?_
          intro a hA
          refine seq_do hA rfl rfl rfl (does_move rfl) ?_
          intro a hA
          refine seq_skip hA rfl rfl rfl ?_
          intro a hA
          refine seq_skip hA rfl rfl rfl ?_
          intro a hA
          refine seq_skip hA rfl rfl rfl ?_
          intro a hA
          refine seq_do (v := .bool true) hA rfl rfl rfl (does_pick rfl rfl rfl rfl) ?_
          intro a hA
          refine seq_do hA rfl rfl rfl (does_move rfl) ?_
          intro a hA
          refine seq_skip hA rfl rfl rfl ?_
          intro a hA
          refine seq_skip hA rfl rfl rfl ?_
          intro a hA
          refine seq_skip hA rfl rfl rfl ?_
          intro a hA
          refine seq_skip hA rfl rfl rfl ?_
          intro a hA
          refine seq_skip hA rfl rfl rfl ?_
          intro a hA
          refine seq_do (v := .bool true) hA rfl rfl rfl (does_pick rfl rfl rfl rfl) ?_
          intro a hA
          refine seq_do hA rfl rfl rfl (does_move rfl) ?_
          intro a hA
          refine seq_skip hA rfl rfl rfl ?_
          intro a hA
          refine seq_skip hA rfl rfl rfl ?_
          intro a hA
          refine seq_skip hA rfl rfl rfl ?_
          intro a hA
          refine seq_skip hA rfl rfl rfl ?_
          intro a hA
          refine seq_skip hA rfl rfl rfl ?_
          intro a hA
          refine seq_do (v := .bool true) hA rfl rfl rfl (does_pick rfl rfl rfl rfl) ?_
          intro a hA
          refine seq_do (v := .bool true) hA rfl rfl rfl (does_pick rfl rfl rfl rfl) ?_
          intro a hA
          refine seq_do hA rfl rfl rfl (does_assign rfl) ?_
          intro a hA
          refine seq_end ?_
          refine hK65 _ _ ?_
          refine wp_ret ?_
          refine hret _ _ ?_
          refine ends (v := .bool true) hA rfl (.cons (res_tmp rfl) .nil) rfl ?_
          exact ⟨rfl, hS.bel⟩
      · have hb64' := bne_eq_false_iff_eq.1 hb64
        refine seq_do (v := .bool false) hA rfl rfl rfl (does_bin rfl rfl (fun w => (bin_neq w).trans (by rw [hb64]))) ?_
        intro a hA
        refine seq_do (v := .bool false) hA rfl rfl rfl (does_pick rfl rfl rfl rfl) ?_
        intro a hA
        refine seq_end ?_
        refine hK31 _ _ ?_
        refine wp_cond_false (hA.ev rfl) ?_
        refine wp_skip ?_
        refine hK30 _ _ ?_
        refine wp_seq_k (fun K79 hK79 => ?_)
        refine wp_region_lit ?_
        refine seq_do (v := .agg #[.bool z1.1.b1, .slice p7_1 z1.1.t1.length p7_c1, .slice p7_2 z1.1.q1.length p7_c2, .bool z1.1.b2, .slice p7_3 z1.1.t2.length p7_c3, .slice p7_4 z1.1.q2.length p7_c4]) hA rfl rfl rfl (does_loadS hS BiT_isS_26 rfl 2 rfl (cs := [.bool z1.1.b1, .slice p7_1 z1.1.t1.length p7_c1, .slice p7_2 z1.1.q1.length p7_c2, .bool z1.1.b2, .slice p7_3 z1.1.t2.length p7_c3, .slice p7_4 z1.1.q2.length p7_c4]) rfl rfl) ?_
        intro a hA
        refine seq_do (v := .agg #[.bool z2.1.b1, .slice p15_1 z2.1.t1.length p15_c1, .slice p15_2 z2.1.q1.length p15_c2, .bool z2.1.b2, .slice p15_3 z2.1.t2.length p15_c3, .slice p15_4 z2.1.q2.length p15_c4]) hA rfl rfl rfl (does_loadS hS BiT_isS_26 rfl 1 rfl (cs := [.bool z2.1.b1, .slice p15_1 z2.1.t1.length p15_c1, .slice p15_2 z2.1.q1.length p15_c2, .bool z2.1.b2, .slice p15_3 z2.1.t2.length p15_c3, .slice p15_4 z2.1.q2.length p15_c4]) rfl rfl) ?_
        intro a hA
        refine seq_call hA rfl rfl rfl (enters_func  rfl rfl (fun w => by kernel_rfl)) (addQ_as (show Nm _ z1.1 p7_1 p7_c1 p7_2 p7_c2 p7_3 p7_c3 p7_4 p7_c4 from ⟨⟨(hS.rd 11 rfl), hn8.s1.nil, hn8.s1.cap⟩, ⟨(hS.rd 10 rfl), hn8.s2.nil, hn8.s2.cap⟩, ⟨(hS.rd 9 rfl), hn8.s3.nil, hn8.s3.cap⟩, ⟨(hS.rd 8 rfl), hn8.s4.nil, hn8.s4.cap⟩⟩) l1 (show Nm _ z2.1 p15_1 p15_c1 p15_2 p15_c2 p15_3 p15_c3 p15_4 p15_c4 from ⟨⟨(hS.rd 7 rfl), hn16.s1.nil, hn16.s1.cap⟩, ⟨(hS.rd 6 rfl), hn16.s2.nil, hn16.s2.cap⟩, ⟨(hS.rd 5 rfl), hn16.s3.nil, hn16.s3.cap⟩, ⟨(hS.rd 4 rfl), hn16.s4.nil, hn16.s4.cap⟩⟩) l2 e4) ?_
        rintro _ w83 ⟨p80_1, p80_c1, p80_2, p80_c2, p80_3, p80_c3, p80_4, p80_c4, rfl, hn81, hb82⟩
        replace hS := hS.call hb82
        replace hS := hS.addR hn81.s1.rd
        replace hS := hS.addR hn81.s2.rd
        replace hS := hS.addR hn81.s3.rd
        replace hS := hS.addR hn81.s4.rd
        refine ⟨_, rfl, ?_⟩
        intro a hA
        refine seq_do hA rfl rfl rfl (does_move rfl) ?_
        intro a hA
        refine seq_do (v := .agg #[.bool z4.1.b1, .slice p80_1 z4.1.t1.length p80_c1, .slice p80_2 z4.1.q1.length p80_c2, .bool z4.1.b2, .slice p80_3 z4.1.t2.length p80_c3, .slice p80_4 z4.1.q2.length p80_c4]) hA rfl rfl rfl (does_extract (vs := [.agg #[.bool z4.1.b1, .slice p80_1 z4.1.t1.length p80_c1, .slice p80_2 z4.1.q1.length p80_c2, .bool z4.1.b2, .slice p80_3 z4.1.t2.length p80_c3, .slice p80_4 z4.1.q2.length p80_c4], .int .i64 z4.2]) rfl rfl) ?_
        intro a hA
        refine seq_do (v := .int .i64 z4.2) hA rfl rfl rfl (does_extract (vs := [.agg #[.bool z4.1.b1, .slice p80_1 z4.1.t1.length p80_c1, .slice p80_2 z4.1.q1.length p80_c2, .bool z4.1.b2, .slice p80_3 z4.1.t2.length p80_c3, .slice p80_4 z4.1.q2.length p80_c4], .int .i64 z4.2]) rfl rfl) ?_
        intro a hA
        refine seq_new (vs := [.bool false, .slice none 0 0, .slice none 0 0, .bool false, .slice none 0 0, .slice none 0 0]) (t := 26) hA hS rfl rfl rfl (fun g => .pointer (some ⟨g, 0, none⟩)) (does_alloc (z := .agg #[.bool false, .slice none 0 0, .slice none 0 0, .bool false, .slice none 0 0, .slice none 0 0]) (by kernel_rfl) rfl) rfl ?_
        intro g84 w85 hS a hA
        refine seq_store (us := [.bool z4.1.b1, .slice p80_1 z4.1.t1.length p80_c1, .slice p80_2 z4.1.q1.length p80_c2, .bool z4.1.b2, .slice p80_3 z4.1.t2.length p80_c3, .slice p80_4 z4.1.q2.length p80_c4]) hA hS rfl rfl (sets_store (cs := [.bool z4.1.b1, .slice p80_1 z4.1.t1.length p80_c1, .slice p80_2 z4.1.q1.length p80_c2, .bool z4.1.b2, .slice p80_3 z4.1.t2.length p80_c3, .slice p80_4 z4.1.q2.length p80_c4]) rfl rfl rfl (by kernel_rfl) hS 0 rfl rfl rfl) 0 rfl rfl rfl rfl ?_
        intro w86 hS
        refine seq_do hA rfl rfl rfl (does_assign rfl) ?_
        intro a hA
        refine seq_end ?_
        refine hK79 _ _ ?_
        refine wp_seq_k (fun K87 hK87 => ?_)
        refine wp_region_lit ?_
        refine seq_do (v := .agg #[.bool p.b1, .slice a1 p.t1.length ac1, .slice a2 p.q1.length ac2, .bool p.b2, .slice a3 p.t2.length ac3, .slice a4 p.q2.length ac4]) hA rfl rfl rfl (does_loadS hS BiT_isS_26 rfl 5 rfl (cs := [.bool p.b1, .slice a1 p.t1.length ac1, .slice a2 p.q1.length ac2, .bool p.b2, .slice a3 p.t2.length ac3, .slice a4 p.q2.length ac4]) rfl rfl) ?_
        intro a hA
        refine seq_do (v := .agg #[.bool q.b1, .slice u1 q.t1.length uc1, .slice u2 q.q1.length uc2, .bool q.b2, .slice u3 q.t2.length uc3, .slice u4 q.q2.length uc4]) hA rfl rfl rfl (does_loadS hS BiT_isS_26 rfl 4 rfl (cs := [.bool q.b1, .slice u1 q.t1.length uc1, .slice u2 q.q1.length uc2, .bool q.b2, .slice u3 q.t2.length uc3, .slice u4 q.q2.length uc4]) rfl rfl) ?_
        intro a hA
        refine seq_call hA rfl rfl rfl (enters_func  rfl rfl (fun w => by kernel_rfl)) (addQ_as (show Nm _ p a1 ac1 a2 ac2 a3 ac3 a4 ac4 from ⟨⟨(hS.rd 23 rfl), ha.s1.nil, ha.s1.cap⟩, ⟨(hS.rd 22 rfl), ha.s2.nil, ha.s2.cap⟩, ⟨(hS.rd 21 rfl), ha.s3.nil, ha.s3.cap⟩, ⟨(hS.rd 20 rfl), ha.s4.nil, ha.s4.cap⟩⟩) hl (show Nm _ q u1 uc1 u2 uc2 u3 uc3 u4 uc4 from ⟨⟨(hS.rd 19 rfl), hb.s1.nil, hb.s1.cap⟩, ⟨(hS.rd 18 rfl), hb.s2.nil, hb.s2.cap⟩, ⟨(hS.rd 17 rfl), hb.s3.nil, hb.s3.cap⟩, ⟨(hS.rd 16 rfl), hb.s4.nil, hb.s4.cap⟩⟩) hm e5) ?_
        rintro _ w91 ⟨p88_1, p88_c1, p88_2, p88_c2, p88_3, p88_c3, p88_4, p88_c4, rfl, hn89, hb90⟩
        replace hS := hS.call hb90
        replace hS := hS.addR hn89.s1.rd
        replace hS := hS.addR hn89.s2.rd
        replace hS := hS.addR hn89.s3.rd
        replace hS := hS.addR hn89.s4.rd
        refine ⟨_, rfl, ?_⟩
        intro a hA
        refine seq_do hA rfl rfl rfl (does_move rfl) ?_
        intro a hA
        refine seq_do (v := .agg #[.bool z5.1.b1, .slice p88_1 z5.1.t1.length p88_c1, .slice p88_2 z5.1.q1.length p88_c2, .bool z5.1.b2, .slice p88_3 z5.1.t2.length p88_c3, .slice p88_4 z5.1.q2.length p88_c4]) hA rfl rfl rfl (does_extract (vs := [.agg #[.bool z5.1.b1, .slice p88_1 z5.1.t1.length p88_c1, .slice p88_2 z5.1.q1.length p88_c2, .bool z5.1.b2, .slice p88_3 z5.1.t2.length p88_c3, .slice p88_4 z5.1.q2.length p88_c4], .int .i64 z5.2]) rfl rfl) ?_
        intro a hA
        refine seq_do (v := .int .i64 z5.2) hA rfl rfl rfl (does_extract (vs := [.agg #[.bool z5.1.b1, .slice p88_1 z5.1.t1.length p88_c1, .slice p88_2 z5.1.q1.length p88_c2, .bool z5.1.b2, .slice p88_3 z5.1.t2.length p88_c3, .slice p88_4 z5.1.q2.length p88_c4], .int .i64 z5.2]) rfl rfl) ?_
        intro a hA
        refine seq_new (vs := [.bool false, .slice none 0 0, .slice none 0 0, .bool false, .slice none 0 0, .slice none 0 0]) (t := 26) hA hS rfl rfl rfl (fun g => .pointer (some ⟨g, 0, none⟩)) (does_alloc (z := .agg #[.bool false, .slice none 0 0, .slice none 0 0, .bool false, .slice none 0 0, .slice none 0 0]) (by kernel_rfl) rfl) rfl ?_
        intro g92 w93 hS a hA
        refine seq_store (us := [.bool z5.1.b1, .slice p88_1 z5.1.t1.length p88_c1, .slice p88_2 z5.1.q1.length p88_c2, .bool z5.1.b2, .slice p88_3 z5.1.t2.length p88_c3, .slice p88_4 z5.1.q2.length p88_c4]) hA hS rfl rfl (sets_store (cs := [.bool z5.1.b1, .slice p88_1 z5.1.t1.length p88_c1, .slice p88_2 z5.1.q1.length p88_c2, .bool z5.1.b2, .slice p88_3 z5.1.t2.length p88_c3, .slice p88_4 z5.1.q2.length p88_c4]) rfl rfl rfl (by kernel_rfl) hS 0 rfl rfl rfl) 0 rfl rfl rfl rfl ?_
        intro w94 hS
        refine seq_do hA rfl rfl rfl (does_assign rfl) ?_
        intro a hA
        refine seq_end ?_
        refine hK87 _ _ ?_
        refine wp_seq_k (fun K95 hK95 => ?_)
        refine wp_region_lit ?_
        refine seq_do (v := .agg #[.bool z2.1.b1, .slice p15_1 z2.1.t1.length p15_c1, .slice p15_2 z2.1.q1.length p15_c2, .bool z2.1.b2, .slice p15_3 z2.1.t2.length p15_c3, .slice p15_4 z2.1.q2.length p15_c4]) hA rfl rfl rfl (does_loadS hS BiT_isS_26 rfl 3 rfl (cs := [.bool z2.1.b1, .slice p15_1 z2.1.t1.length p15_c1, .slice p15_2 z2.1.q1.length p15_c2, .bool z2.1.b2, .slice p15_3 z2.1.t2.length p15_c3, .slice p15_4 z2.1.q2.length p15_c4]) rfl rfl) ?_
        intro a hA
        refine seq_do (v := .agg #[.bool z1.1.b1, .slice p7_1 z1.1.t1.length p7_c1, .slice p7_2 z1.1.q1.length p7_c2, .bool z1.1.b2, .slice p7_3 z1.1.t2.length p7_c3, .slice p7_4 z1.1.q2.length p7_c4]) hA rfl rfl rfl (does_loadS hS BiT_isS_26 rfl 4 rfl (cs := [.bool z1.1.b1, .slice p7_1 z1.1.t1.length p7_c1, .slice p7_2 z1.1.q1.length p7_c2, .bool z1.1.b2, .slice p7_3 z1.1.t2.length p7_c3, .slice p7_4 z1.1.q2.length p7_c4]) rfl rfl) ?_
        intro a hA
        refine seq_call hA rfl rfl rfl (enters_func  rfl rfl (fun w => by kernel_rfl)) (subQ_as (show Nm _ z2.1 p15_1 p15_c1 p15_2 p15_c2 p15_3 p15_c3 p15_4 p15_c4 from ⟨⟨(hS.rd 15 rfl), hn16.s1.nil, hn16.s1.cap⟩, ⟨(hS.rd 14 rfl), hn16.s2.nil, hn16.s2.cap⟩, ⟨(hS.rd 13 rfl), hn16.s3.nil, hn16.s3.cap⟩, ⟨(hS.rd 12 rfl), hn16.s4.nil, hn16.s4.cap⟩⟩) l2 (show Nm _ z1.1 p7_1 p7_c1 p7_2 p7_c2 p7_3 p7_c3 p7_4 p7_c4 from ⟨⟨(hS.rd 19 rfl), hn8.s1.nil, hn8.s1.cap⟩, ⟨(hS.rd 18 rfl), hn8.s2.nil, hn8.s2.cap⟩, ⟨(hS.rd 17 rfl), hn8.s3.nil, hn8.s3.cap⟩, ⟨(hS.rd 16 rfl), hn8.s4.nil, hn8.s4.cap⟩⟩) l1 e6) ?_
        rintro _ w99 ⟨p96_1, p96_c1, p96_2, p96_c2, p96_3, p96_c3, p96_4, p96_c4, rfl, hn97, hb98⟩
        replace hS := hS.call hb98
        replace hS := hS.addR hn97.s1.rd
        replace hS := hS.addR hn97.s2.rd
        replace hS := hS.addR hn97.s3.rd
        replace hS := hS.addR hn97.s4.rd
        refine ⟨_, rfl, ?_⟩
        intro a hA
        refine seq_do hA rfl rfl rfl (does_move rfl) ?_
        intro a hA
        refine seq_do (v := .agg #[.bool z6.1.b1, .slice p96_1 z6.1.t1.length p96_c1, .slice p96_2 z6.1.q1.length p96_c2, .bool z6.1.b2, .slice p96_3 z6.1.t2.length p96_c3, .slice p96_4 z6.1.q2.length p96_c4]) hA rfl rfl rfl (does_extract (vs := [.agg #[.bool z6.1.b1, .slice p96_1 z6.1.t1.length p96_c1, .slice p96_2 z6.1.q1.length p96_c2, .bool z6.1.b2, .slice p96_3 z6.1.t2.length p96_c3, .slice p96_4 z6.1.q2.length p96_c4], .int .i64 z6.2]) rfl rfl) ?_
        intro a hA
        refine seq_do (v := .int .i64 z6.2) hA rfl rfl rfl (does_extract (vs := [.agg #[.bool z6.1.b1, .slice p96_1 z6.1.t1.length p96_c1, .slice p96_2 z6.1.q1.length p96_c2, .bool z6.1.b2, .slice p96_3 z6.1.t2.length p96_c3, .slice p96_4 z6.1.q2.length p96_c4], .int .i64 z6.2]) rfl rfl) ?_
        intro a hA
        refine seq_new (vs := [.bool false, .slice none 0 0, .slice none 0 0, .bool false, .slice none 0 0, .slice none 0 0]) (t := 26) hA hS rfl rfl rfl (fun g => .pointer (some ⟨g, 0, none⟩)) (does_alloc (z := .agg #[.bool false, .slice none 0 0, .slice none 0 0, .bool false, .slice none 0 0, .slice none 0 0]) (by kernel_rfl) rfl) rfl ?_
        intro g100 w101 hS a hA
        refine seq_store (us := [.bool z6.1.b1, .slice p96_1 z6.1.t1.length p96_c1, .slice p96_2 z6.1.q1.length p96_c2, .bool z6.1.b2, .slice p96_3 z6.1.t2.length p96_c3, .slice p96_4 z6.1.q2.length p96_c4]) hA hS rfl rfl (sets_store (cs := [.bool z6.1.b1, .slice p96_1 z6.1.t1.length p96_c1, .slice p96_2 z6.1.q1.length p96_c2, .bool z6.1.b2, .slice p96_3 z6.1.t2.length p96_c3, .slice p96_4 z6.1.q2.length p96_c4]) rfl rfl rfl (by kernel_rfl) hS 0 rfl rfl rfl) 0 rfl rfl rfl rfl ?_
        intro w102 hS
        refine seq_do hA rfl rfl rfl (does_assign rfl) ?_
        intro a hA
        refine seq_end ?_
        refine hK95 _ _ ?_
        refine wp_seq_k (fun K103 hK103 => ?_)
        refine wp_seq_k (fun K104 hK104 => ?_)
        have hJ114 : ∀ a w1, (Sl a 174 [(0, .agg #[.bool p.b1, .slice a1 p.t1.length ac1, .slice a2 p.q1.length ac2, .bool p.b2, .slice a3 p.t2.length ac3, .slice a4 p.q2.length ac4]), (1, .agg #[.bool q.b1, .slice u1 q.t1.length uc1, .slice u2 q.q1.length uc2, .bool q.b2, .slice u3 q.t2.length uc3, .slice u4 q.q2.length uc4]), (2, .pointer (some ⟨g2, 0, none⟩)), (3, .pointer (some ⟨g4, 0, none⟩)), (4, .bool false), (5, .pointer (some ⟨g11, 0, none⟩)), (6, .int .i64 z1.2), (7, .pointer (some ⟨g19, 0, none⟩)), (8, .int .i64 z2.2), (9, .pointer (some ⟨g27, 0, none⟩)), (10, .int .i64 z3.2), (11, .pointer (some ⟨g84, 0, none⟩)), (12, .int .i64 z4.2), (13, .pointer (some ⟨g92, 0, none⟩)), (14, .int .i64 z5.2), (15, .pointer (some ⟨g100, 0, none⟩)), (22, .tuple #[.agg #[.bool z1.1.b1, .slice p7_1 z1.1.t1.length p7_c1, .slice p7_2 z1.1.q1.length p7_c2, .bool z1.1.b2, .slice p7_3 z1.1.t2.length p7_c3, .slice p7_4 z1.1.q2.length p7_c4], .int .i64 z1.2]), (23, .agg #[.bool p.b1, .slice a1 p.t1.length ac1, .slice a2 p.q1.length ac2, .bool p.b2, .slice a3 p.t2.length ac3, .slice a4 p.q2.length ac4]), (24, .agg #[.bool q.b1, .slice u1 q.t1.length uc1, .slice u2 q.q1.length uc2, .bool q.b2, .slice u3 q.t2.length uc3, .slice u4 q.q2.length uc4]), (25, .tuple #[.agg #[.bool z1.1.b1, .slice p7_1 z1.1.t1.length p7_c1, .slice p7_2 z1.1.q1.length p7_c2, .bool z1.1.b2, .slice p7_3 z1.1.t2.length p7_c3, .slice p7_4 z1.1.q2.length p7_c4], .int .i64 z1.2]), (26, .agg #[.bool z1.1.b1, .slice p7_1 z1.1.t1.length p7_c1, .slice p7_2 z1.1.q1.length p7_c2, .bool z1.1.b2, .slice p7_3 z1.1.t2.length p7_c3, .slice p7_4 z1.1.q2.length p7_c4]), (27, .int .i64 z1.2), (28, .tuple #[.agg #[.bool z2.1.b1, .slice p15_1 z2.1.t1.length p15_c1, .slice p15_2 z2.1.q1.length p15_c2, .bool z2.1.b2, .slice p15_3 z2.1.t2.length p15_c3, .slice p15_4 z2.1.q2.length p15_c4], .int .i64 z2.2]), (29, .agg #[.bool p.b1, .slice a1 p.t1.length ac1, .slice a2 p.q1.length ac2, .bool p.b2, .slice a3 p.t2.length ac3, .slice a4 p.q2.length ac4]), (30, .agg #[.bool q.b1, .slice u1 q.t1.length uc1, .slice u2 q.q1.length uc2, .bool q.b2, .slice u3 q.t2.length uc3, .slice u4 q.q2.length uc4]), (31, .tuple #[.agg #[.bool z2.1.b1, .slice p15_1 z2.1.t1.length p15_c1, .slice p15_2 z2.1.q1.length p15_c2, .bool z2.1.b2, .slice p15_3 z2.1.t2.length p15_c3, .slice p15_4 z2.1.q2.length p15_c4], .int .i64 z2.2]), (32, .agg #[.bool z2.1.b1, .slice p15_1 z2.1.t1.length p15_c1, .slice p15_2 z2.1.q1.length p15_c2, .bool z2.1.b2, .slice p15_3 z2.1.t2.length p15_c3, .slice p15_4 z2.1.q2.length p15_c4]), (33, .int .i64 z2.2), (34, .tuple #[.agg #[.bool z3.1.b1, .slice p23_1 z3.1.t1.length p23_c1, .slice p23_2 z3.1.q1.length p23_c2, .bool z3.1.b2, .slice p23_3 z3.1.t2.length p23_c3, .slice p23_4 z3.1.q2.length p23_c4], .int .i64 z3.2]), (35, .agg #[.bool p.b1, .slice a1 p.t1.length ac1, .slice a2 p.q1.length ac2, .bool p.b2, .slice a3 p.t2.length ac3, .slice a4 p.q2.length ac4]), (36, .agg #[.bool q.b1, .slice u1 q.t1.length uc1, .slice u2 q.q1.length uc2, .bool q.b2, .slice u3 q.t2.length uc3, .slice u4 q.q2.length uc4]), (37, .tuple #[.agg #[.bool z3.1.b1, .slice p23_1 z3.1.t1.length p23_c1, .slice p23_2 z3.1.q1.length p23_c2, .bool z3.1.b2, .slice p23_3 z3.1.t2.length p23_c3, .slice p23_4 z3.1.q2.length p23_c4], .int .i64 z3.2]), (38, .agg #[.bool z3.1.b1, .slice p23_1 z3.1.t1.length p23_c1, .slice p23_2 z3.1.q1.length p23_c2, .bool z3.1.b2, .slice p23_3 z3.1.t2.length p23_c3, .slice p23_4 z3.1.q2.length p23_c4]), (39, .int .i64 z3.2), (40, .bool true), (41, .bool false), (42, .bool false), (43, .int .i64 z1.2), (44, .bool false), (45, .bool false), (46, .bool false), (47, .int .i64 z2.2), (48, .bool false), (49, .bool false), (50, .bool false), (51, .int .i64 z3.2), (52, .bool false), (53, .bool false), (79, .tuple #[.agg #[.bool z4.1.b1, .slice p80_1 z4.1.t1.length p80_c1, .slice p80_2 z4.1.q1.length p80_c2, .bool z4.1.b2, .slice p80_3 z4.1.t2.length p80_c3, .slice p80_4 z4.1.q2.length p80_c4], .int .i64 z4.2]), (80, .agg #[.bool z1.1.b1, .slice p7_1 z1.1.t1.length p7_c1, .slice p7_2 z1.1.q1.length p7_c2, .bool z1.1.b2, .slice p7_3 z1.1.t2.length p7_c3, .slice p7_4 z1.1.q2.length p7_c4]), (81, .agg #[.bool z2.1.b1, .slice p15_1 z2.1.t1.length p15_c1, .slice p15_2 z2.1.q1.length p15_c2, .bool z2.1.b2, .slice p15_3 z2.1.t2.length p15_c3, .slice p15_4 z2.1.q2.length p15_c4]), (82, .tuple #[.agg #[.bool z4.1.b1, .slice p80_1 z4.1.t1.length p80_c1, .slice p80_2 z4.1.q1.length p80_c2, .bool z4.1.b2, .slice p80_3 z4.1.t2.length p80_c3, .slice p80_4 z4.1.q2.length p80_c4], .int .i64 z4.2]), (83, .agg #[.bool z4.1.b1, .slice p80_1 z4.1.t1.length p80_c1, .slice p80_2 z4.1.q1.length p80_c2, .bool z4.1.b2, .slice p80_3 z4.1.t2.length p80_c3, .slice p80_4 z4.1.q2.length p80_c4]), (84, .int .i64 z4.2), (85, .tuple #[.agg #[.bool z5.1.b1, .slice p88_1 z5.1.t1.length p88_c1, .slice p88_2 z5.1.q1.length p88_c2, .bool z5.1.b2, .slice p88_3 z5.1.t2.length p88_c3, .slice p88_4 z5.1.q2.length p88_c4], .int .i64 z5.2]), (86, .agg #[.bool p.b1, .slice a1 p.t1.length ac1, .slice a2 p.q1.length ac2, .bool p.b2, .slice a3 p.t2.length ac3, .slice a4 p.q2.length ac4]), (87, .agg #[.bool q.b1, .slice u1 q.t1.length uc1, .slice u2 q.q1.length uc2, .bool q.b2, .slice u3 q.t2.length uc3, .slice u4 q.q2.length uc4]), (88, .tuple #[.agg #[.bool z5.1.b1, .slice p88_1 z5.1.t1.length p88_c1, .slice p88_2 z5.1.q1.length p88_c2, .bool z5.1.b2, .slice p88_3 z5.1.t2.length p88_c3, .slice p88_4 z5.1.q2.length p88_c4], .int .i64 z5.2]), (89, .agg #[.bool z5.1.b1, .slice p88_1 z5.1.t1.length p88_c1, .slice p88_2 z5.1.q1.length p88_c2, .bool z5.1.b2, .slice p88_3 z5.1.t2.length p88_c3, .slice p88_4 z5.1.q2.length p88_c4]), (90, .int .i64 z5.2), (91, .tuple #[.agg #[.bool z6.1.b1, .slice p96_1 z6.1.t1.length p96_c1, .slice p96_2 z6.1.q1.length p96_c2, .bool z6.1.b2, .slice p96_3 z6.1.t2.length p96_c3, .slice p96_4 z6.1.q2.length p96_c4], .int .i64 z6.2]), (92, .agg #[.bool z2.1.b1, .slice p15_1 z2.1.t1.length p15_c1, .slice p15_2 z2.1.q1.length p15_c2, .bool z2.1.b2, .slice p15_3 z2.1.t2.length p15_c3, .slice p15_4 z2.1.q2.length p15_c4]), (93, .agg #[.bool z1.1.b1, .slice p7_1 z1.1.t1.length p7_c1, .slice p7_2 z1.1.q1.length p7_c2, .bool z1.1.b2, .slice p7_3 z1.1.t2.length p7_c3, .slice p7_4 z1.1.q2.length p7_c4]), (94, .tuple #[.agg #[.bool z6.1.b1, .slice p96_1 z6.1.t1.length p96_c1, .slice p96_2 z6.1.q1.length p96_c2, .bool z6.1.b2, .slice p96_3 z6.1.t2.length p96_c3, .slice p96_4 z6.1.q2.length p96_c4], .int .i64 z6.2]), (95, .agg #[.bool z6.1.b1, .slice p96_1 z6.1.t1.length p96_c1, .slice p96_2 z6.1.q1.length p96_c2, .bool z6.1.b2, .slice p96_3 z6.1.t2.length p96_c3, .slice p96_4 z6.1.q2.length p96_c4]), (96, .int .i64 z6.2), (119, .bool false)] ∧ St w w1 [(g100, [.bool z6.1.b1, .slice p96_1 z6.1.t1.length p96_c1, .slice p96_2 z6.1.q1.length p96_c2, .bool z6.1.b2, .slice p96_3 z6.1.t2.length p96_c3, .slice p96_4 z6.1.q2.length p96_c4]), (g92, [.bool z5.1.b1, .slice p88_1 z5.1.t1.length p88_c1, .slice p88_2 z5.1.q1.length p88_c2, .bool z5.1.b2, .slice p88_3 z5.1.t2.length p88_c3, .slice p88_4 z5.1.q2.length p88_c4]), (g84, [.bool z4.1.b1, .slice p80_1 z4.1.t1.length p80_c1, .slice p80_2 z4.1.q1.length p80_c2, .bool z4.1.b2, .slice p80_3 z4.1.t2.length p80_c3, .slice p80_4 z4.1.q2.length p80_c4]), (g27, [.bool z3.1.b1, .slice p23_1 z3.1.t1.length p23_c1, .slice p23_2 z3.1.q1.length p23_c2, .bool z3.1.b2, .slice p23_3 z3.1.t2.length p23_c3, .slice p23_4 z3.1.q2.length p23_c4]), (g19, [.bool z2.1.b1, .slice p15_1 z2.1.t1.length p15_c1, .slice p15_2 z2.1.q1.length p15_c2, .bool z2.1.b2, .slice p15_3 z2.1.t2.length p15_c3, .slice p15_4 z2.1.q2.length p15_c4]), (g11, [.bool z1.1.b1, .slice p7_1 z1.1.t1.length p7_c1, .slice p7_2 z1.1.q1.length p7_c2, .bool z1.1.b2, .slice p7_3 z1.1.t2.length p7_c3, .slice p7_4 z1.1.q2.length p7_c4]), (g4, [.bool q.b1, .slice u1 q.t1.length uc1, .slice u2 q.q1.length uc2, .bool q.b2, .slice u3 q.t2.length uc3, .slice u4 q.q2.length uc4]), (g2, [.bool p.b1, .slice a1 p.t1.length ac1, .slice a2 p.q1.length ac2, .bool p.b2, .slice a3 p.t2.length ac3, .slice a4 p.q2.length ac4])] [(p96_4, z6.1.q2), (p96_3, z6.1.t2), (p96_2, z6.1.q1), (p96_1, z6.1.t1), (p88_4, z5.1.q2), (p88_3, z5.1.t2), (p88_2, z5.1.q1), (p88_1, z5.1.t1), (p80_4, z4.1.q2), (p80_3, z4.1.t2), (p80_2, z4.1.q1), (p80_1, z4.1.t1), (p23_4, z3.1.q2), (p23_3, z3.1.t2), (p23_2, z3.1.q1), (p23_1, z3.1.t1), (p15_4, z2.1.q2), (p15_3, z2.1.t2), (p15_2, z2.1.q1), (p15_1, z2.1.t1), (p7_4, z1.1.q2), (p7_3, z1.1.t2), (p7_2, z1.1.q1), (p7_1, z1.1.t1), (u4, q.q2), (u3, q.t2), (u2, q.q1), (u1, q.t1), (a4, p.q2), (a3, p.t2), (a2, p.q1), (a1, p.t1)] []) → K104 a w1 := by
          clear hA hS
          rintro a w115 ⟨hA, hS⟩
          refine hK104 _ _ ?_
          refine wp_cond_false (hA.ev rfl) ?_
          refine wp_skip ?_
          refine hK103 _ _ ?_
          refine wp_seq_k (fun K116 hK116 => ?_)
          refine wp_region_lit ?_
          refine seq_do (v := .agg #[.bool p.b1, .slice a1 p.t1.length ac1, .slice a2 p.q1.length ac2, .bool p.b2, .slice a3 p.t2.length ac3, .slice a4 p.q2.length ac4]) hA rfl rfl rfl (does_loadS hS BiT_isS_26 rfl 7 rfl (cs := [.bool p.b1, .slice a1 p.t1.length ac1, .slice a2 p.q1.length ac2, .bool p.b2, .slice a3 p.t2.length ac3, .slice a4 p.q2.length ac4]) rfl rfl) ?_
          intro a hA
          refine seq_call hA rfl rfl rfl (enters_func  rfl rfl (fun w => by kernel_rfl)) (notQ_as (show Nm _ p a1 ac1 a2 ac2 a3 ac3 a4 ac4 from ⟨⟨(hS.rd 31 rfl), ha.s1.nil, ha.s1.cap⟩, ⟨(hS.rd 30 rfl), ha.s2.nil, ha.s2.cap⟩, ⟨(hS.rd 29 rfl), ha.s3.nil, ha.s3.cap⟩, ⟨(hS.rd 28 rfl), ha.s4.nil, ha.s4.cap⟩⟩) hl e7) ?_
          rintro _ w120 ⟨p117_1, p117_c1, p117_2, p117_c2, p117_3, p117_c3, p117_4, p117_c4, rfl, hn118, hb119⟩
          replace hS := hS.call hb119
          replace hS := hS.addR hn118.s1.rd
          replace hS := hS.addR hn118.s2.rd
          replace hS := hS.addR hn118.s3.rd
          replace hS := hS.addR hn118.s4.rd
          refine ⟨_, rfl, ?_⟩
          intro a hA
          refine seq_do hA rfl rfl rfl (does_move rfl) ?_
          intro a hA
          refine seq_do (v := .agg #[.bool z7.1.b1, .slice p117_1 z7.1.t1.length p117_c1, .slice p117_2 z7.1.q1.length p117_c2, .bool z7.1.b2, .slice p117_3 z7.1.t2.length p117_c3, .slice p117_4 z7.1.q2.length p117_c4]) hA rfl rfl rfl (does_extract (vs := [.agg #[.bool z7.1.b1, .slice p117_1 z7.1.t1.length p117_c1, .slice p117_2 z7.1.q1.length p117_c2, .bool z7.1.b2, .slice p117_3 z7.1.t2.length p117_c3, .slice p117_4 z7.1.q2.length p117_c4], .int .i64 z7.2]) rfl rfl) ?_
          intro a hA
          refine seq_do (v := .int .i64 z7.2) hA rfl rfl rfl (does_extract (vs := [.agg #[.bool z7.1.b1, .slice p117_1 z7.1.t1.length p117_c1, .slice p117_2 z7.1.q1.length p117_c2, .bool z7.1.b2, .slice p117_3 z7.1.t2.length p117_c3, .slice p117_4 z7.1.q2.length p117_c4], .int .i64 z7.2]) rfl rfl) ?_
          intro a hA
          refine seq_new (vs := [.bool false, .slice none 0 0, .slice none 0 0, .bool false, .slice none 0 0, .slice none 0 0]) (t := 26) hA hS rfl rfl rfl (fun g => .pointer (some ⟨g, 0, none⟩)) (does_alloc (z := .agg #[.bool false, .slice none 0 0, .slice none 0 0, .bool false, .slice none 0 0, .slice none 0 0]) (by kernel_rfl) rfl) rfl ?_
          intro g121 w122 hS a hA
          refine seq_store (us := [.bool z7.1.b1, .slice p117_1 z7.1.t1.length p117_c1, .slice p117_2 z7.1.q1.length p117_c2, .bool z7.1.b2, .slice p117_3 z7.1.t2.length p117_c3, .slice p117_4 z7.1.q2.length p117_c4]) hA hS rfl rfl (sets_store (cs := [.bool z7.1.b1, .slice p117_1 z7.1.t1.length p117_c1, .slice p117_2 z7.1.q1.length p117_c2, .bool z7.1.b2, .slice p117_3 z7.1.t2.length p117_c3, .slice p117_4 z7.1.q2.length p117_c4]) rfl rfl rfl (by kernel_rfl) hS 0 rfl rfl rfl) 0 rfl rfl rfl rfl ?_
          intro w123 hS
          refine seq_do hA rfl rfl rfl (does_assign rfl) ?_
          intro a hA
          refine seq_end ?_
          refine hK116 _ _ ?_
          refine wp_seq_k (fun K124 hK124 => ?_)
          refine wp_region_lit ?_
          refine seq_do (v := .agg #[.bool q.b1, .slice u1 q.t1.length uc1, .slice u2 q.q1.length uc2, .bool q.b2, .slice u3 q.t2.length uc3, .slice u4 q.q2.length uc4]) hA rfl rfl rfl (does_loadS hS BiT_isS_26 rfl 7 rfl (cs := [.bool q.b1, .slice u1 q.t1.length uc1, .slice u2 q.q1.length uc2, .bool q.b2, .slice u3 q.t2.length uc3, .slice u4 q.q2.length uc4]) rfl rfl) ?_
          intro a hA
          refine seq_call hA rfl rfl rfl (enters_func  rfl rfl (fun w => by kernel_rfl)) (notQ_as (show Nm _ q u1 uc1 u2 uc2 u3 uc3 u4 uc4 from ⟨⟨(hS.rd 31 rfl), hb.s1.nil, hb.s1.cap⟩, ⟨(hS.rd 30 rfl), hb.s2.nil, hb.s2.cap⟩, ⟨(hS.rd 29 rfl), hb.s3.nil, hb.s3.cap⟩, ⟨(hS.rd 28 rfl), hb.s4.nil, hb.s4.cap⟩⟩) hm e8) ?_
          rintro _ w128 ⟨p125_1, p125_c1, p125_2, p125_c2, p125_3, p125_c3, p125_4, p125_c4, rfl, hn126, hb127⟩
          replace hS := hS.call hb127
          replace hS := hS.addR hn126.s1.rd
          replace hS := hS.addR hn126.s2.rd
          replace hS := hS.addR hn126.s3.rd
          replace hS := hS.addR hn126.s4.rd
          refine ⟨_, rfl, ?_⟩
          intro a hA
          refine seq_do hA rfl rfl rfl (does_move rfl) ?_
          intro a hA
          refine seq_do (v := .agg #[.bool z8.1.b1, .slice p125_1 z8.1.t1.length p125_c1, .slice p125_2 z8.1.q1.length p125_c2, .bool z8.1.b2, .slice p125_3 z8.1.t2.length p125_c3, .slice p125_4 z8.1.q2.length p125_c4]) hA rfl rfl rfl (does_extract (vs := [.agg #[.bool z8.1.b1, .slice p125_1 z8.1.t1.length p125_c1, .slice p125_2 z8.1.q1.length p125_c2, .bool z8.1.b2, .slice p125_3 z8.1.t2.length p125_c3, .slice p125_4 z8.1.q2.length p125_c4], .int .i64 z8.2]) rfl rfl) ?_
          intro a hA
          refine seq_do (v := .int .i64 z8.2) hA rfl rfl rfl (does_extract (vs := [.agg #[.bool z8.1.b1, .slice p125_1 z8.1.t1.length p125_c1, .slice p125_2 z8.1.q1.length p125_c2, .bool z8.1.b2, .slice p125_3 z8.1.t2.length p125_c3, .slice p125_4 z8.1.q2.length p125_c4], .int .i64 z8.2]) rfl rfl) ?_
          intro a hA
          refine seq_new (vs := [.bool false, .slice none 0 0, .slice none 0 0, .bool false, .slice none 0 0, .slice none 0 0]) (t := 26) hA hS rfl rfl rfl (fun g => .pointer (some ⟨g, 0, none⟩)) (does_alloc (z := .agg #[.bool false, .slice none 0 0, .slice none 0 0, .bool false, .slice none 0 0, .slice none 0 0]) (by kernel_rfl) rfl) rfl ?_
          intro g129 w130 hS a hA
          refine seq_store (us := [.bool z8.1.b1, .slice p125_1 z8.1.t1.length p125_c1, .slice p125_2 z8.1.q1.length p125_c2, .bool z8.1.b2, .slice p125_3 z8.1.t2.length p125_c3, .slice p125_4 z8.1.q2.length p125_c4]) hA hS rfl rfl (sets_store (cs := [.bool z8.1.b1, .slice p125_1 z8.1.t1.length p125_c1, .slice p125_2 z8.1.q1.length p125_c2, .bool z8.1.b2, .slice p125_3 z8.1.t2.length p125_c3, .slice p125_4 z8.1.q2.length p125_c4]) rfl rfl rfl (by kernel_rfl) hS 0 rfl rfl rfl) 0 rfl rfl rfl rfl ?_
          intro w131 hS
          refine seq_do hA rfl rfl rfl (does_assign rfl) ?_
          intro a hA
          refine seq_end ?_
          refine hK124 _ _ ?_
          refine wp_seq_k (fun K132 hK132 => ?_)
          refine wp_region_lit ?_
          refine seq_do (v := .agg #[.bool z7.1.b1, .slice p117_1 z7.1.t1.length p117_c1, .slice p117_2 z7.1.q1.length p117_c2, .bool z7.1.b2, .slice p117_3 z7.1.t2.length p117_c3, .slice p117_4 z7.1.q2.length p117_c4]) hA rfl rfl rfl (does_loadS hS BiT_isS_26 rfl 1 rfl (cs := [.bool z7.1.b1, .slice p117_1 z7.1.t1.length p117_c1, .slice p117_2 z7.1.q1.length p117_c2, .bool z7.1.b2, .slice p117_3 z7.1.t2.length p117_c3, .slice p117_4 z7.1.q2.length p117_c4]) rfl rfl) ?_
          intro a hA
          refine seq_call hA rfl rfl rfl (enters_func  rfl rfl (fun w => by kernel_rfl)) (notQ_as (show Nm _ z7.1 p117_1 p117_c1 p117_2 p117_c2 p117_3 p117_c3 p117_4 p117_c4 from ⟨⟨(hS.rd 7 rfl), hn118.s1.nil, hn118.s1.cap⟩, ⟨(hS.rd 6 rfl), hn118.s2.nil, hn118.s2.cap⟩, ⟨(hS.rd 5 rfl), hn118.s3.nil, hn118.s3.cap⟩, ⟨(hS.rd 4 rfl), hn118.s4.nil, hn118.s4.cap⟩⟩) l7 e9) ?_
          rintro _ w136 ⟨p133_1, p133_c1, p133_2, p133_c2, p133_3, p133_c3, p133_4, p133_c4, rfl, hn134, hb135⟩
          replace hS := hS.call hb135
          replace hS := hS.addR hn134.s1.rd
          replace hS := hS.addR hn134.s2.rd
          replace hS := hS.addR hn134.s3.rd
          replace hS := hS.addR hn134.s4.rd
          refine ⟨_, rfl, ?_⟩
          intro a hA
          refine seq_do hA rfl rfl rfl (does_move rfl) ?_
          intro a hA
          refine seq_do (v := .agg #[.bool z9.1.b1, .slice p133_1 z9.1.t1.length p133_c1, .slice p133_2 z9.1.q1.length p133_c2, .bool z9.1.b2, .slice p133_3 z9.1.t2.length p133_c3, .slice p133_4 z9.1.q2.length p133_c4]) hA rfl rfl rfl (does_extract (vs := [.agg #[.bool z9.1.b1, .slice p133_1 z9.1.t1.length p133_c1, .slice p133_2 z9.1.q1.length p133_c2, .bool z9.1.b2, .slice p133_3 z9.1.t2.length p133_c3, .slice p133_4 z9.1.q2.length p133_c4], .int .i64 z9.2]) rfl rfl) ?_
          intro a hA
          refine seq_do (v := .int .i64 z9.2) hA rfl rfl rfl (does_extract (vs := [.agg #[.bool z9.1.b1, .slice p133_1 z9.1.t1.length p133_c1, .slice p133_2 z9.1.q1.length p133_c2, .bool z9.1.b2, .slice p133_3 z9.1.t2.length p133_c3, .slice p133_4 z9.1.q2.length p133_c4], .int .i64 z9.2]) rfl rfl) ?_
          intro a hA
          refine seq_new (vs := [.bool false, .slice none 0 0, .slice none 0 0, .bool false, .slice none 0 0, .slice none 0 0]) (t := 26) hA hS rfl rfl rfl (fun g => .pointer (some ⟨g, 0, none⟩)) (does_alloc (z := .agg #[.bool false, .slice none 0 0, .slice none 0 0, .bool false, .slice none 0 0, .slice none 0 0]) (by kernel_rfl) rfl) rfl ?_
          intro g137 w138 hS a hA
          refine seq_store (us := [.bool z9.1.b1, .slice p133_1 z9.1.t1.length p133_c1, .slice p133_2 z9.1.q1.length p133_c2, .bool z9.1.b2, .slice p133_3 z9.1.t2.length p133_c3, .slice p133_4 z9.1.q2.length p133_c4]) hA hS rfl rfl (sets_store (cs := [.bool z9.1.b1, .slice p133_1 z9.1.t1.length p133_c1, .slice p133_2 z9.1.q1.length p133_c2, .bool z9.1.b2, .slice p133_3 z9.1.t2.length p133_c3, .slice p133_4 z9.1.q2.length p133_c4]) rfl rfl rfl (by kernel_rfl) hS 0 rfl rfl rfl) 0 rfl rfl rfl rfl ?_
          intro w139 hS
          refine seq_do hA rfl rfl rfl (does_assign rfl) ?_
          intro a hA
          refine seq_end ?_
          refine hK132 _ _ ?_
          refine wp_seq_k (fun K140 hK140 => ?_)
          refine wp_region_lit ?_
          refine seq_do (v := .agg #[.bool z7.1.b1, .slice p117_1 z7.1.t1.length p117_c1, .slice p117_2 z7.1.q1.length p117_c2, .bool z7.1.b2, .slice p117_3 z7.1.t2.length p117_c3, .slice p117_4 z7.1.q2.length p117_c4]) hA rfl rfl rfl (does_loadS hS BiT_isS_26 rfl 2 rfl (cs := [.bool z7.1.b1, .slice p117_1 z7.1.t1.length p117_c1, .slice p117_2 z7.1.q1.length p117_c2, .bool z7.1.b2, .slice p117_3 z7.1.t2.length p117_c3, .slice p117_4 z7.1.q2.length p117_c4]) rfl rfl) ?_
          intro a hA
          refine seq_do (v := .agg #[.bool z8.1.b1, .slice p125_1 z8.1.t1.length p125_c1, .slice p125_2 z8.1.q1.length p125_c2, .bool z8.1.b2, .slice p125_3 z8.1.t2.length p125_c3, .slice p125_4 z8.1.q2.length p125_c4]) hA rfl rfl rfl (does_loadS hS BiT_isS_26 rfl 1 rfl (cs := [.bool z8.1.b1, .slice p125_1 z8.1.t1.length p125_c1, .slice p125_2 z8.1.q1.length p125_c2, .bool z8.1.b2, .slice p125_3 z8.1.t2.length p125_c3, .slice p125_4 z8.1.q2.length p125_c4]) rfl rfl) ?_
          intro a hA
          refine seq_call hA rfl rfl rfl (enters_func  rfl rfl (fun w => by kernel_rfl)) (orQ_as (show Nm _ z7.1 p117_1 p117_c1 p117_2 p117_c2 p117_3 p117_c3 p117_4 p117_c4 from ⟨⟨(hS.rd 11 rfl), hn118.s1.nil, hn118.s1.cap⟩, ⟨(hS.rd 10 rfl), hn118.s2.nil, hn118.s2.cap⟩, ⟨(hS.rd 9 rfl), hn118.s3.nil, hn118.s3.cap⟩, ⟨(hS.rd 8 rfl), hn118.s4.nil, hn118.s4.cap⟩⟩) l7 (show Nm _ z8.1 p125_1 p125_c1 p125_2 p125_c2 p125_3 p125_c3 p125_4 p125_c4 from ⟨⟨(hS.rd 7 rfl), hn126.s1.nil, hn126.s1.cap⟩, ⟨(hS.rd 6 rfl), hn126.s2.nil, hn126.s2.cap⟩, ⟨(hS.rd 5 rfl), hn126.s3.nil, hn126.s3.cap⟩, ⟨(hS.rd 4 rfl), hn126.s4.nil, hn126.s4.cap⟩⟩) l8 e10) ?_
          rintro _ w144 ⟨p141_1, p141_c1, p141_2, p141_c2, p141_3, p141_c3, p141_4, p141_c4, rfl, hn142, hb143⟩
          replace hS := hS.call hb143
          replace hS := hS.addR hn142.s1.rd
          replace hS := hS.addR hn142.s2.rd
          replace hS := hS.addR hn142.s3.rd
          replace hS := hS.addR hn142.s4.rd
          refine ⟨_, rfl, ?_⟩
          intro a hA
          refine seq_do hA rfl rfl rfl (does_move rfl) ?_
          intro a hA
          refine seq_do (v := .agg #[.bool z10.1.b1, .slice p141_1 z10.1.t1.length p141_c1, .slice p141_2 z10.1.q1.length p141_c2, .bool z10.1.b2, .slice p141_3 z10.1.t2.length p141_c3, .slice p141_4 z10.1.q2.length p141_c4]) hA rfl rfl rfl (does_extract (vs := [.agg #[.bool z10.1.b1, .slice p141_1 z10.1.t1.length p141_c1, .slice p141_2 z10.1.q1.length p141_c2, .bool z10.1.b2, .slice p141_3 z10.1.t2.length p141_c3, .slice p141_4 z10.1.q2.length p141_c4], .int .i64 z10.2]) rfl rfl) ?_
          intro a hA
          refine seq_do (v := .int .i64 z10.2) hA rfl rfl rfl (does_extract (vs := [.agg #[.bool z10.1.b1, .slice p141_1 z10.1.t1.length p141_c1, .slice p141_2 z10.1.q1.length p141_c2, .bool z10.1.b2, .slice p141_3 z10.1.t2.length p141_c3, .slice p141_4 z10.1.q2.length p141_c4], .int .i64 z10.2]) rfl rfl) ?_
          intro a hA
          refine seq_new (vs := [.bool false, .slice none 0 0, .slice none 0 0, .bool false, .slice none 0 0, .slice none 0 0]) (t := 26) hA hS rfl rfl rfl (fun g => .pointer (some ⟨g, 0, none⟩)) (does_alloc (z := .agg #[.bool false, .slice none 0 0, .slice none 0 0, .bool false, .slice none 0 0, .slice none 0 0]) (by kernel_rfl) rfl) rfl ?_
          intro g145 w146 hS a hA
          refine seq_store (us := [.bool z10.1.b1, .slice p141_1 z10.1.t1.length p141_c1, .slice p141_2 z10.1.q1.length p141_c2, .bool z10.1.b2, .slice p141_3 z10.1.t2.length p141_c3, .slice p141_4 z10.1.q2.length p141_c4]) hA hS rfl rfl (sets_store (cs := [.bool z10.1.b1, .slice p141_1 z10.1.t1.length p141_c1, .slice p141_2 z10.1.q1.length p141_c2, .bool z10.1.b2, .slice p141_3 z10.1.t2.length p141_c3, .slice p141_4 z10.1.q2.length p141_c4]) rfl rfl rfl (by kernel_rfl) hS 0 rfl rfl rfl) 0 rfl rfl rfl rfl ?_
          intro w147 hS
          refine seq_do hA rfl rfl rfl (does_assign rfl) ?_
          intro a hA
          refine seq_end ?_
          refine hK140 _ _ ?_
          refine wp_seq_k (fun K148 hK148 => ?_)
          refine wp_region_lit ?_
          refine seq_do (v := .agg #[.bool z1.1.b1, .slice p7_1 z1.1.t1.length p7_c1, .slice p7_2 z1.1.q1.length p7_c2, .bool z1.1.b2, .slice p7_3 z1.1.t2.length p7_c3, .slice p7_4 z1.1.q2.length p7_c4]) hA rfl rfl rfl (does_loadS hS BiT_isS_26 rfl 9 rfl (cs := [.bool z1.1.b1, .slice p7_1 z1.1.t1.length p7_c1, .slice p7_2 z1.1.q1.length p7_c2, .bool z1.1.b2, .slice p7_3 z1.1.t2.length p7_c3, .slice p7_4 z1.1.q2.length p7_c4]) rfl rfl) ?_
          intro a hA
          refine seq_call hA rfl rfl rfl (enters_func  rfl rfl (fun w => by kernel_rfl)) (notQ_as (show Nm _ z1.1 p7_1 p7_c1 p7_2 p7_c2 p7_3 p7_c3 p7_4 p7_c4 from ⟨⟨(hS.rd 39 rfl), hn8.s1.nil, hn8.s1.cap⟩, ⟨(hS.rd 38 rfl), hn8.s2.nil, hn8.s2.cap⟩, ⟨(hS.rd 37 rfl), hn8.s3.nil, hn8.s3.cap⟩, ⟨(hS.rd 36 rfl), hn8.s4.nil, hn8.s4.cap⟩⟩) l1 e11) ?_
          rintro _ w152 ⟨p149_1, p149_c1, p149_2, p149_c2, p149_3, p149_c3, p149_4, p149_c4, rfl, hn150, hb151⟩
          replace hS := hS.call hb151
          replace hS := hS.addR hn150.s1.rd
          replace hS := hS.addR hn150.s2.rd
          replace hS := hS.addR hn150.s3.rd
          replace hS := hS.addR hn150.s4.rd
          refine ⟨_, rfl, ?_⟩
          intro a hA
          refine seq_do hA rfl rfl rfl (does_move rfl) ?_
          intro a hA
          refine seq_do (v := .agg #[.bool z11.1.b1, .slice p149_1 z11.1.t1.length p149_c1, .slice p149_2 z11.1.q1.length p149_c2, .bool z11.1.b2, .slice p149_3 z11.1.t2.length p149_c3, .slice p149_4 z11.1.q2.length p149_c4]) hA rfl rfl rfl (does_extract (vs := [.agg #[.bool z11.1.b1, .slice p149_1 z11.1.t1.length p149_c1, .slice p149_2 z11.1.q1.length p149_c2, .bool z11.1.b2, .slice p149_3 z11.1.t2.length p149_c3, .slice p149_4 z11.1.q2.length p149_c4], .int .i64 z11.2]) rfl rfl) ?_
          intro a hA
          refine seq_do (v := .int .i64 z11.2) hA rfl rfl rfl (does_extract (vs := [.agg #[.bool z11.1.b1, .slice p149_1 z11.1.t1.length p149_c1, .slice p149_2 z11.1.q1.length p149_c2, .bool z11.1.b2, .slice p149_3 z11.1.t2.length p149_c3, .slice p149_4 z11.1.q2.length p149_c4], .int .i64 z11.2]) rfl rfl) ?_
          intro a hA
          refine seq_new (vs := [.bool false, .slice none 0 0, .slice none 0 0, .bool false, .slice none 0 0, .slice none 0 0]) (t := 26) hA hS rfl rfl rfl (fun g => .pointer (some ⟨g, 0, none⟩)) (does_alloc (z := .agg #[.bool false, .slice none 0 0, .slice none 0 0, .bool false, .slice none 0 0, .slice none 0 0]) (by kernel_rfl) rfl) rfl ?_
          intro g153 w154 hS a hA
          refine seq_store (us := [.bool z11.1.b1, .slice p149_1 z11.1.t1.length p149_c1, .slice p149_2 z11.1.q1.length p149_c2, .bool z11.1.b2, .slice p149_3 z11.1.t2.length p149_c3, .slice p149_4 z11.1.q2.length p149_c4]) hA hS rfl rfl (sets_store (cs := [.bool z11.1.b1, .slice p149_1 z11.1.t1.length p149_c1, .slice p149_2 z11.1.q1.length p149_c2, .bool z11.1.b2, .slice p149_3 z11.1.t2.length p149_c3, .slice p149_4 z11.1.q2.length p149_c4]) rfl rfl rfl (by kernel_rfl) hS 0 rfl rfl rfl) 0 rfl rfl rfl rfl ?_
          intro w155 hS
          refine seq_do hA rfl rfl rfl (does_assign rfl) ?_
          intro a hA
          refine seq_end ?_
          refine hK148 _ _ ?_
          refine wp_seq_k (fun K156 hK156 => ?_)
          refine wp_region_lit ?_
          refine seq_do hA rfl rfl rfl (does_move rfl) ?_
          intro a hA
          rcases Bool.eq_false_or_eq_true ((z7.2 != 0)) with hb157 | hb157
          · have hb157' := bne_iff_ne.1 hb157
            refine seq_do (v := .bool true) hA rfl rfl rfl (does_bin rfl rfl (fun w => (bin_neq w).trans (by rw [hb157]))) ?_
            intro a hA
            refine seq_do hA rfl rfl rfl (does_move rfl) ?_
            intro a hA
            refine seq_skip hA rfl rfl rfl ?_
            intro a hA
            refine seq_skip hA rfl rfl rfl ?_
            intro a hA
            refine seq_do (v := .bool true) hA rfl rfl rfl (does_pick rfl rfl rfl rfl) ?_
            intro a hA
            refine seq_do hA rfl rfl rfl (does_move rfl) ?_
            intro a hA
            refine seq_skip hA rfl rfl rfl ?_
            intro a hA
            refine seq_skip hA rfl rfl rfl ?_
            intro a hA
            refine seq_do (v := .bool true) hA rfl rfl rfl (does_pick rfl rfl rfl rfl) ?_
            intro a hA
            refine seq_do hA rfl rfl rfl (does_move rfl) ?_
            intro a hA
            refine seq_skip hA rfl rfl rfl ?_
            intro a hA
            refine seq_skip hA rfl rfl rfl ?_
            intro a hA
            refine seq_do (v := .bool true) hA rfl rfl rfl (does_pick rfl rfl rfl rfl) ?_
            intro a hA
            refine seq_do hA rfl rfl rfl (does_move rfl) ?_
            intro a hA
            refine seq_skip hA rfl rfl rfl ?_
            intro a hA
            refine seq_skip hA rfl rfl rfl ?_
            intro a hA
            refine seq_do (v := .bool true) hA rfl rfl rfl (does_pick rfl rfl rfl rfl) ?_
            intro a hA
            refine seq_do hA rfl rfl rfl (does_move rfl) ?_
            intro a hA
            refine seq_skip hA rfl rfl rfl ?_
            intro a hA
            refine seq_skip hA rfl rfl rfl ?_
            intro a hA
            refine seq_skip hA rfl rfl rfl ?_
            intro a hA
            refine seq_skip hA rfl rfl rfl ?_
            intro a hA
            refine seq_skipU hA rfl rfl rfl ?_
            intro a hA
            refine seq_skipU hA rfl rfl rfl ?_
            intro a hA
            refine seq_skipU hA rfl rfl rfl ?_
            intro a hA
            refine seq_skip hA rfl rfl rfl ?_
            intro a hA
            refine seq_do (v := .bool true) hA rfl rfl rfl (does_pick rfl rfl rfl rfl) ?_
            intro a hA
            refine seq_do hA rfl rfl rfl (does_assign rfl) ?_
            intro a hA
            refine seq_end ?_
            refine hK156 _ _ ?_
            refine wp_ret ?_
            refine hret _ _ ?_
            refine ends (v := .bool true) hA rfl (.cons (res_tmp rfl) .nil) rfl ?_
            exact ⟨rfl, hS.bel⟩
          · have hb157' := bne_eq_false_iff_eq.1 hb157
            refine seq_do (v := .bool false) hA rfl rfl rfl (does_bin rfl rfl (fun w => (bin_neq w).trans (by rw [hb157]))) ?_
            intro a hA
            refine seq_do hA rfl rfl rfl (does_move rfl) ?_
            intro a hA
            refine seq_do hA rfl rfl rfl (does_move rfl) ?_
            intro a hA
            rcases Bool.eq_false_or_eq_true ((z8.2 != 0)) with hb158 | hb158
            · have hb158' := bne_iff_ne.1 hb158
              refine seq_do (v := .bool true) hA rfl rfl rfl (does_bin rfl rfl (fun w => (bin_neq w).trans (by rw [hb158]))) ?_
              intro a hA
              refine seq_do (v := .bool true) hA rfl rfl rfl (does_pick rfl rfl rfl rfl) ?_
              intro a hA
              refine seq_do hA rfl rfl rfl (does_move rfl) ?_
              intro a hA
              refine seq_skip hA rfl rfl rfl ?_
              intro a hA
              refine seq_skip hA rfl rfl rfl ?_
              intro a hA
              refine seq_do (v := .bool true) hA rfl rfl rfl (does_pick rfl rfl rfl rfl) ?_
              intro a hA
              refine seq_do hA rfl rfl rfl (does_move rfl) ?_
              intro a hA
              refine seq_skip hA rfl rfl rfl ?_
              intro a hA
              refine seq_skip hA rfl rfl rfl ?_
              intro a hA
              refine seq_do (v := .bool true) hA rfl rfl rfl (does_pick rfl rfl rfl rfl) ?_
              intro a hA
              refine seq_do hA rfl rfl rfl (does_move rfl) ?_
              intro a hA
              refine seq_skip hA rfl rfl rfl ?_
              intro a hA
              refine seq_skip hA rfl rfl rfl ?_
              intro a hA
              refine seq_do (v := .bool true) hA rfl rfl rfl (does_pick rfl rfl rfl rfl) ?_
              intro a hA
              refine seq_do hA rfl rfl rfl (does_move rfl) ?_
              intro a hA
              refine seq_skip hA rfl rfl rfl ?_
              intro a hA
              refine seq_skip hA rfl rfl rfl ?_
              intro a hA
              refine seq_skip hA rfl rfl rfl ?_
              intro a hA
              refine seq_skip hA rfl rfl rfl ?_
              intro a hA
              refine seq_skipU hA rfl rfl rfl ?_
              intro a hA
              refine seq_skipU hA rfl rfl rfl ?_
              intro a hA
              refine seq_skipU hA rfl rfl rfl ?_
              intro a hA
              refine seq_skip hA rfl rfl rfl ?_
              intro a hA
              refine seq_do (v := .bool true) hA rfl rfl rfl (does_pick rfl rfl rfl rfl) ?_
              intro a hA
              refine seq_do hA rfl rfl rfl (does_assign rfl) ?_
              intro a hA
              refine seq_end ?_
              refine hK156 _ _ ?_
              refine wp_ret ?_
              refine hret _ _ ?_
              refine ends (v := .bool true) hA rfl (.cons (res_tmp rfl) .nil) rfl ?_
              exact ⟨rfl, hS.bel⟩
            · have hb158' := bne_eq_false_iff_eq.1 hb158
              refine seq_do (v := .bool false) hA rfl rfl rfl (does_bin rfl rfl (fun w => (bin_neq w).trans (by rw [hb158]))) ?_
              intro a hA
              refine seq_do (v := .bool false) hA rfl rfl rfl (does_pick rfl rfl rfl rfl) ?_
              intro a hA
              refine seq_do hA rfl rfl rfl (does_move rfl) ?_
              intro a hA
              refine seq_do hA rfl rfl rfl (does_move rfl) ?_
              intro a hA
              rcases Bool.eq_false_or_eq_true ((z9.2 != 0)) with hb159 | hb159
              · have hb159' := bne_iff_ne.1 hb159
                refine seq_do (v := .bool true) hA rfl rfl rfl (does_bin rfl rfl (fun w => (bin_neq w).trans (by rw [hb159]))) ?_
                intro a hA
                refine seq_do (v := .bool true) hA rfl rfl rfl (does_pick rfl rfl rfl rfl) ?_
                intro a hA
                refine seq_do hA rfl rfl rfl (does_move rfl) ?_
                intro a hA
                refine seq_skip hA rfl rfl rfl ?_
                intro a hA
                refine seq_skip hA rfl rfl rfl ?_
                intro a hA
                refine seq_do (v := .bool true) hA rfl rfl rfl (does_pick rfl rfl rfl rfl) ?_
                intro a hA
                refine seq_do hA rfl rfl rfl (does_move rfl) ?_
                intro a hA
                refine seq_skip hA rfl rfl rfl ?_
                intro a hA
                refine seq_skip hA rfl rfl rfl ?_
                intro a hA
                refine seq_do (v := .bool true) hA rfl rfl rfl (does_pick rfl rfl rfl rfl) ?_
                intro a hA
                refine seq_do hA rfl rfl rfl (does_move rfl) ?_
                intro a hA
                refine seq_skip hA rfl rfl rfl ?_
                intro a hA
                refine seq_skip hA rfl rfl rfl ?_
                intro a hA
                refine seq_skip hA rfl rfl rfl ?_
                intro a hA
                refine seq_skip hA rfl rfl rfl ?_
                intro a hA
                refine seq_skipU hA rfl rfl rfl ?_
                intro a hA
                refine seq_skipU hA rfl rfl rfl ?_
                intro a hA
                refine seq_skipU hA rfl rfl rfl ?_
                intro a hA
                refine seq_skip hA rfl rfl rfl ?_
                intro a hA
                refine seq_do (v := .bool true) hA rfl rfl rfl (does_pick rfl rfl rfl rfl) ?_
                intro a hA
                refine seq_do hA rfl rfl rfl (does_assign rfl) ?_
                intro a hA
                refine seq_end ?_
                refine hK156 _ _ ?_
                refine wp_ret ?_
                refine hret _ _ ?_
                refine ends (v := .bool true) hA rfl (.cons (res_tmp rfl) .nil) rfl ?_
                exact ⟨rfl, hS.bel⟩
              · have hb159' := bne_eq_false_iff_eq.1 hb159
                refine seq_do (v := .bool false) hA rfl rfl rfl (does_bin rfl rfl (fun w => (bin_neq w).trans (by rw [hb159]))) ?_
                intro a hA
                refine seq_do (v := .bool false) hA rfl rfl rfl (does_pick rfl rfl rfl rfl) ?_
                intro a hA
                refine seq_do hA rfl rfl rfl (does_move rfl) ?_
                intro a hA
                refine seq_do hA rfl rfl rfl (does_move rfl) ?_
                intro a hA
                rcases Bool.eq_false_or_eq_true ((z10.2 != 0)) with hb160 | hb160
                · have hb160' := bne_iff_ne.1 hb160
                  refine seq_do (v := .bool true) hA rfl rfl rfl (does_bin rfl rfl (fun w => (bin_neq w).trans (by rw [hb160]))) ?_
                  intro a hA
                  refine seq_do (v := .bool true) hA rfl rfl rfl (does_pick rfl rfl rfl rfl) ?_
                  intro a hA
                  refine seq_do hA rfl rfl rfl (does_move rfl) ?_
                  intro a hA
                  refine seq_skip hA rfl rfl rfl ?_
                  intro a hA
                  refine seq_skip hA rfl rfl rfl ?_
                  intro a hA
                  refine seq_do (v := .bool true) hA rfl rfl rfl (does_pick rfl rfl rfl rfl) ?_
                  intro a hA
                  refine seq_do hA rfl rfl rfl (does_move rfl) ?_
                  intro a hA
                  refine seq_skip hA rfl rfl rfl ?_
                  intro a hA
                  refine seq_skip hA rfl rfl rfl ?_
                  intro a hA
                  refine seq_skip hA rfl rfl rfl ?_
                  intro a hA
                  refine seq_skip hA rfl rfl rfl ?_
                  intro a hA
                  refine seq_skipU hA rfl rfl rfl ?_
                  intro a hA
                  refine seq_skipU hA rfl rfl rfl ?_
                  intro a hA
                  refine seq_skipU hA rfl rfl rfl ?_
                  intro a hA
                  refine seq_skip hA rfl rfl rfl ?_
                  intro a hA
                  refine seq_do (v := .bool true) hA rfl rfl rfl (does_pick rfl rfl rfl rfl) ?_
                  intro a hA
                  refine seq_do hA rfl rfl rfl (does_assign rfl) ?_
                  intro a hA
                  refine seq_end ?_
                  refine hK156 _ _ ?_
                  refine wp_ret ?_
                  refine hret _ _ ?_
                  refine ends (v := .bool true) hA rfl (.cons (res_tmp rfl) .nil) rfl ?_
                  exact ⟨rfl, hS.bel⟩
                · have hb160' := bne_eq_false_iff_eq.1 hb160
                  refine seq_do (v := .bool false) hA rfl rfl rfl (does_bin rfl rfl (fun w => (bin_neq w).trans (by rw [hb160]))) ?_
                  intro a hA
                  refine seq_do (v := .bool false) hA rfl rfl rfl (does_pick rfl rfl rfl rfl) ?_
                  intro a hA
                  refine seq_do hA rfl rfl rfl (does_move rfl) ?_
                  intro a hA
                  refine seq_do hA rfl rfl rfl (does_move rfl) ?_
                  intro a hA
                  rcases Bool.eq_false_or_eq_true ((z11.2 != 0)) with hb161 | hb161
                  · have hb161' := bne_iff_ne.1 hb161
                    refine seq_do (v := .bool true) hA rfl rfl rfl (does_bin rfl rfl (fun w => (bin_neq w).trans (by rw [hb161]))) ?_
                    intro a hA
                    refine seq_do (v := .bool true) hA rfl rfl rfl (does_pick rfl rfl rfl rfl) ?_
                    intro a hA
                    refine seq_do hA rfl rfl rfl (does_move rfl) ?_
                    intro a hA
                    refine seq_skip hA rfl rfl rfl ?_
                    intro a hA
                    refine seq_skip hA rfl rfl rfl ?_
                    intro a hA
                    refine seq_skip hA rfl rfl rfl ?_
                    intro a hA
                    refine seq_skip hA rfl rfl rfl ?_
                    intro a hA
                    refine seq_skipU hA rfl rfl rfl ?_
                    intro a hA
                    refine seq_skipU hA rfl rfl rfl ?_
                    intro a hA
                    refine seq_skipU hA rfl rfl rfl ?_
                    intro a hA
                    refine seq_skip hA rfl rfl rfl ?_
                    intro a hA
                    refine seq_do (v := .bool true) hA rfl rfl rfl (does_pick rfl rfl rfl rfl) ?_
                    intro a hA
                    refine seq_do hA rfl rfl rfl (does_assign rfl) ?_
                    intro a hA
                    refine seq_end ?_
                    refine hK156 _ _ ?_
                    refine wp_ret ?_
                    refine hret _ _ ?_
                    refine ends (v := .bool true) hA rfl (.cons (res_tmp rfl) .nil) rfl ?_
                    exact ⟨rfl, hS.bel⟩
                  · have hb161' := bne_eq_false_iff_eq.1 hb161
                    refine seq_do (v := .bool false) hA rfl rfl rfl (does_bin rfl rfl (fun w => (bin_neq w).trans (by rw [hb161]))) ?_
                    intro a hA
                    refine seq_do (v := .bool false) hA rfl rfl rfl (does_pick rfl rfl rfl rfl) ?_
                    intro a hA
                    refine seq_do hA rfl rfl rfl (does_move rfl) ?_
                    intro a hA
                    refine seq_do (v := .agg #[.bool z9.1.b1, .slice p133_1 z9.1.t1.length p133_c1, .slice p133_2 z9.1.q1.length p133_c2, .bool z9.1.b2, .slice p133_3 z9.1.t2.length p133_c3, .slice p133_4 z9.1.q2.length p133_c4]) hA rfl rfl rfl (does_loadS hS BiT_isS_26 rfl 2 rfl (cs := [.bool z9.1.b1, .slice p133_1 z9.1.t1.length p133_c1, .slice p133_2 z9.1.q1.length p133_c2, .bool z9.1.b2, .slice p133_3 z9.1.t2.length p133_c3, .slice p133_4 z9.1.q2.length p133_c4]) rfl rfl) ?_
                    intro a hA
                    refine seq_do (v := .agg #[.bool p.b1, .slice a1 p.t1.length ac1, .slice a2 p.q1.length ac2, .bool p.b2, .slice a3 p.t2.length ac3, .slice a4 p.q2.length ac4]) hA rfl rfl rfl (does_loadS hS BiT_isS_26 rfl 12 rfl (cs := [.bool p.b1, .slice a1 p.t1.length ac1, .slice a2 p.q1.length ac2, .bool p.b2, .slice a3 p.t2.length ac3, .slice a4 p.q2.length ac4]) rfl rfl) ?_
                    intro a hA
                    refine seq_call hA rfl rfl rfl (enters_func  rfl rfl (fun w => by kernel_rfl)) (sameQ_any (show Nm _ z9.1 p133_1 p133_c1 p133_2 p133_c2 p133_3 p133_c3 p133_4 p133_c4 from ⟨⟨(hS.rd 11 rfl), hn134.s1.nil, hn134.s1.cap⟩, ⟨(hS.rd 10 rfl), hn134.s2.nil, hn134.s2.cap⟩, ⟨(hS.rd 9 rfl), hn134.s3.nil, hn134.s3.cap⟩, ⟨(hS.rd 8 rfl), hn134.s4.nil, hn134.s4.cap⟩⟩) l9 (show Nm _ p a1 ac1 a2 ac2 a3 ac3 a4 ac4 from ⟨⟨(hS.rd 51 rfl), ha.s1.nil, ha.s1.cap⟩, ⟨(hS.rd 50 rfl), ha.s2.nil, ha.s2.cap⟩, ⟨(hS.rd 49 rfl), ha.s3.nil, ha.s3.cap⟩, ⟨(hS.rd 48 rfl), ha.s4.nil, ha.s4.cap⟩⟩) hl ((hG3 (bne0 hb34) (bne0 hb49) (bne0 hb64) (bne0 hb157) (bne0 hb158) (bne0 hb159) (bne0 hb160) (bne0 hb161)).1)) ?_
                    rintro _ w163 ⟨rfl, hb162⟩
                    replace hS := hS.call hb162
                    refine ⟨_, rfl, ?_⟩
                    intro a hA
                    refine seq_do hA rfl rfl rfl (does_move rfl) ?_
                    intro a hA
                    refine seq_do (v := .agg #[.bool z10.1.b1, .slice p141_1 z10.1.t1.length p141_c1, .slice p141_2 z10.1.q1.length p141_c2, .bool z10.1.b2, .slice p141_3 z10.1.t2.length p141_c3, .slice p141_4 z10.1.q2.length p141_c4]) hA rfl rfl rfl (does_loadS hS BiT_isS_26 rfl 1 rfl (cs := [.bool z10.1.b1, .slice p141_1 z10.1.t1.length p141_c1, .slice p141_2 z10.1.q1.length p141_c2, .bool z10.1.b2, .slice p141_3 z10.1.t2.length p141_c3, .slice p141_4 z10.1.q2.length p141_c4]) rfl rfl) ?_
                    intro a hA
                    refine seq_do (v := .agg #[.bool z11.1.b1, .slice p149_1 z11.1.t1.length p149_c1, .slice p149_2 z11.1.q1.length p149_c2, .bool z11.1.b2, .slice p149_3 z11.1.t2.length p149_c3, .slice p149_4 z11.1.q2.length p149_c4]) hA rfl rfl rfl (does_loadS hS BiT_isS_26 rfl 0 rfl (cs := [.bool z11.1.b1, .slice p149_1 z11.1.t1.length p149_c1, .slice p149_2 z11.1.q1.length p149_c2, .bool z11.1.b2, .slice p149_3 z11.1.t2.length p149_c3, .slice p149_4 z11.1.q2.length p149_c4]) rfl rfl) ?_
                    intro a hA
                    refine seq_call hA rfl rfl rfl (enters_func  rfl rfl (fun w => by kernel_rfl)) (sameQ_any (show Nm _ z10.1 p141_1 p141_c1 p141_2 p141_c2 p141_3 p141_c3 p141_4 p141_c4 from ⟨⟨(hS.rd 7 rfl), hn142.s1.nil, hn142.s1.cap⟩, ⟨(hS.rd 6 rfl), hn142.s2.nil, hn142.s2.cap⟩, ⟨(hS.rd 5 rfl), hn142.s3.nil, hn142.s3.cap⟩, ⟨(hS.rd 4 rfl), hn142.s4.nil, hn142.s4.cap⟩⟩) l10 (show Nm _ z11.1 p149_1 p149_c1 p149_2 p149_c2 p149_3 p149_c3 p149_4 p149_c4 from ⟨⟨(hS.rd 3 rfl), hn150.s1.nil, hn150.s1.cap⟩, ⟨(hS.rd 2 rfl), hn150.s2.nil, hn150.s2.cap⟩, ⟨(hS.rd 1 rfl), hn150.s3.nil, hn150.s3.cap⟩, ⟨(hS.rd 0 rfl), hn150.s4.nil, hn150.s4.cap⟩⟩) l11 ((hG3 (bne0 hb34) (bne0 hb49) (bne0 hb64) (bne0 hb157) (bne0 hb158) (bne0 hb159) (bne0 hb160) (bne0 hb161)).2)) ?_
                    rintro _ w165 ⟨rfl, hb164⟩
                    replace hS := hS.call hb164
                    refine ⟨_, rfl, ?_⟩
                    intro a hA
                    refine seq_do (v := .bool true) hA rfl rfl rfl (does_pick rfl rfl rfl rfl) ?_
                    intro a hA
                    refine seq_do (v := .bool true) hA rfl rfl rfl (does_pick rfl rfl rfl rfl) ?_
                    intro a hA
                    refine seq_do hA rfl rfl rfl (does_assign rfl) ?_
                    intro a hA
                    refine seq_end ?_
                    refine hK156 _ _ ?_
                    refine wp_ret ?_
                    refine hret _ _ ?_
                    refine ends (v := .bool true) hA rfl (.cons (res_tmp rfl) .nil) rfl ?_
                    exact ⟨rfl, hS.bel⟩
        refine wp_region_lit ?_
        refine seq_do hA rfl rfl rfl (does_move rfl) ?_
        intro a hA
        refine seq_do hA rfl rfl rfl (does_move rfl) ?_
        intro a hA
        refine seq_do (v := .bool false) hA rfl rfl rfl (does_bin rfl rfl (fun w => (bin_neq w).trans (by rw [show ((z4.2 != z5.2)) = false from (bne_eq_false_iff_eq.2 (hG2 (bne0 hb34) (bne0 hb49) (bne0 hb64)).1)]))) ?_
        intro a hA
        refine seq_do hA rfl rfl rfl (does_move rfl) ?_
        intro a hA
        refine seq_do hA rfl rfl rfl (does_move rfl) ?_
        intro a hA
        rcases Bool.eq_false_or_eq_true ((z4.2 == 0)) with hb166 | hb166
        · have hb166' := eq_of_beq hb166
          refine seq_do (v := .bool true) hA rfl rfl rfl (does_bin rfl rfl (fun w => (bin_eql w).trans (by rw [hb166]))) ?_
          intro a hA
          refine seq_do hA rfl rfl rfl (does_move rfl) ?_
          intro a hA
          refine seq_do (v := .agg #[.bool z4.1.b1, .slice p80_1 z4.1.t1.length p80_c1, .slice p80_2 z4.1.q1.length p80_c2, .bool z4.1.b2, .slice p80_3 z4.1.t2.length p80_c3, .slice p80_4 z4.1.q2.length p80_c4]) hA rfl rfl rfl (does_loadS hS BiT_isS_26 rfl 2 rfl (cs := [.bool z4.1.b1, .slice p80_1 z4.1.t1.length p80_c1, .slice p80_2 z4.1.q1.length p80_c2, .bool z4.1.b2, .slice p80_3 z4.1.t2.length p80_c3, .slice p80_4 z4.1.q2.length p80_c4]) rfl rfl) ?_
          intro a hA
          refine seq_do (v := .agg #[.bool z5.1.b1, .slice p88_1 z5.1.t1.length p88_c1, .slice p88_2 z5.1.q1.length p88_c2, .bool z5.1.b2, .slice p88_3 z5.1.t2.length p88_c3, .slice p88_4 z5.1.q2.length p88_c4]) hA rfl rfl rfl (does_loadS hS BiT_isS_26 rfl 1 rfl (cs := [.bool z5.1.b1, .slice p88_1 z5.1.t1.length p88_c1, .slice p88_2 z5.1.q1.length p88_c2, .bool z5.1.b2, .slice p88_3 z5.1.t2.length p88_c3, .slice p88_4 z5.1.q2.length p88_c4]) rfl rfl) ?_
          intro a hA
          refine seq_call hA rfl rfl rfl (enters_func  rfl rfl (fun w => by kernel_rfl)) (sameQ_any (show Nm _ z4.1 p80_1 p80_c1 p80_2 p80_c2 p80_3 p80_c3 p80_4 p80_c4 from ⟨⟨(hS.rd 11 rfl), hn81.s1.nil, hn81.s1.cap⟩, ⟨(hS.rd 10 rfl), hn81.s2.nil, hn81.s2.cap⟩, ⟨(hS.rd 9 rfl), hn81.s3.nil, hn81.s3.cap⟩, ⟨(hS.rd 8 rfl), hn81.s4.nil, hn81.s4.cap⟩⟩) l4 (show Nm _ z5.1 p88_1 p88_c1 p88_2 p88_c2 p88_3 p88_c3 p88_4 p88_c4 from ⟨⟨(hS.rd 7 rfl), hn89.s1.nil, hn89.s1.cap⟩, ⟨(hS.rd 6 rfl), hn89.s2.nil, hn89.s2.cap⟩, ⟨(hS.rd 5 rfl), hn89.s3.nil, hn89.s3.cap⟩, ⟨(hS.rd 4 rfl), hn89.s4.nil, hn89.s4.cap⟩⟩) l5 (((hG2 (bne0 hb34) (bne0 hb49) (bne0 hb64)).2.1 (eq_of_beq hb166)))) ?_
          rintro _ w168 ⟨rfl, hb167⟩
          replace hS := hS.call hb167
          refine ⟨_, rfl, ?_⟩
          intro a hA
          refine seq_do (v := .bool false) hA rfl rfl rfl (does_un rfl un_not) ?_
          intro a hA
          refine seq_do (v := .bool false) hA rfl rfl rfl (does_pick rfl rfl rfl rfl) ?_
          intro a hA
          refine seq_do (v := .bool false) hA rfl rfl rfl (does_pick rfl rfl rfl rfl) ?_
          intro a hA
          refine seq_do hA rfl rfl rfl (does_move rfl) ?_
          intro a hA
          refine seq_do hA rfl rfl rfl (does_move rfl) ?_
          intro a hA
          rcases Bool.eq_false_or_eq_true ((z6.2 == 0)) with hb169 | hb169
          · have hb169' := eq_of_beq hb169
            refine seq_do (v := .bool true) hA rfl rfl rfl (does_bin rfl rfl (fun w => (bin_eql w).trans (by rw [hb169]))) ?_
            intro a hA
            refine seq_do hA rfl rfl rfl (does_move rfl) ?_
            intro a hA
            refine seq_do (v := .agg #[.bool z6.1.b1, .slice p96_1 z6.1.t1.length p96_c1, .slice p96_2 z6.1.q1.length p96_c2, .bool z6.1.b2, .slice p96_3 z6.1.t2.length p96_c3, .slice p96_4 z6.1.q2.length p96_c4]) hA rfl rfl rfl (does_loadS hS BiT_isS_26 rfl 0 rfl (cs := [.bool z6.1.b1, .slice p96_1 z6.1.t1.length p96_c1, .slice p96_2 z6.1.q1.length p96_c2, .bool z6.1.b2, .slice p96_3 z6.1.t2.length p96_c3, .slice p96_4 z6.1.q2.length p96_c4]) rfl rfl) ?_
            intro a hA
            refine seq_do (v := .agg #[.bool z3.1.b1, .slice p23_1 z3.1.t1.length p23_c1, .slice p23_2 z3.1.q1.length p23_c2, .bool z3.1.b2, .slice p23_3 z3.1.t2.length p23_c3, .slice p23_4 z3.1.q2.length p23_c4]) hA rfl rfl rfl (does_loadS hS BiT_isS_26 rfl 3 rfl (cs := [.bool z3.1.b1, .slice p23_1 z3.1.t1.length p23_c1, .slice p23_2 z3.1.q1.length p23_c2, .bool z3.1.b2, .slice p23_3 z3.1.t2.length p23_c3, .slice p23_4 z3.1.q2.length p23_c4]) rfl rfl) ?_
            intro a hA
            refine seq_call hA rfl rfl rfl (enters_func  rfl rfl (fun w => by kernel_rfl)) (sameQ_any (show Nm _ z6.1 p96_1 p96_c1 p96_2 p96_c2 p96_3 p96_c3 p96_4 p96_c4 from ⟨⟨(hS.rd 3 rfl), hn97.s1.nil, hn97.s1.cap⟩, ⟨(hS.rd 2 rfl), hn97.s2.nil, hn97.s2.cap⟩, ⟨(hS.rd 1 rfl), hn97.s3.nil, hn97.s3.cap⟩, ⟨(hS.rd 0 rfl), hn97.s4.nil, hn97.s4.cap⟩⟩) l6 (show Nm _ z3.1 p23_1 p23_c1 p23_2 p23_c2 p23_3 p23_c3 p23_4 p23_c4 from ⟨⟨(hS.rd 15 rfl), hn24.s1.nil, hn24.s1.cap⟩, ⟨(hS.rd 14 rfl), hn24.s2.nil, hn24.s2.cap⟩, ⟨(hS.rd 13 rfl), hn24.s3.nil, hn24.s3.cap⟩, ⟨(hS.rd 12 rfl), hn24.s4.nil, hn24.s4.cap⟩⟩) l3 (((hG2 (bne0 hb34) (bne0 hb49) (bne0 hb64)).2.2 (eq_of_beq hb169)))) ?_
            rintro _ w171 ⟨rfl, hb170⟩
            replace hS := hS.call hb170
            refine ⟨_, rfl, ?_⟩
            intro a hA
            refine seq_do (v := .bool false) hA rfl rfl rfl (does_un rfl un_not) ?_
            intro a hA
            refine seq_do (v := .bool false) hA rfl rfl rfl (does_pick rfl rfl rfl rfl) ?_
            intro a hA
            refine seq_do (v := .bool false) hA rfl rfl rfl (does_pick rfl rfl rfl rfl) ?_
            intro a hA
            refine seq_end ?_
            exact hJ114 _ _ ⟨hA.keep _ ⟨rfl, rfl, rfl, rfl, rfl, rfl, rfl, rfl, rfl, rfl, rfl, rfl, rfl, rfl, rfl, rfl, rfl, rfl, rfl, rfl, rfl, rfl, rfl, rfl, rfl, rfl, rfl, rfl, rfl, rfl, rfl, rfl, rfl, rfl, rfl, rfl, rfl, rfl, rfl, rfl, rfl, rfl, rfl, rfl, rfl, rfl, rfl, rfl, rfl, rfl, rfl, rfl, rfl, rfl, rfl, rfl, rfl, rfl, rfl, rfl, rfl, rfl, rfl, rfl, rfl, rfl, rfl, trivial⟩, hS⟩
          · have hb169' := ne_of_beq_false hb169
            refine seq_do (v := .bool false) hA rfl rfl rfl (does_bin rfl rfl (fun w => (bin_eql w).trans (by rw [hb169]))) ?_
            intro a hA
            refine seq_do hA rfl rfl rfl (does_move rfl) ?_
            intro a hA
            refine seq_skip hA rfl rfl rfl ?_
            intro a hA
            refine seq_skip hA rfl rfl rfl ?_
            intro a hA
            refine seq_skip hA rfl rfl rfl ?_
            intro a hA
            refine seq_skip hA rfl rfl rfl ?_
            intro a hA
            refine seq_do (v := .bool false) hA rfl rfl rfl (does_pick rfl rfl rfl rfl) ?_
            intro a hA
            refine seq_do (v := .bool false) hA rfl rfl rfl (does_pick rfl rfl rfl rfl) ?_
            intro a hA
            refine seq_end ?_
            exact hJ114 _ _ ⟨hA.keep _ ⟨rfl, rfl, rfl, rfl, rfl, rfl, rfl, rfl, rfl, rfl, rfl, rfl, rfl, rfl, rfl, rfl, rfl, rfl, rfl, rfl, rfl, rfl, rfl, rfl, rfl, rfl, rfl, rfl, rfl, rfl, rfl, rfl, rfl, rfl, rfl, rfl, rfl, rfl, rfl, rfl, rfl, rfl, rfl, rfl, rfl, rfl, rfl, rfl, rfl, rfl, rfl, rfl, rfl, rfl, rfl, rfl, rfl, rfl, rfl, rfl, rfl, rfl, rfl, rfl, rfl, rfl, rfl, trivial⟩, hS⟩
        · have hb166' := ne_of_beq_false hb166
          refine seq_do (v := .bool false) hA rfl rfl rfl (does_bin rfl rfl (fun w => (bin_eql w).trans (by rw [hb166]))) ?_
          intro a hA
          refine seq_do hA rfl rfl rfl (does_move rfl) ?_
          intro a hA
          refine seq_skip hA rfl rfl rfl ?_
          intro a hA
          refine seq_skip hA rfl rfl rfl ?_
          intro a hA
          refine seq_skip hA rfl rfl rfl ?_
          intro a hA
          refine seq_skip hA rfl rfl rfl ?_
          intro a hA
          refine seq_do (v := .bool false) hA rfl rfl rfl (does_pick rfl rfl rfl rfl) ?_
          intro a hA
          refine seq_do (v := .bool false) hA rfl rfl rfl (does_pick rfl rfl rfl rfl) ?_
          intro a hA
          refine seq_do hA rfl rfl rfl (does_move rfl) ?_
          intro a hA
          refine seq_do hA rfl rfl rfl (does_move rfl) ?_
          intro a hA
          rcases Bool.eq_false_or_eq_true ((z6.2 == 0)) with hb172 | hb172
          · have hb172' := eq_of_beq hb172
            refine seq_do (v := .bool true) hA rfl rfl rfl (does_bin rfl rfl (fun w => (bin_eql w).trans (by rw [hb172]))) ?_
            intro a hA
            refine seq_do hA rfl rfl rfl (does_move rfl) ?_
            intro a hA
            refine seq_do (v := .agg #[.bool z6.1.b1, .slice p96_1 z6.1.t1.length p96_c1, .slice p96_2 z6.1.q1.length p96_c2, .bool z6.1.b2, .slice p96_3 z6.1.t2.length p96_c3, .slice p96_4 z6.1.q2.length p96_c4]) hA rfl rfl rfl (does_loadS hS BiT_isS_26 rfl 0 rfl (cs := [.bool z6.1.b1, .slice p96_1 z6.1.t1.length p96_c1, .slice p96_2 z6.1.q1.length p96_c2, .bool z6.1.b2, .slice p96_3 z6.1.t2.length p96_c3, .slice p96_4 z6.1.q2.length p96_c4]) rfl rfl) ?_
            intro a hA
            refine seq_do (v := .agg #[.bool z3.1.b1, .slice p23_1 z3.1.t1.length p23_c1, .slice p23_2 z3.1.q1.length p23_c2, .bool z3.1.b2, .slice p23_3 z3.1.t2.length p23_c3, .slice p23_4 z3.1.q2.length p23_c4]) hA rfl rfl rfl (does_loadS hS BiT_isS_26 rfl 3 rfl (cs := [.bool z3.1.b1, .slice p23_1 z3.1.t1.length p23_c1, .slice p23_2 z3.1.q1.length p23_c2, .bool z3.1.b2, .slice p23_3 z3.1.t2.length p23_c3, .slice p23_4 z3.1.q2.length p23_c4]) rfl rfl) ?_
            intro a hA
            refine seq_call hA rfl rfl rfl (enters_func  rfl rfl (fun w => by kernel_rfl)) (sameQ_any (show Nm _ z6.1 p96_1 p96_c1 p96_2 p96_c2 p96_3 p96_c3 p96_4 p96_c4 from ⟨⟨(hS.rd 3 rfl), hn97.s1.nil, hn97.s1.cap⟩, ⟨(hS.rd 2 rfl), hn97.s2.nil, hn97.s2.cap⟩, ⟨(hS.rd 1 rfl), hn97.s3.nil, hn97.s3.cap⟩, ⟨(hS.rd 0 rfl), hn97.s4.nil, hn97.s4.cap⟩⟩) l6 (show Nm _ z3.1 p23_1 p23_c1 p23_2 p23_c2 p23_3 p23_c3 p23_4 p23_c4 from ⟨⟨(hS.rd 15 rfl), hn24.s1.nil, hn24.s1.cap⟩, ⟨(hS.rd 14 rfl), hn24.s2.nil, hn24.s2.cap⟩, ⟨(hS.rd 13 rfl), hn24.s3.nil, hn24.s3.cap⟩, ⟨(hS.rd 12 rfl), hn24.s4.nil, hn24.s4.cap⟩⟩) l3 (((hG2 (bne0 hb34) (bne0 hb49) (bne0 hb64)).2.2 (eq_of_beq hb172)))) ?_
            rintro _ w174 ⟨rfl, hb173⟩
            replace hS := hS.call hb173
            refine ⟨_, rfl, ?_⟩
            intro a hA
            refine seq_do (v := .bool false) hA rfl rfl rfl (does_un rfl un_not) ?_
            intro a hA
            refine seq_do (v := .bool false) hA rfl rfl rfl (does_pick rfl rfl rfl rfl) ?_
            intro a hA
            refine seq_do (v := .bool false) hA rfl rfl rfl (does_pick rfl rfl rfl rfl) ?_
            intro a hA
            refine seq_end ?_
            exact hJ114 _ _ ⟨hA.keep _ ⟨rfl, rfl, rfl, rfl, rfl, rfl, rfl, rfl, rfl, rfl, rfl, rfl, rfl, rfl, rfl, rfl, rfl, rfl, rfl, rfl, rfl, rfl, rfl, rfl, rfl, rfl, rfl, rfl, rfl, rfl, rfl, rfl, rfl, rfl, rfl, rfl, rfl, rfl, rfl, rfl, rfl, rfl, rfl, rfl, rfl, rfl, rfl, rfl, rfl, rfl, rfl, rfl, rfl, rfl, rfl, rfl, rfl, rfl, rfl, rfl, rfl, rfl, rfl, rfl, rfl, rfl, rfl, trivial⟩, hS⟩
          · have hb172' := ne_of_beq_false hb172
            refine seq_do (v := .bool false) hA rfl rfl rfl (does_bin rfl rfl (fun w => (bin_eql w).trans (by rw [hb172]))) ?_
            intro a hA
            refine seq_do hA rfl rfl rfl (does_move rfl) ?_
            intro a hA
            refine seq_skip hA rfl rfl rfl ?_
            intro a hA
            refine seq_skip hA rfl rfl rfl ?_
            intro a hA
            refine seq_skip hA rfl rfl rfl ?_
            intro a hA
            refine seq_skip hA rfl rfl rfl ?_
            intro a hA
            refine seq_do (v := .bool false) hA rfl rfl rfl (does_pick rfl rfl rfl rfl) ?_
            intro a hA
            refine seq_do (v := .bool false) hA rfl rfl rfl (does_pick rfl rfl rfl rfl) ?_
            intro a hA
            refine seq_end ?_
            exact hJ114 _ _ ⟨hA.keep _ ⟨rfl, rfl, rfl, rfl, rfl, rfl, rfl, rfl, rfl, rfl, rfl, rfl, rfl, rfl, rfl, rfl, rfl, rfl, rfl, rfl, rfl, rfl, rfl, rfl, rfl, rfl, rfl, rfl, rfl, rfl, rfl, rfl, rfl, rfl, rfl, rfl, rfl, rfl, rfl, rfl, rfl, rfl, rfl, rfl, rfl, rfl, rfl, rfl, rfl, rfl, rfl, rfl, rfl, rfl, rfl, rfl, rfl, rfl, rfl, rfl, rfl, rfl, rfl, rfl, rfl, rfl, rfl, trivial⟩, hS⟩
theorem bitsLaws_any {w : World} {p q : Q6} {a1 a2 a3 a4 : Option Addr} {ac1 ac2 ac3 ac4 : Nat} (ha : Nm w p a1 ac1 a2 ac2 a3 ac3 a4 ac4) (hl : LenQ p) {u1 u2 u3 u4 : Option Addr} {uc1 uc2 uc3 uc4 : Nat} (hb : Nm w q u1 uc1 u2 uc2 u3 uc3 u4 uc4) (hm : LenQ q) : Calls Try.prog 5 #[numV p a1 ac1 a2 ac2 a3 ac3 a4 ac4, numV q u1 uc1 u2 uc2 u3 uc3 u4 uc4] w fun e w' => e = .returned (.bool true) ∧ Below w.heap.size w w' := by
  have hw : (bitQ (fun x y => x &&& y) (fun b c => b && c) p q).2 = 0 → wholeQ p = true ∧ wholeQ q = true := fun h => by
    rcases want2_cases p q with ⟨_, h1, h2⟩ | hw
    · exact ⟨h1, h2⟩
    · rw [bitQ_err hw] at h
      exact absurd h (bne_iff_ne.1 hw)
  refine bitsW_any ha hl hb hm rfl (lenQ_bitQ _ _ _ _) rfl (lenQ_bitQ _ _ _ _) rfl (lenQ_bitQ _ _ _ _) rfl (lenQ_add _ _) rfl (lenQ_add _ _) rfl (lenQ_sub _ _) rfl (lenQ_notQ _) rfl (lenQ_notQ _) rfl (lenQ_notQ _) rfl (lenQ_bitQ _ _ _ _) rfl (lenQ_notQ _) ?_ ?_ ?_
  · rintro (h | h | h) h1 h2
    · exact bit_long and_op ha.s1.rd.dig ha.s4.rd.dig hb.s1.rd.dig hb.s4.rd.dig h h1 h2
    · exact bit_long or_op ha.s1.rd.dig ha.s4.rd.dig hb.s1.rd.dig hb.s4.rd.dig h h1 h2
    · exact bit_long xor_op ha.s1.rd.dig ha.s4.rd.dig hb.s1.rd.dig hb.s4.rd.dig h h1 h2
  · intro h1 h2 h3
    obtain ⟨w1, w2⟩ := hw h1
    obtain ⟨b1, x1, rfl, hx1, hb1⟩ := wholeOf ha w1
    obtain ⟨b2, x2, rfl, hx2, hb2⟩ := wholeOf hb w2
    exact (bits_facts hx1 hb1 hx2 hb2 rfl rfl rfl h1 h2 h3).1
  · intro h1 h2 h3
    obtain ⟨w1, w2⟩ := hw h1
    obtain ⟨b1, x1, rfl, hx1, hb1⟩ := wholeOf ha w1
    obtain ⟨b2, x2, rfl, hx2, hb2⟩ := wholeOf hb w2
    exact (bits_facts hx1 hb1 hx2 hb2 rfl rfl rfl h1 h2 h3).2
end Go.Proofs.Ytmibkfihcihphaa
namespace Go.Proofs.Ytmibkfihcihphaa
open Go.ChangeShapes Go.WideShapes Go.ChangeAt Go.RowKit Go.Joins Go.Deep
set_option linter.unusedVariables false
set_option linter.unusedSimpArgs false
set_option maxRecDepth 100000

section
variable {H : Type} {enc : TypeId × Value → H} {W : World}
theorem trod_bool {fuel : Nat} {v : Value} {x : DataW H × List MemPlace} (h : DataW.trod enc Try.prog W 0 (fun _ => true) true fuel 4 [v] = some x) : ∃ b, v = .bool b := by
  obtain ⟨b, h, _⟩ := DataW.trod_bool Try.underlying4 h
  exact ⟨b, by simpa using h⟩
theorem trod_words {fuel : Nat} {v : Value} {x : DataW H × List MemPlace} (h : DataW.trod enc Try.prog W 0 (fun _ => true) true fuel 22 [v] = some x) : ∃ ao c l, v = .slice ao l.length c ∧ Arg W ao c l := by
  rcases open_ints Try.underlying22 Try.underlying67 (by kernel_rfl) h with ⟨hcs, _⟩ | ⟨x, l, c, zs, hcs, _, hl, hm, hz, hx, hcell, hwz⟩
  · cases hcs
    exact ⟨none, 0, [], rfl, arg_nil W⟩
  · cases hcs
    obtain ⟨us, e, ha⟩ := arg_row hl hm (by simpa using hz) hcell hwz
    subst e
    exact ⟨_, _, us, rfl, ha⟩
theorem trod_rat {fuel : Nat} {v0 v1 v2 : Value} {x : DataW H × List MemPlace} (h : DataW.trod enc Try.prog W 0 (fun _ => true) true fuel 24 [v0, v1, v2] = some x) : ∃ b o1 c1 l1 o2 c2 l2, v0 = .bool b ∧ v1 = .slice o1 l1.length c1 ∧ v2 = .slice o2 l2.length c2 ∧ Arg W o1 c1 l1 ∧ Arg W o2 c2 l2 := by
  obtain ⟨y0, y1, y2, n, _, _, h0, h1, h2⟩ := trod_struct3 Try.underlying24 h
  have e0 : Try.prog.cellsOf 4 = 1 := by kernel_rfl
  have e1 : Try.prog.cellsOf 22 = 1 := by kernel_rfl
  simp only [e0, e1, List.drop_zero, List.take_succ_cons, List.take_zero, List.drop_succ_cons] at h0 h1 h2
  obtain ⟨b, rfl⟩ := trod_bool h0
  obtain ⟨o1, c1, l1, rfl, a1⟩ := trod_words h1
  obtain ⟨o2, c2, l2, rfl, a2⟩ := trod_words h2
  exact ⟨b, o1, c1, l1, o2, c2, l2, rfl, rfl, rfl, a1, a2⟩
theorem open_num {base : Nat} {v : Value} {d : DataW H} {p : List MemPlace} (hv : Value.okWide Try.prog W .any base 26 v) (h : DataW.Trod enc Try.prog W 0 (fun _ => true) true 26 v d p) :
    ∃ q o1 c1 o2 c2 o3 c3 o4 c4, v = numV q o1 c1 o2 c2 o3 c3 o4 c4 ∧ Nm W q o1 c1 o2 c2 o3 c3 o4 c4 ∧ LenQ q := by
  obtain ⟨cs, rfl, hsz⟩ := okWide_struct Try.underlying26 hv
  rw [show Try.prog.cellsOf 26 = 6 from by kernel_rfl] at hsz
  obtain ⟨cs⟩ := cs
  match cs, hsz with
  | [v0, v1, v2, v3, v4, v5], _ =>
    obtain ⟨fuel, hf⟩ := h
    obtain ⟨y0, y1, n, _, _, h0, h1⟩ := trod_struct2 Try.underlying26 hf
    have e : Try.prog.cellsOf 24 = 3 := by kernel_rfl
    simp only [Value.cells, e, List.drop_zero, List.take_succ_cons, List.take_zero, List.drop_succ_cons] at h0 h1
    obtain ⟨b1, o1, c1, l1, o2, c2, l2, rfl, rfl, rfl, a1, a2⟩ := trod_rat h0
    obtain ⟨b2, o3, c3, l3, o4, c4, l4, rfl, rfl, rfl, a3, a4⟩ := trod_rat h1
    exact ⟨⟨b1, l1, l2, b2, l3, l4⟩, o1, c1, o2, c2, o3, c3, o4, c4, rfl, ⟨⟨a1.rd, a1.nil, a1.caps⟩, ⟨a2.rd, a2.nil, a2.caps⟩, ⟨a3.rd, a3.nil, a3.caps⟩, ⟨a4.rd, a4.nil, a4.caps⟩⟩, ⟨a1.len, a2.len, a3.len, a4.len⟩⟩
end
end Go.Proofs.Ytmibkfihcihphaa
