/- A whole number of few bits, cut in two and put together again. Texts of numbers: how they are taken apart, by the program's way and by the document's, and that both ways are one. Steps over texts. Walks of whole numbers of any sign. Walks of numbers over one bottom. Walks of sums, differences, products and quotients. Walks of Add, Sub, Mul, Div. Walks of the text of minus three halves, and of the fixed fact. Walks of the functions that take a text of a number apart. The document's fractions as rational numbers. A number as an int of the machine, where it is one. Prefixes, and the values of what was taken apart. Walks of the functions that cut prefixes and parts off, and of their values. -/
import Derived.Test.YtjkpfnghiooblaaGreatDoorPwholen12d
import Derived.Test.YtjkpfnghiooblaaGreatDoorPwholen12c
import Derived.Test.YtjkpfnghiooblaaGreatDoorShelf
import Derived.Test.YtjkpfnghiooblaaGreatDoorArith
namespace Go.Proofs.YtjkpfnghiooblaaGreatDoor
open Go.RowKit
set_option linter.unusedVariables false
set_option linter.unusedSimpArgs false

theorem zla (d e a c : Nat) (hd : d < 4294967296) (he : e < 4294967296) : (d + 4294967296 * a) &&& (e + 4294967296 * c) = (d &&& e) + 4294967296 * (a &&& c) := by
  have hde : d &&& e < 2 ^ 32 := Nat.lt_of_le_of_lt Nat.and_le_left hd
  apply Nat.eq_of_testBit_eq
  intro j
  rw [Nat.testBit_and, Nat.add_comm d, Nat.add_comm e, Nat.add_comm (d &&& e)]
  rw [show (4294967296 : Nat) = 2 ^ 32 from rfl, Nat.testBit_two_pow_mul_add _ hd, Nat.testBit_two_pow_mul_add _ he, Nat.testBit_two_pow_mul_add _ hde]
  split
  · rw [Nat.testBit_and]
  · rw [Nat.testBit_and]
theorem zhb : ∀ (l m : List Nat), Dig l → Dig m → l.length = m.length → val (qnd (fun x y => x &&& y) l m) = val l &&& val m
  | [], [], _, _, _ => rfl
  | [], _ :: _, _, _, h => by simp at h
  | _ :: _, [], _, _, h => by simp at h
  | d :: l, e :: m, hl, hm, h => by
    have ih := zhb l m (fun x hx => hl x (by simp [hx])) (fun x hx => hm x (by simp [hx])) (by simpa using h)
    show (d &&& e) + 4294967296 * val (qnd _ l m) = _
    rw [ih]
    exact (zla d e (val l) (val m) (hl d (by simp)) (hm e (by simp))).symm
theorem zlb {A B k : Nat} (hA : 2 ^ k ∣ A) (hB : B < 2 ^ k) : A &&& B = 0 := by
  obtain ⟨t, rfl⟩ := hA
  apply Nat.eq_of_testBit_eq
  intro j
  rw [Nat.testBit_and, Nat.zero_testBit, Nat.testBit_two_pow_mul]
  by_cases hj : k ≤ j
  · rw [Nat.testBit_lt_two_pow (Nat.lt_of_lt_of_le hB (Nat.pow_le_pow_right (by decide) hj)), Bool.and_false]
  · rw [decide_eq_false (show ¬ j ≥ k from hj), Bool.false_and, Bool.false_and]
theorem zqd {b : Bool} {y z : Nat} (h : vv b y = vv b z) : y = z := by
  unfold vv at h
  cases b <;> simp at h <;> omega
/-- What is a multiple of 2 ^ k, and what is below: Or is the sum. -/
theorem zqe {b : Bool} {y F k : Nat} {t : Int} (hy : vv b y = ((2 ^ k : Nat) : Int) * t) (hF : F < 2 ^ k) : vv b (xd (fun x y => x ||| y) (fun b c => b || c) b y false F) = vv b y + F := by
  have h1 := (zqa b y false F).1
  have h2 := zxh zod (b1 := b) (y1 := y) (b2 := false) (y2 := F)
  generalize hn : max (words y).length (words F).length = n at h2
  have hly : (words y).length ≤ n := by omega
  have hlF : (words F).length ≤ n := by omega
  have k4 := ul (b := b) hly
  have k5 := ul (b := false) hlF
  have d4 := yt b y n
  rw [zhb _ _ d4 (yt false F n) (by rw [vn, vn])] at h2
  have eF : val (ko false F n) = F := by
    have : vv false F = ((F : Nat) : Int) := rfl
    rw [this] at k5
    simp at k5
    omega
  have hlt := val_lt d4
  rw [vn] at hlt
  have hdv : 2 ^ k ∣ val (ko b y n) := by
    have e : ((val (ko b y n) : Nat) : Int) = ((2 ^ k : Nat) : Int) * t + ((b.toNat * pw n : Nat) : Int) := by rw [← hy, k4]; omega
    by_cases hk : k ≤ 32 * n
    · have : pw n = 2 ^ k * 2 ^ (32 * n - k) := by rw [pw_two, ← Nat.pow_add]; congr 1; omega
      refine Int.natCast_dvd_natCast.1 ⟨t + ((b.toNat * 2 ^ (32 * n - k) : Nat) : Int), ?_⟩
      rw [e, this, Int.mul_add, ← Int.natCast_mul, Nat.mul_left_comm]
    · have h3 : 2 ^ k = 2 ^ (32 * n) * 2 ^ (k - 32 * n) := by rw [← Nat.pow_add]; congr 1; omega
      have h4 : pw n ∣ val (ko b y n) := by
        refine Int.natCast_dvd_natCast.1 ⟨((2 ^ (k - 32 * n) : Nat) : Int) * t + ((b.toNat : Nat) : Int), ?_⟩
        rw [e, h3, pw_two, Int.mul_add, Int.natCast_mul, Int.natCast_mul, Int.mul_assoc, Int.mul_comm ((b.toNat : Nat) : Int)]
      have h5 : val (ko b y n) = 0 := Nat.eq_zero_of_dvd_of_lt h4 hlt
      rw [h5]
      exact Nat.dvd_zero _
  rw [eF, zlb hdv hF, Bool.and_false] at h2
  rw [Bool.and_false, Bool.or_false] at h1
  have h6 : vv false F = ((F : Nat) : Int) := rfl
  have h7 : vv false (xd (fun x y => x &&& y) (fun b c => b && c) b y false F) = 0 := by rw [h2]; simp
  rw [h7, h6] at h1
  omega
theorem qyg {b : Bool} {x : Nat} (hx : (words x).length ≤ 512) (hb : b.toNat ≤ x) (hbl : bl (x - b.toNat) ≤ 500) :
    ∃ F X2 X3 : Nat, ky (Q6.whole b x) 0 100 = (Q6.whole false F, 0) ∧ vd (Q6.whole b x) (-100) = (Q6.whole b X2, 0) ∧ vd (Q6.whole b X2) 100 = (Q6.whole b X3, 0) ∧
      kl (fun x y => x ||| y) (fun b c => b || c) (Q6.whole b X3) (Q6.whole false F) = (Q6.whole b x, 0) ∧ kr (Q6.whole b X3) (Q6.whole false F) = (Q6.whole b x, 0) ∧
      (words F).length ≤ 512 ∧ (words X2).length ≤ 512 ∧ (words X3).length ≤ 512 ∧ b.toNat ≤ X2 ∧ b.toNat ≤ X3 := by
  obtain ⟨K, hK⟩ : ∃ K, K = 100 := ⟨_, rfl⟩
  obtain ⟨P, hP⟩ : ∃ P, P = 2 ^ K := ⟨_, rfl⟩
  have hP0 : 0 < P := by rw [hP]; exact Nat.two_pow_pos K
  obtain ⟨E, hE⟩ : ∃ E, E = 500 := ⟨_, rfl⟩
  rw [← hE] at hbl
  have hy : x - b.toNat < 2 ^ E := bl_le.1 hbl
  have hw := qci hx hb
  have lF : fld b (x - b.toNat) 0 K < P := by rw [hP]; exact zcj b (x - b.toNat) 0 K
  have hbig : ∀ {n}, n < 2 ^ (E + 2) → (words n).length ≤ 512 := fun {n} h => by
    obtain ⟨M, hM⟩ : ∃ M, M = 17 := ⟨_, rfl⟩
    refine Nat.le_trans (words_length_le (k := M) ?_) (by omega)
    rw [pw_two]
    exact Nat.lt_of_lt_of_le h (Nat.pow_le_pow_right (by decide) (by omega))
  have p501 : (2 : Nat) ^ (E + 1) = 2 * 2 ^ E := by rw [Nat.pow_succ, Nat.mul_comm]
  have p502 : (2 : Nat) ^ (E + 2) = 2 * 2 ^ (E + 1) := by rw [Nat.pow_succ, Nat.mul_comm]
  have hPs : P ≤ 2 ^ E := by rw [hP, hK]; exact Nat.pow_le_pow_right (by decide) (by omega)
  have hD := Nat.div_mul_le_self (x - b.toNat) P
  have hDl := Nat.div_le_self (x - b.toNat) P
  generalize hDe : (x - b.toNat) / P = D at hD hDl
  have hbt : b.toNat ≤ 1 := by cases b <;> decide
  have hm : (D + b.toNat) * P ≤ x - b.toNat + P := by
    rw [Nat.add_mul]
    have : b.toNat * P ≤ 1 * P := Nat.mul_le_mul_right P hbt
    omega
  have hb3 : b.toNat ≤ (D + b.toNat) * P := by
    have : 1 * b.toNat ≤ P * (D + b.toNat) := Nat.mul_le_mul hP0 (Nat.le_add_left _ _)
    rw [Nat.mul_comm P] at this
    omega
  generalize hZ : (2 : Nat) ^ E = Z at hy hPs p501
  have l2 : (words (D + b.toNat)).length ≤ 512 := hbig (by omega)
  have l3 : (words ((D + b.toNat) * P)).length ≤ 512 := hbig (by omega)
  have l5 : (words (fld b (x - b.toNat) 0 K)).length ≤ 512 := hbig (by omega)
  have e5 : ky (Q6.whole b x) 0 100 = (Q6.whole false (fld b (x - b.toNat) 0 K), 0) := by
    have := qed (S := 0) (E := 100) hw (by omega) (by omega)
    rw [hK]
    exact this
  have e2 : vd (Q6.whole b x) (-100) = (Q6.whole b (D + b.toNat), 0) := by
    unfold vd
    rw [if_pos hw, if_neg (by omega), if_pos (by omega)]
    simp only [Q6.whole, val_words]
    rw [show (-(-100 : Int)).toNat = K from by rw [hK]; rfl, ← hP, hDe, yf l2]
    rfl
  have e3 : vd (Q6.whole b (D + b.toNat)) 100 = (Q6.whole b ((D + b.toNat) * P), 0) := by
    unfold vd
    rw [if_pos (qci l2 (Nat.le_add_left _ _)), if_neg (by omega), if_neg (by omega)]
    simp only [Q6.whole, val_words]
    rw [show (100 : Int).toNat = K from by rw [hK]; rfl, ← hP, yf l3]
    rfl
  have hv : vv b (x - b.toNat) = ((P : Nat) : Int) * vv b D + ((fld b (x - b.toNat) 0 K : Nat) : Int) := by
    have d1 := zqc b (x - b.toNat) K
    have d2 := qyf b (x - b.toNat) K
    rw [← hP] at d1 d2
    rw [hDe] at d1
    rw [← d1, ← d2]
    exact (Int.mul_ediv_add_emod _ _).symm
  have hU : vv b ((D + b.toNat) * P - b.toNat) = ((P : Nat) : Int) * vv b D := by
    rw [qnf hb3, ← zpg b D]
    unfold sgn
    cases b <;> simp <;> grind
  have hor := zqe (b := b) (y := (D + b.toNat) * P - b.toNat) (F := fld b (x - b.toNat) 0 K) (k := K) (t := vv b D) (by rw [hU, hP]) (by rw [← hP]; exact lF)
  rw [hU, ← hv] at hor
  have hput := zqd hor
  have eo : kl (fun x y => x ||| y) (fun b c => b || c) (Q6.whole b ((D + b.toNat) * P)) (Q6.whole false (fld b (x - b.toNat) 0 K)) = (Q6.whole b x, 0) := by
    rw [qmj (qye l3 hb3 l5 (by simp))]
    simp only [Bool.or_false]
    rw [show fld b (x - b.toNat) 0 K - false.toNat = fld b (x - b.toNat) 0 K from rfl, hput, show x - b.toNat + b.toNat = x from by omega, yf hx]
  have ea : kr (Q6.whole b ((D + b.toNat) * P)) (Q6.whole false (fld b (x - b.toNat) 0 K)) = (Q6.whole b x, 0) := by
    rw [qee hb3, qee (b := false) (x := fld b (x - b.toNat) 0 K) (by simp), qya (qaf l3) yn (qaf l5) yn]
    have e9 : ((sgn b ((D + b.toNat) * P) : Int) : Rat) + ((sgn false (fld b (x - b.toNat) 0 K) : Int) : Rat) = ((sgn b x : Int) : Rat) := by
      rw [← Rat.intCast_add, ← qnf hb3, hU, ← qnf hb, hv]
      rfl
    rw [e9, show (0 : Rat) + 0 = 0 from by grind, zqb hb, yf hx]
  exact ⟨_, _, _, e5, e2, e3, eo, ea, l5, l2, l3, Nat.le_add_left _ _, hb3⟩
def bsL (l : List UInt8) : ByteArray := ⟨l.toArray⟩
theorem bsL_of (s : ByteArray) : bsL s.data.toList = s := by unfold bsL; cases s; simp
theorem xj (l : List UInt8) : (bsL l).size = l.length := by unfold bsL; simp [ByteArray.size]
theorem qhf (l : List UInt8) : (bsL l).data.toList = l := by unfold bsL; simp
theorem zdc (a b : List UInt8) : bsL a ++ bsL b = bsL (a ++ b) := by
 apply ByteArray.ext
 rw [ByteArray.data_append]
 simp [bsL]
def btL (l : List UInt8) (i : Nat) : Nat := (l.getD i 0).toNat
theorem zqf (l : List UInt8) (i : Nat) : btL l i < 256 := UInt8.toNat_lt _
theorem qng (l : List UInt8) (i : Nat) : byteAt (bsL l) i = btL l i := by
 unfold byteAt btL
 rw [qhf, List.getD_eq_getElem?_getD, List.getD_eq_getElem?_getD, List.getElem?_map]
 cases l[i]? <;> simp
theorem zxj {l : List UInt8} {i : Nat} (h : l.length ≤ i) : btL l i = 0 := by
 unfold btL
 rw [List.getD_eq_getElem?_getD, List.getElem?_eq_none h]
 rfl
theorem btL_in {l : List UInt8} {i : Nat} (h : btL l i ≠ 0) : i < l.length := by
 rcases Nat.lt_or_ge i l.length with k | k
 ·
  exact k
 ·
  exact absurd (zxj k) h
def qbh (r : Nat) (b : UInt8) : Bool := decide (dvn 36 b.toNat < r)
def nDg (r : Nat) : List UInt8 → Nat
 | [] => 0
 | b :: t => if qbh r b then nDg r t + 1 else 0
theorem qcj (r : Nat) : ∀ l : List UInt8, nDg r l ≤ l.length
 | [] => by simp [nDg]
 | b :: t => by
  have := qcj r t
  simp only [nDg, List.length_cons]
  split <;> omega
theorem zdd (r : Nat) : ∀ (l : List UInt8) (i : Nat), i < nDg r l → dvn 36 (btL l i) < r
 | [], i, h => by simp [nDg] at h
 | b :: t, i, h => by
  simp only [nDg] at h
  by_cases hb : qbh r b = true
  ·
   rw [if_pos hb] at h
   cases i with
   | zero => exact of_decide_eq_true hb
   | succ i =>
    have := zdd r t i (by omega)
    simpa [btL] using this
  ·
   rw [if_neg hb] at h; omega
theorem zhc (r : Nat) : ∀ (l : List UInt8), nDg r l < l.length → ¬ dvn 36 (btL l (nDg r l)) < r
 | [], h => by simp at h
 | b :: t, h => by
  simp only [nDg] at h ⊢
  by_cases hb : qbh r b = true
  ·
   rw [if_pos hb] at h ⊢
   have := zhc r t (by simpa using h)
   simpa [btL] using this
  ·
   rw [if_neg hb] at h ⊢
   exact of_decide_eq_false (show decide (dvn 36 (btL (b :: t) 0) < r) = false from Bool.eq_false_iff.2 hb)
theorem zqg {r : Nat} {l : List UInt8} {i : Nat} (h : i ≤ nDg r l) (hl : i < l.length) (hd : dvn 36 (btL l i) < r) : i + 1 ≤ nDg r l := by
 rcases Nat.lt_or_ge i (nDg r l) with k | k
 ·
  exact k
 ·
  have e : i = nDg r l := by omega
  subst e
  exact absurd hd (zhc r l hl)
theorem qyh {r : Nat} {l : List UInt8} {i : Nat} (h : i ≤ nDg r l) (hd : l.length ≤ i ∨ ¬ dvn 36 (btL l i) < r) : i = nDg r l := by
 have h1 := qcj r l
 rcases Nat.lt_or_ge i (nDg r l) with k | k
 ·
  rcases hd with hd | hd
  ·
   omega
  ·
   exact absurd (zdd r l i k) hd
 ·
  omega
theorem qag {r : Nat} {a b : List UInt8} (ha : ∀ x ∈ a, qbh r x = true) (hb : nDg r b = 0) : nDg r (a ++ b) = a.length := by
 induction a with
 | nil => simpa using hb
 | cons x t ih =>
  simp only [List.cons_append, nDg, List.length_cons]
  rw [if_pos (ha x (by simp)), ih (fun y hy => ha y (by simp [hy]))]
theorem qud {r : Nat} {b : UInt8} {t : List UInt8} (h : qbh r b = false) : nDg r (b :: t) = 0 := by simp [nDg, h]
def jj (l : List UInt8) : Bool := decide (l = [105]) || decide (l = [73])
def zj (l : List UInt8) : Bool := decide (btL l 0 = 43) || decide (btL l 0 = 45)
def sgB (l : List UInt8) : Nat := if zj l then btL l 0 else 0
def unS (l : List UInt8) : List UInt8 := if zj l then l.drop 1 else l
def tpD (r : Nat) (l : List UInt8) : List UInt8 := (unS l).take (nDg r (unS l))
def qD (r : Nat) (l : List UInt8) : List UInt8 := (unS l).drop (nDg r (unS l))
def slD (r : Nat) (l : List UInt8) : Bool := decide (nDg r (unS l) ≠ 0) && (decide (btL (qD r l) 0 = 47) && decide (nDg r ((qD r l).drop 1) ≠ 0))
def boD (r : Nat) (l : List UInt8) : List UInt8 := if slD r l then ((qD r l).drop 1).take (nDg r ((qD r l).drop 1)) else []
def reD (r : Nat) (l : List UInt8) : List UInt8 := if slD r l then ((qD r l).drop 1).drop (nDg r ((qD r l).drop 1)) else qD r l
abbrev Nl := Nat × List UInt8 × List UInt8
def nlD (r : Nat) (l : List UInt8) : Nl := (sgB l, tpD r l, boD r l)
def nl0 : Nl := (0, [48], [])
def okP (r : Nat) (l : List UInt8) : Bool :=
 if reD r l = [] then decide (tpD r l ≠ []) else if jj (reD r l) then zj l else decide (tpD r l ≠ []) && (zj (reD r l) && jj (reD r (reD r l)))
def reP (r : Nat) (l : List UInt8) : Nl := if reD r l = [] then nlD r l else if jj (reD r l) then nl0 else nlD r l
def imP (r : Nat) (l : List UInt8) : Nl := if reD r l = [] then nl0 else if jj (reD r l) then nlD r l else nlD r (reD r l)
/-- What digits tell (nothing: 1), and an error's number. -/
def rdE (r : Nat) (l : List UInt8) : Int := if l = [] then 0 else (readS (bsL l) (r : Int)).2
def zi (r : Nat) (l : List UInt8) : Nat := if l = [] then 1 else tval r (bsL l) l.length
theorem qyi {r : Nat} {l : List UInt8} (h : (readS (bsL l) (r : Int)).2 = 0) : readS (bsL l) (r : Int) = (words (tval r (bsL l) l.length), 0) ∧ (words (tval r (bsL l) l.length)).length ≤ 512 := by
 unfold readS at h ⊢
 rw [Int.toNat_natCast, xj] at h ⊢
 split at h
 ·
  split at h
  ·
   split at h
   ·
    rename_i h1 h2 h3
    rw [if_pos h1, if_pos h2, if_pos h3]
    unfold fitS at h ⊢
    split at h
    ·
     rename_i h4
     rw [if_pos h4]
     exact ⟨rfl, h4⟩
    ·
     cases h
   ·
    cases h
  ·
   cases h
 ·
  cases h
theorem zlc {r : Nat} {l : List UInt8} (h : (readS (bsL l) (r : Int)).2 ≠ 0) : readS (bsL l) (r : Int) = ([], (readS (bsL l) (r : Int)).2) := by
 unfold readS at h ⊢
 rw [Int.toNat_natCast, xj] at h ⊢
 split at h
 ·
  rename_i h1
  rw [if_pos h1]
  split at h
  ·
   rename_i h2
   rw [if_pos h2]
   split at h
   ·
    rename_i h3
    rw [if_pos h3]
    unfold fitS at h ⊢
    split at h
    ·
     exact absurd rfl h
    ·
     rename_i h4; rw [if_neg h4]
   ·
    rename_i h3; rw [if_neg h3]
  ·
   rename_i h2; rw [if_neg h2]
 ·
  rename_i h1; rw [if_neg h1]
theorem zld {r : Nat} (hr : 2 ≤ r) (hr2 : r ≤ 36) {l : List UInt8} (h0 : l ≠ []) (hd : ∀ i, i < l.length → dvn 36 (btL l i) < r) : (readS (bsL l) (r : Int)).2 = 0 ∨ (readS (bsL l) (r : Int)).2 = 4 := by
 have e1 : decide ((2 : Int) ≤ (r : Int) ∧ (r : Int) ≤ 36) = true := decide_eq_true (by omega)
 have e2 : numeralS r (bsL l) = true := (numeralS_iff r _).2 ⟨by rw [xj]; intro k; exact h0 (List.length_eq_zero_iff.1 k), fun i hi => by rw [qng]; exact hd i (by rw [xj] at hi; exact hi)⟩
 unfold readS
 rw [if_pos e1, Int.toNat_natCast, if_pos e2]
 split
 ·
  unfold fitS
  split
  ·
   exact Or.inl rfl
  ·
   exact Or.inr rfl
 ·
  exact Or.inr rfl
def xw (r : Nat) (n : Nl) : Int := if rdE r n.2.1 ≠ 0 then rdE r n.2.1 else rdE r n.2.2
def qhg (r : Nat) (n : Nl) : Rat := mkRat (sgn (decide (n.1 = 45)) (zi r n.2.1)) (zi r n.2.2)
def ve (r : Nat) (n m : Nl) : Q6 × Int :=
 if xw r n ≠ 0 ∨ xw r m ≠ 0 then (Q6.zero, 4) else if zi r n.2.2 = 0 ∨ zi r m.2.2 = 0 then (Q6.zero, 3) else (Q6.rat (qhg r n) (qhg r m), 0)
def xh (c : Nat) : Nat := if c = 98 ∨ c = 66 then 2 else if c = 111 ∨ c = 79 then 8 else if c = 100 ∨ c = 68 then 10 else if c = 120 ∨ c = 88 then 16 else 0
/-- What stands behind the prefixes, and the radix there. -/
def jw : Bool → Bool → Nat → List UInt8 → List UInt8 × Nat
 | told, ex, r, a :: c :: t =>
  if a.toNat = 35 then
   (if xh c.toNat ≠ 0 ∧ told = false then jw true ex (xh c.toNat) t
    else if (c.toNat = 101 ∨ c.toNat = 69) ∧ ex = false then jw told true r t
    else (a :: c :: t, r))
  else (a :: c :: t, r)
 | _, _, r, [a] => ([a], r)
 | _, _, r, [] => ([], r)
def vh (n : Int) : Bool := decide (n = 2) || (decide (n = 8) || (decide (n = 10) || decide (n = 16)))
def qbe (l : List UInt8) (radix : Int) : Q6 × Int :=
 if vh radix then
  (if okP (jw false false radix.toNat l).2 (jw false false radix.toNat l).1 then
   (if l.length ≤ 16384 then ve (jw false false radix.toNat l).2 (reP (jw false false radix.toNat l).2 (jw false false radix.toNat l).1) (imP (jw false false radix.toNat l).2 (jw false false radix.toNat l).1) else (Q6.zero, 4))
   else (Q6.zero, 5))
 else (Q6.zero, 1)
def RadN (r : Nat) : Prop := r = 2 ∨ r = 8 ∨ r = 10 ∨ r = 16
theorem zde {n : Int} (h : vh n = true) : ∃ r : Nat, n = (r : Int) ∧ RadN r := by
 unfold vh at h
 simp only [Bool.or_eq_true, decide_eq_true_eq] at h
 rcases h with h | h | h | h
 ·
  exact ⟨2, h, .inl rfl⟩
 ·
  exact ⟨8, h, .inr (.inl rfl)⟩
 ·
  exact ⟨10, h, .inr (.inr (.inl rfl))⟩
 ·
  exact ⟨16, h, .inr (.inr (.inr rfl))⟩
theorem zqh {c : Nat} (h : xh c ≠ 0) : RadN (xh c) := by
 unfold xh at h ⊢
 unfold RadN
 repeat (split; first | simp_all | skip)
 all_goals simp_all
theorem zqi {r : Nat} (hr : RadN r) : ∀ (told ex : Bool) (l : List UInt8), RadN (jw told ex r l).2 := by
 intro told ex l
 induction told, ex, r, l using jw.induct with
 | case1 told ex r a c t h1 h2 ih => unfold jw; rw [if_pos h1, if_pos h2]; exact ih (zqh h2.1)
 | case2 told ex r a c t h1 h2 h3 ih => unfold jw; rw [if_pos h1, if_neg h2, if_pos h3]; exact ih hr
 | case3 told ex r a c t h1 h2 h3 => unfold jw; rw [if_pos h1, if_neg h2, if_neg h3]; exact hr
 | case4 told ex r a c t h1 => unfold jw; rw [if_neg h1]; exact hr
 | case5 => unfold jw; exact hr
 | case6 => unfold jw; exact hr
theorem zqj : ∀ (told ex : Bool) (r : Nat) (l : List UInt8), (jw told ex r l).1.length ≤ l.length := by
 intro told ex r l
 induction told, ex, r, l using jw.induct with
 | case1 told ex r a c t h1 h2 ih => unfold jw; rw [if_pos h1, if_pos h2]; simp only [List.length_cons]; omega
 | case2 told ex r a c t h1 h2 h3 ih => unfold jw; rw [if_pos h1, if_neg h2, if_pos h3]; simp only [List.length_cons]; omega
 | case3 told ex r a c t h1 h2 h3 => unfold jw; rw [if_pos h1, if_neg h2, if_neg h3]; exact Nat.le_refl _
 | case4 told ex r a c t h1 => unfold jw; rw [if_neg h1]; exact Nat.le_refl _
 | case5 => unfold jw; exact Nat.le_refl _
 | case6 => unfold jw; exact Nat.le_refl _
section
variable {P : Program} {l : List (Nat × Value)} {dst : Option Tmp} {ty t : TypeId} {pos : String} {after : Array Edge} {guard : Option (Nat × Bool)} {w : World} {x y z : Operand} {s : List UInt8}
theorem qii (ht : P.underlying t = some .string) (hx : ev l x = some (.string (bsL s))) : Does P l ⟨dst, .call ⟨.builtin .len, #[x], #[t]⟩, ty, pos, after, guard⟩ w (.int .i64 ((s.length : Nat) : Int)) w := fun ρ h => by
 have := h x _ hx
 rw [← xj]
 simp [go_sem, this, Builtin.len_, run_underlying ht, goInt]
theorem xk {i : Nat} {k : Int} (ht : P.underlying t = some .string) (hx : ev l x = some (.string (bsL s))) (hy : ev l y = some (.int .i64 k)) (hk : k = ((i : Nat) : Int)) (hi : i < s.length) : Does P l ⟨dst, .index t x y, ty, pos, after, guard⟩ w (.int .u8 ((btL s i : Nat) : Int)) w := fun ρ h => by
 subst hk
 have := run_index_string (P := P) w t (bsL s) .i64 ((i : Nat) : Int) ht
 have hi' : i < (bsL s).size := by rw [xj]; exact hi
 have e : btL s i = ((bsL s)[i]'hi').toNat := by rw [← qng, byteAt_eq _ _ hi']
 rw [e]
 simp [execOp, h x _ hx, h y _ hy, this, hi']
theorem qyj (s : List UInt8) (a b : Nat) (hb : b ≤ s.length) : (bsL s).extract a b = bsL ((s.take b).drop a) := by
 apply ByteArray.ext
 rw [ByteArray.data_extract]
 simp [bsL, List.drop_take]
theorem jl {p : Nat} {k : Int} (ht : P.underlying t = some .string) (hx : ev l x = some (.string (bsL s))) (hy : ev l y = some (.int .i64 k)) (hk : k = ((p : Nat) : Int)) (hp : p ≤ s.length) : Does P l ⟨dst, .slice t x (some y) none none, ty, pos, after, guard⟩ w (.string (bsL (s.drop p))) w := fun ρ h => by
 subst hk
 have e : bsL (s.drop p) = (bsL s).extract p (bsL s).size := by rw [xj, qyj _ _ _ (Nat.le_refl _), List.take_length]
 rw [e]
 have h0 : p ≤ (bsL s).size := by rw [xj]; exact hp
 have h1 : (0 : Int) ≤ (p : Nat) ∧ ((p : Nat) : Int) ≤ ((bsL s).size : Int) := ⟨by omega, by omega⟩
 simp [execOp, h x _ hx, h y _ hy, Instr.sliceAt, Instr.slice, Instr.sliceBounds, Instr.sliceBound, asIntOf, run_underlying ht, h1]
 try (intro hc; omega)
theorem qef {p : Nat} {k : Int} (ht : P.underlying t = some .string) (hx : ev l x = some (.string (bsL s))) (hy : ev l y = some (.int .i64 k)) (hk : k = ((p : Nat) : Int)) (hp : p ≤ s.length) : Does P l ⟨dst, .slice t x none (some y) none, ty, pos, after, guard⟩ w (.string (bsL (s.take p))) w := fun ρ h => by
 subst hk
 have e : bsL (s.take p) = (bsL s).extract 0 p := by rw [qyj _ _ _ hp, List.drop_zero]
 rw [e]
 have h0 : p ≤ (bsL s).size := by rw [xj]; exact hp
 have h1 : (0 : Int) ≤ (p : Nat) ∧ ((p : Nat) : Int) ≤ ((bsL s).size : Int) := ⟨by omega, by omega⟩
 simp [execOp, h x _ hx, h y _ hy, Instr.sliceAt, Instr.slice, Instr.sliceBounds, Instr.sliceBound, asIntOf, run_underlying ht, h1]
 try (intro hc; omega)
variable {a b : List UInt8}
theorem beq_T (a b : List UInt8) : ((bsL a).toList == (bsL b).toList) = decide (a = b) := by
 rw [ByteArray.toList_eq, ByteArray.toList_eq, qhf, qhf]
 by_cases h : a = b
 ·
  subst h; simp
 ·
  rw [decide_eq_false h]; exact beq_false_of_ne h
theorem zu (hu : P.underlying t = some .string) : ∀ w, (do eqGuard .eql t x y (.string (bsL a)) (.string (bsL b)); binOp .eql t (.string (bsL a)) (.string (bsL b)) : Sem Value).run P w = .ok (.bool (decide (a = b))) w := fun w => by
 rw [← beq_T]
 simp [go_sem, hu, run_underlying hu]
theorem um (hu : P.underlying t = some .string) : ∀ w, (do eqGuard .neq t x y (.string (bsL a)) (.string (bsL b)); binOp .neq t (.string (bsL a)) (.string (bsL b)) : Sem Value).run P w = .ok (.bool (!(decide (a = b)))) w := fun w => by
 rw [← beq_T]
 simp [go_sem, hu, run_underlying hu]
theorem un (hm : a.length + b.length ≤ 9223372036854775807) : ∀ w, (do eqGuard .add t x y (.string (bsL a)) (.string (bsL b)); binOp .add t (.string (bsL a)) (.string (bsL b)) : Sem Value).run P w = .ok (.string (bsL (a ++ b))) w := fun w => by
 rw [← zdc]
 have h1 : (bsL a).size + (bsL b).size ≤ 9223372036854775807 := by rw [xj, xj]; exact hm
 simp [go_sem]
 exact h1
end
theorem mv {P : Program} {w : World} {Q : Exit → Act → World → Prop} {a : Act} {n d : Nat} {l : List (Nat × Value)} {ops rest : List Oper} {x : Operand} {ty : TypeId} {pos : String} {after : Array Edge} {guard : Option (Nat × Bool)} {v : Value} (A : Sl a n l) (hg : zr l ops ⟨some d, .move x, ty, pos, after, guard⟩ = true) (hd : Nat.blt d n = true) (hx : ev l x = some v) (hk : ∀ a', Sl a' n ((d, v) :: l) → wpList P ops.toArray Q rest a' w) : wpList P ops.toArray Q (⟨some d, .move x, ty, pos, after, guard⟩ :: rest) a w := kv A hg rfl hd (qz hx) hk
/-! ### Is a byte a digit? -/
def zdf : List UInt8 := [48, 49, 50, 51, 52, 53, 54, 55, 56, 57, 97, 98, 99, 100, 101, 102]
def zdg : List UInt8 := [48, 49, 50, 51, 52, 53, 54, 55, 56, 57, 65, 66, 67, 68, 69, 70]
theorem zya : ∀ r ∈ [2, 8, 10, 16], ∀ b : Fin 256, (decide (0 ≤ Lib.indexByte (zdf.take r) (b.val.toUInt8)) || decide (0 ≤ Lib.indexByte (zdg.take r) (b.val.toUInt8))) = decide (dvn 36 b.val < r) := by decide +kernel
theorem que {r : Nat} (hr : RadN r) {b : Nat} (hb : b < 256) : (decide (0 ≤ Lib.indexByte (zdf.take r) (b.toUInt8)) || decide (0 ≤ Lib.indexByte (zdg.take r) (b.toUInt8))) = decide (dvn 36 b < r) := by
 refine zya r ?_ ⟨b, hb⟩
 rcases hr with h | h | h | h <;> subst h <;> decide
theorem qnh (s : List UInt8) (b : Nat) (w : World) : Calls Tryz.prog 217 #[.string (bsL s), .int .u8 ((b : Nat) : Int)] w fun e w' => e = .returned (.int .i64 (Lib.indexByte s b.toUInt8)) ∧ w' = w := by
 have h := Tryz.strings_IndexByte (bsL s) ((b : Nat) : Int) w
 rw [qhf, Int.toNat_natCast] at h
 exact h
set_option maxRecDepth 100000
theorem ExI_is1_22 : Is1 Tryz.prog 22 := ⟨⟨_, Tryz.underlying22, rfl⟩, by kernel_rfl⟩
theorem ExI_is1_4 : Is1 Tryz.prog 4 := ⟨⟨_, Tryz.underlying4, rfl⟩, by kernel_rfl⟩
theorem ExI_fld_132_0 : FieldAt Tryz.prog 132 0 0 := ⟨_, _, Tryz.underlying132, rfl, rfl, by kernel_rfl⟩
theorem ExI_fld_132_1 : FieldAt Tryz.prog 132 1 1 := ⟨_, _, Tryz.underlying132, rfl, rfl, by kernel_rfl⟩
theorem ExI_isS_132 : IsS Tryz.prog 132 2 := ⟨⟨_, Tryz.underlying132⟩, by kernel_rfl⟩
theorem ExI_isS_24 : IsS Tryz.prog 24 3 := ⟨⟨_, Tryz.underlying24⟩, by kernel_rfl⟩
theorem xy {w : World} {b : Bool} {n : Nat} {z : Int} {so : Option Addr} {c : Nat} (hs : Sc w so c (words n)) (hz : sgn b n = z) : Calls Tryz.prog 127 #[.bool b, .slice so (words n).length c] w (AnsZ w z) := by
 cases b
 ·
  have V : St w w [] [(so, words n)] [] := (St.start w).addR hs.rd
  refine qy (l := [(0, .bool false), (1, .slice so ((words n).length) c)]) Tryz.func127 rfl Tryz.ntmps127 rfl rfl ?_
  intro Q hret hnorm hP a A
  refine wsk fun K1 hK1 => wrl (qn (vs := [.bool false, .slice none 0 0]) (t := 132) A V rfl rfl rfl pg (ql (z := .agg #[.bool false, .slice none 0 0]) (by kernel_rfl) rfl) rfl ?_)
  intro g2 w3 V a A
  refine qa (hK1 _ _ (wsk fun K4 hK4 => wrl ?_))
  iterate 2 refine sdm A λa A↦?_
  iterate 3 refine ze A rfl rfl rfl λa A↦?_
  refine sdk (v := .bool false) A λa A↦?_
  refine sdm A λa A↦?_
  refine sdo (v := .agg #[.bool false, .slice so ((words n).length) c]) A (za rfl (fun w => by kernel_rfl)) λa A↦?_
  refine qr (us := [.bool false, .slice so ((words n).length) c]) A V rfl rfl (qi rfl rfl rfl (by kernel_rfl) V 0 rfl rfl rfl) 0 rfl rfl rfl rfl ?_
  intro w5 V
  refine qa (hK4 _ _ (wp_ret (hret _ _ (en1 A rfl (qx V ExI_isS_132 rfl 0 rfl (cs := [.bool false, .slice so ((words n).length) c]) rfl rfl) ?_))))
  exact AnsZ.sgn hz (by simp [rb, sgn]) ⟨(V.rd 0 rfl), hs.nil, hs.cap⟩ V.bel
 ·
  have V : St w w [] [(so, words n)] [] := (St.start w).addR hs.rd
  refine qy (l := [(0, .bool true), (1, .slice so ((words n).length) c)]) Tryz.func127 rfl Tryz.ntmps127 rfl rfl ?_
  intro Q hret hnorm hP a A
  refine wsk fun K1 hK1 => wrl (qn (vs := [.bool false, .slice none 0 0]) (t := 132) A V rfl rfl rfl pg (ql (z := .agg #[.bool false, .slice none 0 0]) (by kernel_rfl) rfl) rfl ?_)
  intro g2 w3 V a A
  refine qa (hK1 _ _ (wsk fun K4 hK4 => wrl ?_))
  iterate 3 refine sdm A λa A↦?_
  refine sdo A (zg Tryz.underlying22 rfl) λa A↦?_
  rcases tf (decide (0 < (((words n).length : Nat) : Int))) with hb5 | hb5
  ·
   have hb5' := of_decide_eq_true hb5
   refine sdo (v := .bool true) A (qe rfl rfl (fun w => (ju w).trans (by rw [hb5]))) λa A↦?_
   refine sdk (v := .bool true) A λa A↦?_
   refine sdm A λa A↦?_
   refine sdo (v := .agg #[.bool true, .slice so ((words n).length) c]) A (za rfl (fun w => by kernel_rfl)) λa A↦?_
   refine qr (us := [.bool true, .slice so ((words n).length) c]) A V rfl rfl (qi rfl rfl rfl (by kernel_rfl) V 0 rfl rfl rfl) 0 rfl rfl rfl rfl ?_
   intro w6 V
   refine qa (hK4 _ _ (wp_ret (hret _ _ (en1 A rfl (qx V ExI_isS_132 rfl 0 rfl (cs := [.bool true, .slice so ((words n).length) c]) rfl rfl) ?_))))
   exact AnsZ.sgn hz (by have h9 := qfe n; simp only [rb, sgn]; apply decide_eq_true; simp; omega) ⟨(V.rd 0 rfl), hs.nil, hs.cap⟩ V.bel
  ·
   have hb5' := of_decide_eq_false hb5
   refine sdo (v := .bool false) A (qe rfl rfl (fun w => (ju w).trans (by rw [hb5]))) λa A↦?_
   refine sdk (v := .bool false) A λa A↦?_
   refine sdm A λa A↦?_
   refine sdo (v := .agg #[.bool false, .slice so ((words n).length) c]) A (za rfl (fun w => by kernel_rfl)) λa A↦?_
   refine qr (us := [.bool false, .slice so ((words n).length) c]) A V rfl rfl (qi rfl rfl rfl (by kernel_rfl) V 0 rfl rfl rfl) 0 rfl rfl rfl rfl ?_
   intro w7 V
   refine qa (hK4 _ _ (wp_ret (hret _ _ (en1 A rfl (qx V ExI_isS_132 rfl 0 rfl (cs := [.bool false, .slice so ((words n).length) c]) rfl rfl) ?_))))
   exact AnsZ.sgn hz (by have h9 := qfe n; simp only [rb, sgn]; apply decide_eq_false; simp; omega) ⟨(V.rd 0 rfl), hs.nil, hs.cap⟩ V.bel
theorem zdh {w : World} {x y : Int} {so : Option Addr} {soc : Nat} (hso : Sc w so soc (words x.natAbs)) {uo : Option Addr} {uoc : Nat} (huo : Sc w uo uoc (words y.natAbs)) (lx : (words x.natAbs).length ≤ 50000) (ly : (words y.natAbs).length ≤ 50000) : Calls Tryz.prog 128 #[.agg #[.bool (rb x), .slice so (words x.natAbs).length soc], .agg #[.bool (rb y), .slice uo (words y.natAbs).length uoc]] w (AnsZ w (x * y)) := by
 have V : St w w [] [(uo, words y.natAbs), (so, words x.natAbs)] [] := ((St.start w).addR hso.rd).addR huo.rd
 refine qy (l := [(0, .agg #[.bool ((rb x)), .slice so ((words x.natAbs).length) soc]), (1, .agg #[.bool ((rb y)), .slice uo ((words y.natAbs).length) uoc])]) Tryz.func128 rfl Tryz.ntmps128 rfl rfl ?_
 intro Q hret hnorm hP a A
 refine wsk fun K1 hK1 => wrl (qn A V rfl rfl rfl pg (qw rfl rfl) rfl ?_)
 intro g2 w3 V a A
 refine qn A V rfl rfl rfl pg (qw rfl rfl) rfl ?_
 intro g4 w5 V a A
 refine qn (vs := [.bool false, .slice none 0 0]) (t := 132) A V rfl rfl rfl pg (ql (z := .agg #[.bool false, .slice none 0 0]) (by kernel_rfl) rfl) rfl ?_
 intro g6 w7 V a A
 refine qa (hK1 _ _ (wsk fun K8 hK8 => jc (S := fun w1 => St w w1 [(g4, [.bool ((rb y)), .slice uo ((words y.natAbs).length) uoc]), (g2, [.bool ((rb x)), .slice so ((words x.natAbs).length) soc])] [(uo, words y.natAbs), (so, words x.natAbs)] []) (by kernel_rfl) ?_))
 replace V := V.drew
 refine qh (v := .pointer (some ⟨g2, 0, none⟩)) A 0 rfl rfl rfl rfl hP (V.partD (.cons _ (.cons_cons _ (.cons_cons _ .slnil))) 0 rfl (.refl _)) (fun w1 V => qf ExI_fld_132_0 rfl rfl) λa A↦?_
 refine qh A 1 rfl rfl rfl rfl hP (V.partD (.cons _ (.cons_cons _ (.cons_cons _ .slnil))) 0 rfl (.refl _)) (fun w1 V => qs V ExI_is1_4 rfl 1 rfl rfl) λa A↦?_
 refine qh (v := .pointer (some ⟨g4, 0, none⟩)) A 2 rfl rfl rfl rfl hP (V.partD (.cons _ (.cons_cons _ (.cons_cons _ .slnil))) 0 rfl (.refl _)) (fun w1 V => qf ExI_fld_132_0 rfl rfl) λa A↦?_
 refine qh A 3 rfl rfl rfl rfl hP (V.partD (.cons _ (.cons_cons _ (.cons_cons _ .slnil))) 0 rfl (.refl _)) (fun w1 V => qs V ExI_is1_4 rfl 0 rfl rfl) λa A↦?_
 refine qh (v := .bool (!((rb x) == (rb y)))) A 4 rfl rfl rfl rfl hP (V.partD (.cons _ (.cons_cons _ (.cons_cons _ .slnil))) 0 rfl (.refl _)) (fun w1 V => qe rfl rfl (qwf Tryz.underlying4)) λa A↦?_
 refine qh (v := .pointer (some ⟨g2, 1, none⟩)) A 5 rfl rfl rfl rfl hP (V.partD (.cons _ (.cons_cons _ (.cons_cons _ .slnil))) 0 rfl (.refl _)) (fun w1 V => qf ExI_fld_132_1 rfl rfl) λa A↦?_
 refine qh A 6 rfl rfl rfl rfl hP (V.partD (.cons _ (.cons_cons _ (.cons_cons _ .slnil))) 0 rfl (.refl _)) (fun w1 V => qs V ExI_is1_22 rfl 1 rfl rfl) λa A↦?_
 refine qh (v := .pointer (some ⟨g4, 1, none⟩)) A 7 rfl rfl rfl rfl hP (V.partD (.cons _ (.cons_cons _ (.cons_cons _ .slnil))) 0 rfl (.refl _)) (fun w1 V => qf ExI_fld_132_1 rfl rfl) λa A↦?_
 refine qh A 8 rfl rfl rfl rfl hP (V.partD (.cons _ (.cons_cons _ (.cons_cons _ .slnil))) 0 rfl (.refl _)) (fun w1 V => qs V ExI_is1_22 rfl 0 rfl rfl) λa A↦?_
 refine qt (by kernel_rfl) (zf A 9 rfl rfl rfl rfl (qb  rfl rfl (fun w => by kernel_rfl)) (product_any _ _ (V.rd 1 rfl) (V.rd 0 rfl) (by omega) (by omega)) ?_)
 rintro _ w13 ⟨ro9, rc10, rfl, ho11, hb12⟩
 replace V := V.call hb12
 replace V := V.addR ho11.rd
 refine ⟨_, rfl, (V.partD (.cons _ (.cons_cons _ (.cons_cons _ .slnil))) 1 rfl (.refl _)), ?_⟩
 intro a A
 refine qt (by kernel_rfl) (zf A 10 rfl rfl rfl rfl (qb  rfl rfl (fun w => by kernel_rfl)) (xy (b := !(rb x == rb y)) (n := x.natAbs * y.natAbs) (z := x * y) ⟨(V.rd 0 rfl), ho11.nocap, ho11.caps⟩ (zoa x y)) ?_)
 rintro _ w18 ⟨zo14, zc15, rfl, hs16, hb17⟩
 replace V := V.call hb17
 replace V := V.addR hs16.rd
 refine ⟨_, rfl, (V.partD (.cons _ (.cons_cons _ (.cons_cons _ .slnil))) 2 rfl (.refl _)), ?_⟩
 intro a A
 refine qt (by kernel_rfl) (zp (us := [.bool ((rb (x * y))), .slice zo14 ((words (x * y).natAbs).length) zc15]) A V 11 rfl rfl rfl (qi rfl rfl rfl (by kernel_rfl) V 0 rfl rfl rfl) 0 rfl rfl rfl rfl ?_)
 intro w19 V
 refine ⟨(V.partD (.cons _ (.cons_cons _ (.cons_cons _ .slnil))) 2 rfl (.refl _)), ?_⟩
 refine zn (by kernel_rfl) ?_
 refine hK8 _ _ (wp_ret (hret _ _ (en1 A rfl (qx V ExI_isS_132 rfl 0 rfl (cs := [.bool ((rb (x * y))), .slice zo14 ((words (x * y).natAbs).length) zc15]) rfl rfl) ?_)))
 exact ⟨_, _, rfl, ⟨(V.rd 0 rfl), hs16.nil, hs16.cap⟩, V.bel⟩
theorem qrf {w : World} {x y : Int} {so : Option Addr} {soc : Nat} (hso : Sc w so soc (words x.natAbs)) {uo : Option Addr} {uoc : Nat} (huo : Sc w uo uoc (words y.natAbs)) (lx : (words x.natAbs).length ≤ 50000) (ly : (words y.natAbs).length ≤ 50000) : Calls Tryz.prog 87 #[.agg #[.bool (rb x), .slice so (words x.natAbs).length soc], .agg #[.bool (rb y), .slice uo (words y.natAbs).length uoc]] w (AnsZ w (x + y)) := by
 have V : St w w [] [(uo, words y.natAbs), (so, words x.natAbs)] [] := ((St.start w).addR hso.rd).addR huo.rd
 refine qy (l := [(0, .agg #[.bool ((rb x)), .slice so ((words x.natAbs).length) soc]), (1, .agg #[.bool ((rb y)), .slice uo ((words y.natAbs).length) uoc])]) Tryz.func87 rfl Tryz.ntmps87 rfl rfl ?_
 intro Q hret hnorm hP a A
 refine wsk fun K1 hK1 => wrl (qn A V rfl rfl rfl pg (qw rfl rfl) rfl ?_)
 intro g2 w3 V a A
 refine qn A V rfl rfl rfl pg (qw rfl rfl) rfl ?_
 intro g4 w5 V a A
 refine qn (vs := [.bool false, .slice none 0 0]) (t := 132) A V rfl rfl rfl pg (ql (z := .agg #[.bool false, .slice none 0 0]) (by kernel_rfl) rfl) rfl ?_
 intro g6 w7 V a A
 refine qa (hK1 _ _ (wsk fun K8 hK8 => wsk fun K9 hK9 => wrl (sdo (v := .pointer (some ⟨g2, 0, none⟩)) A (qf ExI_fld_132_0 rfl rfl) λa A↦?_)))
 refine sdo A (qs V ExI_is1_4 rfl 2 rfl rfl) λa A↦?_
 refine sdo (v := .pointer (some ⟨g4, 0, none⟩)) A (qf ExI_fld_132_0 rfl rfl) λa A↦?_
 refine sdo A (qs V ExI_is1_4 rfl 1 rfl rfl) λa A↦?_
 rcases tf (((rb x) == (rb y))) with hb10 | hb10
 ·
  have hb10' := eq_of_beq hb10
  refine sdo (v := .bool true) A (qe rfl rfl (fun w => ((qcc Tryz.underlying4) w).trans (by rw [hb10]))) λa A↦?_
  refine qa (hK9 _ _ (wp_cond_true (A.ev rfl) ?_))
  refine wsk fun K11 hK11 => jc (S := fun w1 => St w w1 [(g4, [.bool ((rb y)), .slice uo ((words y.natAbs).length) uoc]), (g2, [.bool ((rb x)), .slice so ((words x.natAbs).length) soc])] [(uo, words y.natAbs), (so, words x.natAbs)] []) (by kernel_rfl) ?_
  replace V := V.drew
  refine qh (v := .pointer (some ⟨g2, 0, none⟩)) A 0 rfl rfl rfl rfl hP (V.partD (.cons _ (.cons_cons _ (.cons_cons _ .slnil))) 0 rfl (.refl _)) (fun w1 V => qf ExI_fld_132_0 rfl rfl) λa A↦?_
  refine qh A 1 rfl rfl rfl rfl hP (V.partD (.cons _ (.cons_cons _ (.cons_cons _ .slnil))) 0 rfl (.refl _)) (fun w1 V => qs V ExI_is1_4 rfl 1 rfl rfl) λa A↦?_
  refine qh (v := .pointer (some ⟨g2, 1, none⟩)) A 2 rfl rfl rfl rfl hP (V.partD (.cons _ (.cons_cons _ (.cons_cons _ .slnil))) 0 rfl (.refl _)) (fun w1 V => qf ExI_fld_132_1 rfl rfl) λa A↦?_
  refine qh A 3 rfl rfl rfl rfl hP (V.partD (.cons _ (.cons_cons _ (.cons_cons _ .slnil))) 0 rfl (.refl _)) (fun w1 V => qs V ExI_is1_22 rfl 1 rfl rfl) λa A↦?_
  refine qh (v := .pointer (some ⟨g4, 1, none⟩)) A 4 rfl rfl rfl rfl hP (V.partD (.cons _ (.cons_cons _ (.cons_cons _ .slnil))) 0 rfl (.refl _)) (fun w1 V => qf ExI_fld_132_1 rfl rfl) λa A↦?_
  refine qh A 5 rfl rfl rfl rfl hP (V.partD (.cons _ (.cons_cons _ (.cons_cons _ .slnil))) 0 rfl (.refl _)) (fun w1 V => qs V ExI_is1_22 rfl 0 rfl rfl) λa A↦?_
  refine qt (by kernel_rfl) (zf A 6 rfl rfl rfl rfl (qb  rfl rfl (fun w => by kernel_rfl)) (sum_any _ _ (V.rd 1 rfl) (V.rd 0 rfl) (by omega) (by omega)) ?_)
  rintro _ w16 ⟨ro12, rc13, rfl, ho14, hb15⟩
  replace V := V.call hb15
  replace V := V.addR ho14.rd
  refine ⟨_, rfl, (V.partD (.cons _ (.cons_cons _ (.cons_cons _ .slnil))) 1 rfl (.refl _)), ?_⟩
  intro a A
  refine qt (by kernel_rfl) (zf A 7 rfl rfl rfl rfl (qb  rfl rfl (fun w => by kernel_rfl)) (xy (b := rb x) (n := x.natAbs + y.natAbs) (z := x + y) ⟨(V.rd 0 rfl), ho14.nocap, ho14.caps⟩ (zs_add hb10)) ?_)
  rintro _ w21 ⟨zo17, zc18, rfl, hs19, hb20⟩
  replace V := V.call hb20
  replace V := V.addR hs19.rd
  refine ⟨_, rfl, (V.partD (.cons _ (.cons_cons _ (.cons_cons _ .slnil))) 2 rfl (.refl _)), ?_⟩
  intro a A
  refine qt (by kernel_rfl) (zp (us := [.bool ((rb (x + y))), .slice zo17 ((words (x + y).natAbs).length) zc18]) A V 8 rfl rfl rfl (qi rfl rfl rfl (by kernel_rfl) V 0 rfl rfl rfl) 0 rfl rfl rfl rfl ?_)
  intro w22 V
  refine ⟨(V.partD (.cons _ (.cons_cons _ (.cons_cons _ .slnil))) 2 rfl (.refl _)), ?_⟩
  refine zn (by kernel_rfl) ?_
  refine hK11 _ _ (wp_ret (hret _ _ (en1 A rfl (qx V ExI_isS_132 rfl 0 rfl (cs := [.bool ((rb (x + y))), .slice zo17 ((words (x + y).natAbs).length) zc18]) rfl rfl) ?_)))
  exact ⟨_, _, rfl, ⟨(V.rd 0 rfl), hs19.nil, hs19.cap⟩, V.bel⟩
 ·
  have hb10' := ne_of_beq_false hb10
  refine sdo (v := .bool false) A (qe rfl rfl (fun w => ((qcc Tryz.underlying4) w).trans (by rw [hb10]))) λa A↦?_
  refine qa (hK9 _ _ (wp_cond_false (A.ev rfl) ?_))
  refine wp_skip (hK8 _ _ (wsk fun K23 hK23 => wsk fun K24 hK24 => wrl (sdo (v := .pointer (some ⟨g2, 1, none⟩)) A (qf ExI_fld_132_1 rfl rfl) λa A↦?_)))
  refine sdo A (qs V ExI_is1_22 rfl 2 rfl rfl) λa A↦?_
  refine sdo (v := .pointer (some ⟨g4, 1, none⟩)) A (qf ExI_fld_132_1 rfl rfl) λa A↦?_
  refine sdo A (qs V ExI_is1_22 rfl 1 rfl rfl) λa A↦?_
  rcases tf (decide (x.natAbs < y.natAbs)) with hb25 | hb25
  ·
   have hb25' := of_decide_eq_true hb25
   refine qg A rfl rfl rfl (qb  rfl rfl (fun w => by kernel_rfl)) (order_any _ _ (V.rd 1 rfl) (V.rd 0 rfl) (by omega) (by omega)) ?_
   rintro _ w27 ⟨rfl, hb26⟩
   replace V := V.call hb26
   refine ⟨_, rfl, ?_⟩
   intro a A
   refine sdo (v := .bool true) A (qe rfl rfl (fun w => (zt w).trans (by rw [show (decide (cmpN x.natAbs y.natAbs < 0)) = true from (by have h9 := of_decide_eq_true hb25; apply decide_eq_true; unfold cmpN; split <;> (try split) <;> omega)]))) λa A↦?_
   refine qa (hK24 _ _ (wp_cond_true (A.ev rfl) ?_))
   refine wrl (sdo A (qk V ExI_isS_132 rfl 1 rfl (cs := [.bool ((rb y)), .slice uo ((words y.natAbs).length) uoc]) rfl rfl) λa A↦?_)
   refine sdo A (qk V ExI_isS_132 rfl 2 rfl (cs := [.bool ((rb x)), .slice so ((words x.natAbs).length) soc]) rfl rfl) λa A↦?_
   refine qr (us := [.bool ((rb y)), .slice uo ((words y.natAbs).length) uoc]) A V rfl rfl (qi rfl rfl rfl (by kernel_rfl) V 2 rfl rfl rfl) 2 rfl rfl rfl rfl ?_
   intro w28 V
   refine qr (us := [.bool ((rb x)), .slice so ((words x.natAbs).length) soc]) A V rfl rfl (qi rfl rfl rfl (by kernel_rfl) V 1 rfl rfl rfl) 1 rfl rfl rfl rfl ?_
   intro w29 V
   refine qa (hK23 _ _ (wsk fun K30 hK30 => jc (S := fun w1 => St w w1 [(g4, [.bool ((rb x)), .slice so ((words x.natAbs).length) soc]), (g2, [.bool ((rb y)), .slice uo ((words y.natAbs).length) uoc])] [(uo, words y.natAbs), (so, words x.natAbs)] []) (by kernel_rfl) ?_))
   replace V := V.drew
   refine qh (v := .pointer (some ⟨g2, 0, none⟩)) A 0 rfl rfl rfl rfl hP (V.partD (.cons _ (.cons_cons _ (.cons_cons _ .slnil))) 0 rfl (.refl _)) (fun w1 V => qf ExI_fld_132_0 rfl rfl) λa A↦?_
   refine qh A 1 rfl rfl rfl rfl hP (V.partD (.cons _ (.cons_cons _ (.cons_cons _ .slnil))) 0 rfl (.refl _)) (fun w1 V => qs V ExI_is1_4 rfl 1 rfl rfl) λa A↦?_
   refine qh (v := .pointer (some ⟨g2, 1, none⟩)) A 2 rfl rfl rfl rfl hP (V.partD (.cons _ (.cons_cons _ (.cons_cons _ .slnil))) 0 rfl (.refl _)) (fun w1 V => qf ExI_fld_132_1 rfl rfl) λa A↦?_
   refine qh A 3 rfl rfl rfl rfl hP (V.partD (.cons _ (.cons_cons _ (.cons_cons _ .slnil))) 0 rfl (.refl _)) (fun w1 V => qs V ExI_is1_22 rfl 1 rfl rfl) λa A↦?_
   refine qh (v := .pointer (some ⟨g4, 1, none⟩)) A 4 rfl rfl rfl rfl hP (V.partD (.cons _ (.cons_cons _ (.cons_cons _ .slnil))) 0 rfl (.refl _)) (fun w1 V => qf ExI_fld_132_1 rfl rfl) λa A↦?_
   refine qh A 5 rfl rfl rfl rfl hP (V.partD (.cons _ (.cons_cons _ (.cons_cons _ .slnil))) 0 rfl (.refl _)) (fun w1 V => qs V ExI_is1_22 rfl 0 rfl rfl) λa A↦?_
   refine qt (by kernel_rfl) (zf A 6 rfl rfl rfl rfl (qb  rfl rfl (fun w => by kernel_rfl)) (difference_any _ _ (V.rd 0 rfl) (V.rd 1 rfl) (by omega) (by omega)) ?_)
   rintro _ w35 ⟨ro31, rc32, rfl, ho33, hb34⟩
   replace V := V.call hb34
   replace V := V.addR ho33.rd
   refine ⟨_, rfl, (V.partD (.cons _ (.cons_cons _ (.cons_cons _ .slnil))) 1 rfl (.refl _)), ?_⟩
   intro a A
   refine qt (by kernel_rfl) (zf A 7 rfl rfl rfl rfl (qb  rfl rfl (fun w => by kernel_rfl)) (xy (b := rb y) (n := y.natAbs - x.natAbs) (z := x + y) ⟨(V.rd 0 rfl), ho33.nocap, ho33.caps⟩ (by rw [Int.add_comm]; exact znj (by rw [Bool.beq_comm]; exact hb10) (by omega))) ?_)
   rintro _ w40 ⟨zo36, zc37, rfl, hs38, hb39⟩
   replace V := V.call hb39
   replace V := V.addR hs38.rd
   refine ⟨_, rfl, (V.partD (.cons _ (.cons_cons _ (.cons_cons _ .slnil))) 2 rfl (.refl _)), ?_⟩
   intro a A
   refine qt (by kernel_rfl) (zp (us := [.bool ((rb (x + y))), .slice zo36 ((words (x + y).natAbs).length) zc37]) A V 8 rfl rfl rfl (qi rfl rfl rfl (by kernel_rfl) V 0 rfl rfl rfl) 0 rfl rfl rfl rfl ?_)
   intro w41 V
   refine ⟨(V.partD (.cons _ (.cons_cons _ (.cons_cons _ .slnil))) 2 rfl (.refl _)), ?_⟩
   refine zn (by kernel_rfl) ?_
   refine hK30 _ _ (wp_ret (hret _ _ (en1 A rfl (qx V ExI_isS_132 rfl 0 rfl (cs := [.bool ((rb (x + y))), .slice zo36 ((words (x + y).natAbs).length) zc37]) rfl rfl) ?_)))
   exact ⟨_, _, rfl, ⟨(V.rd 0 rfl), hs38.nil, hs38.cap⟩, V.bel⟩
  ·
   have hb25' := of_decide_eq_false hb25
   refine qg A rfl rfl rfl (qb  rfl rfl (fun w => by kernel_rfl)) (order_any _ _ (V.rd 1 rfl) (V.rd 0 rfl) (by omega) (by omega)) ?_
   rintro _ w43 ⟨rfl, hb42⟩
   replace V := V.call hb42
   refine ⟨_, rfl, ?_⟩
   intro a A
   refine sdo (v := .bool false) A (qe rfl rfl (fun w => (zt w).trans (by rw [show (decide (cmpN x.natAbs y.natAbs < 0)) = false from (by have h9 := of_decide_eq_false hb25; apply decide_eq_false; unfold cmpN; split <;> (try split) <;> omega)]))) λa A↦?_
   refine qa (hK24 _ _ (wp_cond_false (A.ev rfl) ?_))
   refine wp_skip (hK23 _ _ (wsk fun K44 hK44 => jc (S := fun w1 => St w w1 [(g4, [.bool ((rb y)), .slice uo ((words y.natAbs).length) uoc]), (g2, [.bool ((rb x)), .slice so ((words x.natAbs).length) soc])] [(uo, words y.natAbs), (so, words x.natAbs)] []) (by kernel_rfl) ?_))
   replace V := V.drew
   refine qh (v := .pointer (some ⟨g2, 0, none⟩)) A 0 rfl rfl rfl rfl hP (V.partD (.cons _ (.cons_cons _ (.cons_cons _ .slnil))) 0 rfl (.refl _)) (fun w1 V => qf ExI_fld_132_0 rfl rfl) λa A↦?_
   refine qh A 1 rfl rfl rfl rfl hP (V.partD (.cons _ (.cons_cons _ (.cons_cons _ .slnil))) 0 rfl (.refl _)) (fun w1 V => qs V ExI_is1_4 rfl 1 rfl rfl) λa A↦?_
   refine qh (v := .pointer (some ⟨g2, 1, none⟩)) A 2 rfl rfl rfl rfl hP (V.partD (.cons _ (.cons_cons _ (.cons_cons _ .slnil))) 0 rfl (.refl _)) (fun w1 V => qf ExI_fld_132_1 rfl rfl) λa A↦?_
   refine qh A 3 rfl rfl rfl rfl hP (V.partD (.cons _ (.cons_cons _ (.cons_cons _ .slnil))) 0 rfl (.refl _)) (fun w1 V => qs V ExI_is1_22 rfl 1 rfl rfl) λa A↦?_
   refine qh (v := .pointer (some ⟨g4, 1, none⟩)) A 4 rfl rfl rfl rfl hP (V.partD (.cons _ (.cons_cons _ (.cons_cons _ .slnil))) 0 rfl (.refl _)) (fun w1 V => qf ExI_fld_132_1 rfl rfl) λa A↦?_
   refine qh A 5 rfl rfl rfl rfl hP (V.partD (.cons _ (.cons_cons _ (.cons_cons _ .slnil))) 0 rfl (.refl _)) (fun w1 V => qs V ExI_is1_22 rfl 0 rfl rfl) λa A↦?_
   refine qt (by kernel_rfl) (zf A 6 rfl rfl rfl rfl (qb  rfl rfl (fun w => by kernel_rfl)) (difference_any _ _ (V.rd 1 rfl) (V.rd 0 rfl) (by omega) (by omega)) ?_)
   rintro _ w49 ⟨ro45, rc46, rfl, ho47, hb48⟩
   replace V := V.call hb48
   replace V := V.addR ho47.rd
   refine ⟨_, rfl, (V.partD (.cons _ (.cons_cons _ (.cons_cons _ .slnil))) 1 rfl (.refl _)), ?_⟩
   intro a A
   refine qt (by kernel_rfl) (zf A 7 rfl rfl rfl rfl (qb  rfl rfl (fun w => by kernel_rfl)) (xy (b := rb x) (n := x.natAbs - y.natAbs) (z := x + y) ⟨(V.rd 0 rfl), ho47.nocap, ho47.caps⟩ (znj hb10 (by omega))) ?_)
   rintro _ w54 ⟨zo50, zc51, rfl, hs52, hb53⟩
   replace V := V.call hb53
   replace V := V.addR hs52.rd
   refine ⟨_, rfl, (V.partD (.cons _ (.cons_cons _ (.cons_cons _ .slnil))) 2 rfl (.refl _)), ?_⟩
   intro a A
   refine qt (by kernel_rfl) (zp (us := [.bool ((rb (x + y))), .slice zo50 ((words (x + y).natAbs).length) zc51]) A V 8 rfl rfl rfl (qi rfl rfl rfl (by kernel_rfl) V 0 rfl rfl rfl) 0 rfl rfl rfl rfl ?_)
   intro w55 V
   refine ⟨(V.partD (.cons _ (.cons_cons _ (.cons_cons _ .slnil))) 2 rfl (.refl _)), ?_⟩
   refine zn (by kernel_rfl) ?_
   refine hK44 _ _ (wp_ret (hret _ _ (en1 A rfl (qx V ExI_isS_132 rfl 0 rfl (cs := [.bool ((rb (x + y))), .slice zo50 ((words (x + y).natAbs).length) zc51]) rfl rfl) ?_)))
   exact ⟨_, _, rfl, ⟨(V.rd 0 rfl), hs52.nil, hs52.cap⟩, V.bel⟩
theorem kh {w : World} {x : Int} {n : Nat} {so : Option Addr} {soc : Nat} (hso : Sc w so soc (words x.natAbs)) {uo : Option Addr} {uoc : Nat} (huo : Sc w uo uoc (words n)) (lx : (words x.natAbs).length ≤ 50000) (ly : (words n).length ≤ 50000) : Calls Tryz.prog 86 #[.agg #[.bool (rb x), .slice so (words x.natAbs).length soc], .slice uo (words n).length uoc] w (AnsZ w (x * (n : Int))) := by
 have V : St w w [] [(uo, words n), (so, words x.natAbs)] [] := ((St.start w).addR hso.rd).addR huo.rd
 refine qy (l := [(0, .agg #[.bool ((rb x)), .slice so ((words x.natAbs).length) soc]), (1, .slice uo ((words n).length) uoc)]) Tryz.func86 rfl Tryz.ntmps86 rfl rfl ?_
 intro Q hret hnorm hP a A
 refine wsk fun K1 hK1 => wrl (qn A V rfl rfl rfl pg (qw rfl rfl) rfl ?_)
 intro g2 w3 V a A
 refine qn (vs := [.bool false, .slice none 0 0]) (t := 132) A V rfl rfl rfl pg (ql (z := .agg #[.bool false, .slice none 0 0]) (by kernel_rfl) rfl) rfl ?_
 intro g4 w5 V a A
 refine qa (hK1 _ _ (wsk fun K6 hK6 => jc (S := fun w1 => St w w1 [(g2, [.bool ((rb x)), .slice so ((words x.natAbs).length) soc])] [(uo, words n), (so, words x.natAbs)] []) (by kernel_rfl) ?_))
 replace V := V.drew
 refine qh A 0 rfl rfl rfl rfl hP (V.partD (.cons _ (.cons_cons _ .slnil)) 0 rfl (.refl _)) (fun w1 V => qk V ExI_isS_132 rfl 0 rfl (cs := [.bool ((rb x)), .slice so ((words x.natAbs).length) soc]) rfl rfl) λa A↦?_
 refine qh A 1 rfl rfl rfl rfl hP (V.partD (.cons _ (.cons_cons _ .slnil)) 0 rfl (.refl _)) (fun w1 V => qz rfl) λa A↦?_
 refine qt (by kernel_rfl) (zf A 2 rfl rfl rfl rfl (qb  rfl rfl (fun w => by kernel_rfl)) (xy (b := false) (n := n) (z := ((n : Nat) : Int)) ⟨(V.rd 0 rfl), huo.nil, huo.cap⟩ rfl) ?_)
 rintro _ w11 ⟨zo7, zc8, rfl, hs9, hb10⟩
 replace V := V.call hb10
 replace V := V.addR hs9.rd
 refine ⟨_, rfl, (V.partD (.cons _ (.cons_cons _ .slnil)) 1 rfl (.refl _)), ?_⟩
 intro a A
 refine qt (by kernel_rfl) (zf A 3 rfl rfl rfl rfl (qb  rfl rfl (fun w => by kernel_rfl)) (zdh ⟨(V.rd 2 rfl), hso.nil, hso.cap⟩ ⟨(V.rd 0 rfl), hs9.nil, hs9.cap⟩ lx (by rw [Int.natAbs_natCast]; exact ly)) ?_)
 rintro _ w16 ⟨zo12, zc13, rfl, hs14, hb15⟩
 replace V := V.call hb15
 replace V := V.addR hs14.rd
 refine ⟨_, rfl, (V.partD (.cons _ (.cons_cons _ .slnil)) 2 rfl (.refl _)), ?_⟩
 intro a A
 refine qt (by kernel_rfl) (zp (us := [.bool ((rb (x * ((n : Nat) : Int)))), .slice zo12 ((words (x * ((n : Nat) : Int)).natAbs).length) zc13]) A V 4 rfl rfl rfl (qi rfl rfl rfl (by kernel_rfl) V 0 rfl rfl rfl) 0 rfl rfl rfl rfl ?_)
 intro w17 V
 refine ⟨(V.partD (.cons _ (.cons_cons _ .slnil)) 2 rfl (.refl _)), ?_⟩
 refine zn (by kernel_rfl) ?_
 refine hK6 _ _ (wp_ret (hret _ _ (en1 A rfl (qx V ExI_isS_132 rfl 0 rfl (cs := [.bool ((rb (x * ((n : Nat) : Int)))), .slice zo12 ((words (x * ((n : Nat) : Int)).natAbs).length) zc13]) rfl rfl) ?_)))
 exact ⟨_, _, rfl, ⟨(V.rd 0 rfl), hs14.nil, hs14.cap⟩, V.bel⟩
theorem vp {w : World} {x : Int} {d : Nat} {so : Option Addr} {soc : Nat} (hso : Sc w so soc (words x.natAbs)) {uo : Option Addr} {uoc : Nat} (huo : Sc w uo uoc (words d)) (lx : (words x.natAbs).length ≤ 50000) (ly : (words d).length ≤ 50000) (hd : d ≠ 0) : Calls Tryz.prog 96 #[.agg #[.bool (rb x), .slice so (words x.natAbs).length soc], .slice uo (words d).length uoc] w (AnsF w (rb x) (words (rt x d)) (words (rq x d))) := by
 have V : St w w [] [(uo, words d), (so, words x.natAbs)] [] := ((St.start w).addR hso.rd).addR huo.rd
 refine qy (l := [(0, .agg #[.bool ((rb x)), .slice so ((words x.natAbs).length) soc]), (1, .slice uo ((words d).length) uoc)]) Tryz.func96 rfl Tryz.ntmps96 rfl rfl ?_
 intro Q hret hnorm hP a A
 refine wsk fun K1 hK1 => wrl (qn A V rfl rfl rfl pg (qw rfl rfl) rfl ?_)
 intro g2 w3 V a A
 refine qn (vs := [.bool false, .slice none 0 0, .slice none 0 0]) (t := 24) A V rfl rfl rfl pg (ql (z := .agg #[.bool false, .slice none 0 0, .slice none 0 0]) (by kernel_rfl) rfl) rfl ?_
 intro g4 w5 V a A
 refine qa (hK1 _ _ (wsk fun K6 hK6 => wrl (sdo (v := .pointer (some ⟨g2, 1, none⟩)) A (qf ExI_fld_132_1 rfl rfl) λa A↦?_)))
 refine sdo A (qs V ExI_is1_22 rfl 1 rfl rfl) λa A↦?_
 refine sdm A λa A↦?_
 refine qg A rfl rfl rfl (qb  rfl rfl (fun w => by kernel_rfl)) (qbj _ _ (V.rd 1 rfl) (V.rd 0 rfl) (by omega) (by omega) hso.nil huo.nil) ?_
 rintro _ w11 ⟨ro7, rc8, rfl, ho9, hb10⟩
 replace V := V.call hb10
 replace V := V.addR ho9.rd
 refine ⟨_, rfl, ?_⟩
 intro a A
 refine sda A λa A↦?_
 refine qa (hK6 _ _ (wsk fun K12 hK12 => wrl (sdo (v := .pointer (some ⟨g2, 1, none⟩)) A (qf ExI_fld_132_1 rfl rfl) λa A↦?_)))
 refine sdo A (qs V ExI_is1_22 rfl 1 rfl rfl) λa A↦?_
 refine sdm A λa A↦?_
 refine qg A rfl rfl rfl (qb  rfl rfl (fun w => by kernel_rfl)) (divide_any _ _ (V.rd 2 rfl) (V.rd 0 rfl) (by omega) (Nat.le_trans (qhb hd ly) (by decide)) hso.nil (zbj hd)) ?_
 rintro _ w20 ⟨ro13, rc14, uo15, uc16, rfl, ho17, hp18, hb19⟩
 replace V := V.call hb19
 replace V := V.addR ho17.rd
 replace V := V.addR hp18.rd
 refine ⟨_, rfl, ?_⟩
 intro a A
 refine sdm A λa A↦?_
 iterate 2 refine sdo A (qm (vs := [.slice ro13 ((words (rt x d)).length) rc14, .slice uo15 ((words (x.natAbs % Nat.gcd x.natAbs d)).length) uc16]) rfl rfl) λa A↦?_
 iterate 2 refine sda A λa A↦?_
 refine qa (hK12 _ _ (wsk fun K21 hK21 => wrl ?_))
 iterate 2 refine sdm A λa A↦?_
 refine qg A rfl rfl rfl (qb  rfl rfl (fun w => by kernel_rfl)) (divide_any _ _ (V.rd 3 rfl) (V.rd 2 rfl) (by omega) (Nat.le_trans (qhb hd ly) (by decide)) huo.nil (zbj hd)) ?_
 rintro _ w29 ⟨ro22, rc23, uo24, uc25, rfl, ho26, hp27, hb28⟩
 replace V := V.call hb28
 replace V := V.addR ho26.rd
 replace V := V.addR hp27.rd
 refine ⟨_, rfl, ?_⟩
 intro a A
 refine sdm A λa A↦?_
 iterate 2 refine sdo A (qm (vs := [.slice ro22 ((words (rq x d)).length) rc23, .slice uo24 ((words (d % Nat.gcd x.natAbs d)).length) uc25]) rfl rfl) λa A↦?_
 iterate 2 refine sda A λa A↦?_
 refine qa (hK21 _ _ (wsk fun K30 hK30 => wrl (sdo (v := .pointer (some ⟨g2, 0, none⟩)) A (qf ExI_fld_132_0 rfl rfl) λa A↦?_)))
 refine sdo A (qs V ExI_is1_4 rfl 1 rfl rfl) λa A↦?_
 iterate 2 refine sdm A λa A↦?_
 refine sdo (v := .agg #[.bool ((rb x)), .slice ro13 ((words (rt x d)).length) rc14, .slice ro22 ((words (rq x d)).length) rc23]) A (za rfl (fun w => by kernel_rfl)) λa A↦?_
 refine qr (us := [.bool ((rb x)), .slice ro13 ((words (rt x d)).length) rc14, .slice ro22 ((words (rq x d)).length) rc23]) A V rfl rfl (qi rfl rfl rfl (by kernel_rfl) V 0 rfl rfl rfl) 0 rfl rfl rfl rfl ?_
 intro w31 V
 refine qa (hK30 _ _ (wp_ret (hret _ _ (en1 A rfl (qx V ExI_isS_24 rfl 0 rfl (cs := [.bool ((rb x)), .slice ro13 ((words (rt x d)).length) rc14, .slice ro22 ((words (rq x d)).length) rc23]) rfl rfl) ?_))))
 exact ⟨ro13, rc14, ro22, rc23, rfl, ⟨(V.rd 3 rfl), ho17.nocap, ho17.caps⟩, ⟨(V.rd 1 rfl), ho26.nocap, ho26.caps⟩, V.bel⟩
theorem ExJ_is1_22 : Is1 Tryz.prog 22 := ⟨⟨_, Tryz.underlying22, rfl⟩, by kernel_rfl⟩
theorem ExJ_fld_134_0 : FieldAt Tryz.prog 134 0 0 := ⟨_, _, Tryz.underlying134, rfl, rfl, by kernel_rfl⟩
theorem ExJ_fld_134_1 : FieldAt Tryz.prog 134 1 2 := ⟨_, _, Tryz.underlying134, rfl, rfl, by kernel_rfl⟩
theorem ExJ_fld_134_2 : FieldAt Tryz.prog 134 2 4 := ⟨_, _, Tryz.underlying134, rfl, rfl, by kernel_rfl⟩
theorem ExJ_fld_26_0 : FieldAt Tryz.prog 26 0 0 := ⟨_, _, Tryz.underlying26, rfl, rfl, by kernel_rfl⟩
theorem ExJ_fld_26_1 : FieldAt Tryz.prog 26 1 3 := ⟨_, _, Tryz.underlying26, rfl, rfl, by kernel_rfl⟩
theorem ExJ_isS_132 : IsS Tryz.prog 132 2 := ⟨⟨_, Tryz.underlying132⟩, by kernel_rfl⟩
theorem ExJ_isS_134 : IsS Tryz.prog 134 5 := ⟨⟨_, Tryz.underlying134⟩, by kernel_rfl⟩
theorem ExJ_isS_24 : IsS Tryz.prog 24 3 := ⟨⟨_, Tryz.underlying24⟩, by kernel_rfl⟩
theorem ExJ_isS_26 : IsS Tryz.prog 26 6 := ⟨⟨_, Tryz.underlying26⟩, by kernel_rfl⟩
theorem qeg {w : World} {b : Bool} {n m : Nat} {o1 o2 : Option Addr} {c1 c2 : Nat} (h1 : Sc w o1 c1 (words n)) (h2 : Sc w o2 c2 (words m)) (l1 : (words n).length ≤ 9223372036854775807) (l2 : (words m).length ≤ 9223372036854775807) {r : Bool} (hr : (decide ((words n).length ≤ 512) && decide ((words m).length ≤ 512)) = r) :
  Calls Tryz.prog 124 #[.agg #[.bool b, .slice o1 (words n).length c1, .slice o2 (words m).length c2]] w fun e w' => e = .returned (.bool r) ∧ Below w.heap.size w w' := by
 subst hr
 rw [← qqj, ← qqj]
 exact zni c1 c2 h1.rd h2.rd l1 l2
theorem zra {x y : Int} {d : Nat} (h1 : (decide ((words (rt x d)).length ≤ 512) && decide ((words (rq x d)).length ≤ 512)) = true) (h2 : (decide ((words (rt y d)).length ≤ 512) && decide ((words (rq y d)).length ≤ 512)) = true) : qmg x y d = (⟨rb x, words (rt x d), words (rq x d), rb y, words (rt y d), words (rq y d)⟩, 0) := by
 simp only [Bool.and_eq_true, decide_eq_true_eq] at h1 h2
 unfold qmg
 rw [if_pos ⟨h1.1, h1.2, h2.1, h2.2⟩]
theorem zle {x y : Int} {d : Nat} (h1 : (decide ((words (rt x d)).length ≤ 512) && decide ((words (rq x d)).length ≤ 512)) = false) : qmg x y d = (Q6.zero, 4) := by
 unfold qmg
 rw [if_neg]
 rintro ⟨a, b, _⟩
 rw [decide_eq_true a, decide_eq_true b] at h1
 cases h1
theorem zlf {x y : Int} {d : Nat} (h1 : (decide ((words (rt y d)).length ≤ 512) && decide ((words (rq y d)).length ≤ 512)) = false) : qmg x y d = (Q6.zero, 4) := by
 unfold qmg
 rw [if_neg]
 rintro ⟨_, _, a, b⟩
 rw [decide_eq_true a, decide_eq_true b] at h1
 cases h1
theorem qza {w : World} {x y : Int} {d : Nat} {a1 a2 a3 : Option Addr} {ac1 ac2 ac3 : Nat} (ha1 : Sc w a1 ac1 (words x.natAbs)) (ha2 : Sc w a2 ac2 (words y.natAbs)) (ha3 : Sc w a3 ac3 (words d)) (l1 : (words x.natAbs).length ≤ 50000) (l2 : (words y.natAbs).length ≤ 50000) (l3 : (words d).length ≤ 50000) (hd : d ≠ 0) : Calls Tryz.prog 84 #[.agg #[.bool (rb x), .slice a1 (words x.natAbs).length ac1, .bool (rb y), .slice a2 (words y.natAbs).length ac2, .slice a3 (words d).length ac3]] w (AnsN w (qmg x y d)) := by
 have V : St w w [] [(a3, words d), (a2, words y.natAbs), (a1, words x.natAbs)] [] := (((St.start w).addR ha1.rd).addR ha2.rd).addR ha3.rd
 refine qy (l := [(0, .agg #[.bool ((rb x)), .slice a1 ((words x.natAbs).length) ac1, .bool ((rb y)), .slice a2 ((words y.natAbs).length) ac2, .slice a3 ((words d).length) ac3])]) Tryz.func84 rfl Tryz.ntmps84 rfl rfl ?_
 intro Q hret hnorm hP a A
 refine wsk fun K1 hK1 => wrl (qn A V rfl rfl rfl pg (qw rfl rfl) rfl ?_)
 intro g2 w3 V a A
 refine qn (vs := [.bool false, .slice none 0 0, .slice none 0 0, .bool false, .slice none 0 0, .slice none 0 0]) (t := 26) A V rfl rfl rfl pg (ql (z := .agg #[.bool false, .slice none 0 0, .slice none 0 0, .bool false, .slice none 0 0, .slice none 0 0]) (by kernel_rfl) rfl) rfl ?_
 intro g4 w5 V a A
 refine sda A λa A↦?_
 refine qa (hK1 _ _ (wsk fun K6 hK6 => ?_))
 have hJ37 : ∀ a w1, (∃ (J20g : Nat) (J21 : Option Addr) (J22 : Nat) (J23 : Option Addr) (J24 : Nat) (J25 : Option Addr) (J26 : Nat) (J27 : Option Addr) (J28 : Nat), Sl a 28 [(0, .agg #[.bool ((rb x)), .slice a1 ((words x.natAbs).length) ac1, .bool ((rb y)), .slice a2 ((words y.natAbs).length) ac2, .slice a3 ((words d).length) ac3]), (2, .pointer (some ⟨g4, 0, none⟩)), (3, .int .i64 0), (4, .pointer (some ⟨J20g, 0, none⟩))] ∧ St w w1 [(J20g, [.bool ((rb x)), .slice J21 ((words (rt x d)).length) J22, .slice J23 ((words (rq x d)).length) J24, .bool ((rb y)), .slice J25 ((words (rt y d)).length) J26, .slice J27 ((words (rq y d)).length) J28]), (g4, [.bool false, .slice none 0 0, .slice none 0 0, .bool false, .slice none 0 0, .slice none 0 0]), (g2, [.bool ((rb x)), .slice a1 ((words x.natAbs).length) ac1, .bool ((rb y)), .slice a2 ((words y.natAbs).length) ac2, .slice a3 ((words d).length) ac3])] [(J27, words (rq y d)), (J25, words (rt y d)), (J23, words (rq x d)), (J21, words (rt x d)), (a3, words d), (a2, words y.natAbs), (a1, words x.natAbs)] [] ∧ (J27 = none → J28 = 0) ∧ (words (rq y d) : List Nat).length ≤ J28 ∧ (J25 = none → J26 = 0) ∧ (words (rt y d) : List Nat).length ≤ J26 ∧ (J23 = none → J24 = 0) ∧ (words (rq x d) : List Nat).length ≤ J24 ∧ (J21 = none → J22 = 0) ∧ (words (rt x d) : List Nat).length ≤ J22) → K6 a w1 := by
  clear A V
  rintro a w38 ⟨J20g, J21, J22, J23, J24, J25, J26, J27, J28, A, V, hn29, hc30, hn31, hc32, hn33, hc34, hn35, hc36⟩
  refine hK6 _ _ (wsk fun K39 hK39 => wsk fun K40 hK40 => wrl (sdo (v := .pointer (some ⟨J20g, 0, none⟩)) A (qf ExJ_fld_26_0 rfl rfl) λa A↦?_))
  refine sdo A (qk V ExJ_isS_24 rfl 0 rfl (cs := [.bool ((rb x)), .slice J21 ((words (rt x d)).length) J22, .slice J23 ((words (rq x d)).length) J24]) rfl rfl) λa A↦?_
  rcases tf ((decide ((words (rt x d)).length ≤ 512) && decide ((words (rq x d)).length ≤ 512))) with hb41 | hb41
  ·
   refine qg A rfl rfl rfl (qb  rfl rfl (fun w => by kernel_rfl)) (qeg ⟨(V.rd 3 rfl), hn35, hc36⟩ ⟨(V.rd 2 rfl), hn33, hc34⟩ (by have h9 := va (g := Nat.gcd x.natAbs d) l1; unfold rt; omega) (by have h9 := va (g := Nat.gcd x.natAbs d) l3; unfold rq; omega) hb41) ?_
   rintro _ w43 ⟨rfl, hb42⟩
   replace V := V.call hb42
   refine ⟨_, rfl, ?_⟩
   intro a A
   refine sdo (v := .bool false) A (zk rfl zv) λa A↦?_
   refine sdm A λa A↦?_
   refine sdo (v := .pointer (some ⟨J20g, 3, none⟩)) A (qf ExJ_fld_26_1 rfl rfl) λa A↦?_
   refine sdo A (qk V ExJ_isS_24 rfl 0 rfl (cs := [.bool ((rb y)), .slice J25 ((words (rt y d)).length) J26, .slice J27 ((words (rq y d)).length) J28]) rfl rfl) λa A↦?_
   rcases tf ((decide ((words (rt y d)).length ≤ 512) && decide ((words (rq y d)).length ≤ 512))) with hb44 | hb44
   ·
    refine qg A rfl rfl rfl (qb  rfl rfl (fun w => by kernel_rfl)) (qeg ⟨(V.rd 1 rfl), hn31, hc32⟩ ⟨(V.rd 0 rfl), hn29, hc30⟩ (by have h9 := va (g := Nat.gcd y.natAbs d) l2; unfold rt; omega) (by have h9 := va (g := Nat.gcd y.natAbs d) l3; unfold rq; omega) hb44) ?_
    rintro _ w46 ⟨rfl, hb45⟩
    replace V := V.call hb45
    refine ⟨_, rfl, ?_⟩
    intro a A
    refine sdo (v := .bool false) A (zk rfl zv) λa A↦?_
    refine sdk (v := .bool false) A λa A↦?_
    refine qa (hK40 _ _ (wp_cond_false (A.ev rfl) ?_))
    refine wp_skip (hK39 _ _ (wsk fun K47 hK47 => wrl (sdo A (qk V ExJ_isS_26 rfl 0 rfl (cs := [.bool ((rb x)), .slice J21 ((words (rt x d)).length) J22, .slice J23 ((words (rq x d)).length) J24, .bool ((rb y)), .slice J25 ((words (rt y d)).length) J26, .slice J27 ((words (rq y d)).length) J28]) rfl rfl) λa A↦?_)))
    refine qr (us := [.bool ((rb x)), .slice J21 ((words (rt x d)).length) J22, .slice J23 ((words (rq x d)).length) J24, .bool ((rb y)), .slice J25 ((words (rt y d)).length) J26, .slice J27 ((words (rq y d)).length) J28]) A V rfl rfl (qi rfl rfl rfl (by kernel_rfl) V 1 rfl rfl rfl) 1 rfl rfl rfl rfl ?_
    intro w48 V
    refine sda A λa A↦?_
    refine qa (hK47 _ _ (wp_ret (hret _ _ (en2 A rfl (qx V ExJ_isS_26 rfl 1 rfl (cs := [.bool ((rb x)), .slice J21 ((words (rt x d)).length) J22, .slice J23 ((words (rq x d)).length) J24, .bool ((rb y)), .slice J25 ((words (rt y d)).length) J26, .slice J27 ((words (rq y d)).length) J28]) rfl rfl) (qj rfl) ?_))))
    rw [zra hb41 hb44]
    exact ⟨J21, J22, J23, J24, J25, J26, J27, J28, rfl, ⟨⟨(V.rd 3 rfl), hn35, hc36⟩, ⟨(V.rd 2 rfl), hn33, hc34⟩, ⟨(V.rd 1 rfl), hn31, hc32⟩, ⟨(V.rd 0 rfl), hn29, hc30⟩⟩, V.bel⟩
   ·
    refine qg A rfl rfl rfl (qb  rfl rfl (fun w => by kernel_rfl)) (qeg ⟨(V.rd 1 rfl), hn31, hc32⟩ ⟨(V.rd 0 rfl), hn29, hc30⟩ (by have h9 := va (g := Nat.gcd y.natAbs d) l2; unfold rt; omega) (by have h9 := va (g := Nat.gcd y.natAbs d) l3; unfold rq; omega) hb44) ?_
    rintro _ w50 ⟨rfl, hb49⟩
    replace V := V.call hb49
    refine ⟨_, rfl, ?_⟩
    intro a A
    refine sdo (v := .bool true) A (zk rfl zv) λa A↦?_
    refine sdk (v := .bool true) A λa A↦?_
    refine qa (hK40 _ _ (wp_cond_true (A.ev rfl) ?_))
    refine wsk fun K51 hK51 => wrl (sdo (v := .agg #[.bool false, .slice none 0 0, .slice none 0 0, .bool false, .slice none 0 0, .slice none 0 0]) A (za rfl (fun w => by kernel_rfl)) λa A↦?_)
    refine qr (us := [.bool false, .slice none 0 0, .slice none 0 0, .bool false, .slice none 0 0, .slice none 0 0]) A V rfl rfl (qi rfl rfl rfl (by kernel_rfl) V 1 rfl rfl rfl) 1 rfl rfl rfl rfl ?_
    intro w52 V
    refine sda A λa A↦?_
    refine qa (hK51 _ _ (wp_ret (hret _ _ (en2 A rfl (qx V ExJ_isS_26 rfl 1 rfl (cs := [.bool false, .slice none 0 0, .slice none 0 0, .bool false, .slice none 0 0, .slice none 0 0]) rfl rfl) (qj rfl) ?_))))
    rw [zlf hb44]
    exact ⟨none, 0, none, 0, none, 0, none, 0, rfl, ⟨(Sc.none _), (Sc.none _), (Sc.none _), (Sc.none _)⟩, V.bel⟩
  ·
   refine qg A rfl rfl rfl (qb  rfl rfl (fun w => by kernel_rfl)) (qeg ⟨(V.rd 3 rfl), hn35, hc36⟩ ⟨(V.rd 2 rfl), hn33, hc34⟩ (by have h9 := va (g := Nat.gcd x.natAbs d) l1; unfold rt; omega) (by have h9 := va (g := Nat.gcd x.natAbs d) l3; unfold rq; omega) hb41) ?_
   rintro _ w54 ⟨rfl, hb53⟩
   replace V := V.call hb53
   refine ⟨_, rfl, ?_⟩
   intro a A
   refine sdo (v := .bool true) A (zk rfl zv) λa A↦?_
   refine sdm A λa A↦?_
   iterate 4 refine ze A rfl rfl rfl λa A↦?_
   refine sdk (v := .bool true) A λa A↦?_
   refine qa (hK40 _ _ (wp_cond_true (A.ev rfl) ?_))
   refine wsk fun K55 hK55 => wrl (sdo (v := .agg #[.bool false, .slice none 0 0, .slice none 0 0, .bool false, .slice none 0 0, .slice none 0 0]) A (za rfl (fun w => by kernel_rfl)) λa A↦?_)
   refine qr (us := [.bool false, .slice none 0 0, .slice none 0 0, .bool false, .slice none 0 0, .slice none 0 0]) A V rfl rfl (qi rfl rfl rfl (by kernel_rfl) V 1 rfl rfl rfl) 1 rfl rfl rfl rfl ?_
   intro w56 V
   refine sda A λa A↦?_
   refine qa (hK55 _ _ (wp_ret (hret _ _ (en2 A rfl (qx V ExJ_isS_26 rfl 1 rfl (cs := [.bool false, .slice none 0 0, .slice none 0 0, .bool false, .slice none 0 0, .slice none 0 0]) rfl rfl) (qj rfl) ?_))))
   rw [zle hb41]
   exact ⟨none, 0, none, 0, none, 0, none, 0, rfl, ⟨(Sc.none _), (Sc.none _), (Sc.none _), (Sc.none _)⟩, V.bel⟩
 refine jc (S := fun w1 => St w w1 [(g4, [.bool false, .slice none 0 0, .slice none 0 0, .bool false, .slice none 0 0, .slice none 0 0]), (g2, [.bool ((rb x)), .slice a1 ((words x.natAbs).length) ac1, .bool ((rb y)), .slice a2 ((words y.natAbs).length) ac2, .slice a3 ((words d).length) ac3])] [(a3, words d), (a2, words y.natAbs), (a1, words x.natAbs)] []) (by kernel_rfl) ?_
 replace V := V.drew
 refine qh (v := .pointer (some ⟨g2, 0, none⟩)) A 0 rfl rfl rfl rfl hP V (fun w1 V => qf ExJ_fld_134_0 rfl rfl) λa A↦?_
 refine qh A 1 rfl rfl rfl rfl hP V (fun w1 V => qk V ExJ_isS_132 rfl 1 rfl (cs := [.bool ((rb x)), .slice a1 ((words x.natAbs).length) ac1]) rfl rfl) λa A↦?_
 refine qh (v := .pointer (some ⟨g2, 4, none⟩)) A 2 rfl rfl rfl rfl hP V (fun w1 V => qf ExJ_fld_134_2 rfl rfl) λa A↦?_
 refine qh A 3 rfl rfl rfl rfl hP V (fun w1 V => qs V ExJ_is1_22 rfl 1 rfl rfl) λa A↦?_
 refine qh (v := .pointer (some ⟨g2, 2, none⟩)) A 5 rfl rfl rfl rfl hP V (fun w1 V => qf ExJ_fld_134_1 rfl rfl) λa A↦?_
 refine qh A 6 rfl rfl rfl rfl hP V (fun w1 V => qk V ExJ_isS_132 rfl 1 rfl (cs := [.bool ((rb y)), .slice a2 ((words y.natAbs).length) ac2]) rfl rfl) λa A↦?_
 refine qh (v := .pointer (some ⟨g2, 4, none⟩)) A 7 rfl rfl rfl rfl hP V (fun w1 V => qf ExJ_fld_134_2 rfl rfl) λa A↦?_
 refine qh A 8 rfl rfl rfl rfl hP V (fun w1 V => qs V ExJ_is1_22 rfl 1 rfl rfl) λa A↦?_
 refine yr (rs := [4, 11]) (by kernel_rfl) (by simp) ⟨?_, ?_, trivial⟩
 ·
  refine zf A 4 rfl rfl rfl rfl (qb  rfl rfl (fun w => by kernel_rfl)) (vp ⟨(V.rd 2 rfl), ha1.nil, ha1.cap⟩ ⟨(V.rd 0 rfl), ha3.nil, ha3.cap⟩ l1 l3 hd) ?_
  rintro _ w61 ⟨f57_1, f57_c1, f57_2, f57_c2, rfl, hs58, hs59, hb60⟩
  replace V := V.call hb60
  replace V := V.addR hs58.rd
  replace V := V.addR hs59.rd
  refine ⟨_, rfl, (V.partD (.refl _) 2 rfl (.refl _)), ?_⟩
  intro a A
  refine yr (rs := [9, 11]) (by kernel_rfl) (by simp) ⟨?_, ?_, trivial⟩
  ·
   refine zf A 9 rfl rfl rfl rfl (qb  rfl rfl (fun w => by kernel_rfl)) (vp ⟨(V.rd 3 rfl), ha2.nil, ha2.cap⟩ ⟨(V.rd 2 rfl), ha3.nil, ha3.cap⟩ l2 l3 hd) ?_
   rintro _ w66 ⟨f62_1, f62_c1, f62_2, f62_c2, rfl, hs63, hs64, hb65⟩
   replace V := V.call hb65
   replace V := V.addR hs63.rd
   replace V := V.addR hs64.rd
   refine ⟨_, rfl, (V.partD (.refl _) 4 rfl (.refl _)), ?_⟩
   intro a A
   refine qh (v := .agg #[.bool ((rb x)), .slice f57_1 ((words (rt x d)).length) f57_c1, .slice f57_2 ((words (rq x d)).length) f57_c2, .bool ((rb y)), .slice f62_1 ((words (rt y d)).length) f62_c1, .slice f62_2 ((words (rq y d)).length) f62_c2]) A 10 rfl rfl rfl rfl hP (V.partD (.refl _) 4 rfl (.refl _)) (fun w1 V => za rfl (fun w => by kernel_rfl)) λa A↦?_
   refine qt (by kernel_rfl) (qfg (vs := [.bool false, .slice none 0 0, .slice none 0 0, .bool false, .slice none 0 0, .slice none 0 0]) (t := 26) A V 11 rfl rfl rfl rfl pg (ql (z := .agg #[.bool false, .slice none 0 0, .slice none 0 0, .bool false, .slice none 0 0, .slice none 0 0]) (by kernel_rfl) rfl) rfl ?_)
   intro g67 w68 V
   refine ⟨(V.partD (.cons _ (.cons_cons _ (.cons_cons _ .slnil))) 4 rfl (.refl _)), ?_⟩
   intro a A
   refine qt (by kernel_rfl) (zp (us := [.bool ((rb x)), .slice f57_1 ((words (rt x d)).length) f57_c1, .slice f57_2 ((words (rq x d)).length) f57_c2, .bool ((rb y)), .slice f62_1 ((words (rt y d)).length) f62_c1, .slice f62_2 ((words (rq y d)).length) f62_c2]) A V 12 rfl rfl rfl (qi rfl rfl rfl (by kernel_rfl) V 0 rfl rfl rfl) 0 rfl rfl rfl rfl ?_)
   intro w69 V
   refine ⟨(V.partD (.cons _ (.cons_cons _ (.cons_cons _ .slnil))) 4 rfl (.refl _)), ?_⟩
   refine zn (by kernel_rfl) ?_
   refine hJ37 _ _ ⟨g67, f57_1, f57_c1, f57_2, f57_c2, f62_1, f62_c1, f62_2, f62_c2, A.keep _ ⟨rfl, rfl, rfl, rfl, trivial⟩, (St.pickRL V ⟨⟨0, rfl⟩, ⟨⟨1, rfl⟩, ⟨⟨2, rfl⟩, ⟨⟨3, rfl⟩, ⟨⟨4, rfl⟩, ⟨⟨5, rfl⟩, ⟨⟨6, rfl⟩, trivial⟩⟩⟩⟩⟩⟩⟩ [0, 1, 2] rfl (by decide)), hs64.nil, hs64.cap, hs63.nil, hs63.cap, hs59.nil, hs59.cap, hs58.nil, hs58.cap⟩
  ·
   refine qfg (vs := [.bool false, .slice none 0 0, .slice none 0 0, .bool false, .slice none 0 0, .slice none 0 0]) (t := 26) A V 11 rfl rfl rfl rfl pg (ql (z := .agg #[.bool false, .slice none 0 0, .slice none 0 0, .bool false, .slice none 0 0, .slice none 0 0]) (by kernel_rfl) rfl) rfl ?_
   intro g70 w71 V
   refine ⟨(V.partD (.cons _ (.cons_cons _ (.cons_cons _ .slnil))) 2 rfl (.refl _)), ?_⟩
   intro a A
   refine qt (by kernel_rfl) (zf A 9 rfl rfl rfl rfl (qb  rfl rfl (fun w => by kernel_rfl)) (vp ⟨(V.rd 3 rfl), ha2.nil, ha2.cap⟩ ⟨(V.rd 2 rfl), ha3.nil, ha3.cap⟩ l2 l3 hd) ?_)
   rintro _ w76 ⟨f72_1, f72_c1, f72_2, f72_c2, rfl, hs73, hs74, hb75⟩
   replace V := V.call hb75
   replace V := V.addR hs73.rd
   replace V := V.addR hs74.rd
   refine ⟨_, rfl, (V.partD (.cons _ (.cons_cons _ (.cons_cons _ .slnil))) 4 rfl (.refl _)), ?_⟩
   intro a A
   refine qh (v := .agg #[.bool ((rb x)), .slice f57_1 ((words (rt x d)).length) f57_c1, .slice f57_2 ((words (rq x d)).length) f57_c2, .bool ((rb y)), .slice f72_1 ((words (rt y d)).length) f72_c1, .slice f72_2 ((words (rq y d)).length) f72_c2]) A 10 rfl rfl rfl rfl hP (V.partD (.cons _ (.cons_cons _ (.cons_cons _ .slnil))) 4 rfl (.refl _)) (fun w1 V => za rfl (fun w => by kernel_rfl)) λa A↦?_
   refine qt (by kernel_rfl) (zp (us := [.bool ((rb x)), .slice f57_1 ((words (rt x d)).length) f57_c1, .slice f57_2 ((words (rq x d)).length) f57_c2, .bool ((rb y)), .slice f72_1 ((words (rt y d)).length) f72_c1, .slice f72_2 ((words (rq y d)).length) f72_c2]) A V 12 rfl rfl rfl (qi rfl rfl rfl (by kernel_rfl) V 0 rfl rfl rfl) 0 rfl rfl rfl rfl ?_)
   intro w77 V
   refine ⟨(V.partD (.cons _ (.cons_cons _ (.cons_cons _ .slnil))) 4 rfl (.refl _)), ?_⟩
   refine zn (by kernel_rfl) ?_
   refine hJ37 _ _ ⟨g70, f57_1, f57_c1, f57_2, f57_c2, f72_1, f72_c1, f72_2, f72_c2, A.keep _ ⟨rfl, rfl, rfl, rfl, trivial⟩, (St.pickRL V ⟨⟨0, rfl⟩, ⟨⟨1, rfl⟩, ⟨⟨2, rfl⟩, ⟨⟨3, rfl⟩, ⟨⟨4, rfl⟩, ⟨⟨5, rfl⟩, ⟨⟨6, rfl⟩, trivial⟩⟩⟩⟩⟩⟩⟩ [0, 1, 2] rfl (by decide)), hs74.nil, hs74.cap, hs73.nil, hs73.cap, hs59.nil, hs59.cap, hs58.nil, hs58.cap⟩
 ·
  refine qfg (vs := [.bool false, .slice none 0 0, .slice none 0 0, .bool false, .slice none 0 0, .slice none 0 0]) (t := 26) A V 11 rfl rfl rfl rfl pg (ql (z := .agg #[.bool false, .slice none 0 0, .slice none 0 0, .bool false, .slice none 0 0, .slice none 0 0]) (by kernel_rfl) rfl) rfl ?_
  intro g78 w79 V
  refine ⟨(V.partD (.cons _ (.cons_cons _ (.cons_cons _ .slnil))) 0 rfl (.refl _)), ?_⟩
  intro a A
  refine qt (by kernel_rfl) (zf A 4 rfl rfl rfl rfl (qb  rfl rfl (fun w => by kernel_rfl)) (vp ⟨(V.rd 2 rfl), ha1.nil, ha1.cap⟩ ⟨(V.rd 0 rfl), ha3.nil, ha3.cap⟩ l1 l3 hd) ?_)
  rintro _ w84 ⟨f80_1, f80_c1, f80_2, f80_c2, rfl, hs81, hs82, hb83⟩
  replace V := V.call hb83
  replace V := V.addR hs81.rd
  replace V := V.addR hs82.rd
  refine ⟨_, rfl, (V.partD (.cons _ (.cons_cons _ (.cons_cons _ .slnil))) 2 rfl (.refl _)), ?_⟩
  intro a A
  refine qt (by kernel_rfl) (zf A 9 rfl rfl rfl rfl (qb  rfl rfl (fun w => by kernel_rfl)) (vp ⟨(V.rd 3 rfl), ha2.nil, ha2.cap⟩ ⟨(V.rd 2 rfl), ha3.nil, ha3.cap⟩ l2 l3 hd) ?_)
  rintro _ w89 ⟨f85_1, f85_c1, f85_2, f85_c2, rfl, hs86, hs87, hb88⟩
  replace V := V.call hb88
  replace V := V.addR hs86.rd
  replace V := V.addR hs87.rd
  refine ⟨_, rfl, (V.partD (.cons _ (.cons_cons _ (.cons_cons _ .slnil))) 4 rfl (.refl _)), ?_⟩
  intro a A
  refine qh (v := .agg #[.bool ((rb x)), .slice f80_1 ((words (rt x d)).length) f80_c1, .slice f80_2 ((words (rq x d)).length) f80_c2, .bool ((rb y)), .slice f85_1 ((words (rt y d)).length) f85_c1, .slice f85_2 ((words (rq y d)).length) f85_c2]) A 10 rfl rfl rfl rfl hP (V.partD (.cons _ (.cons_cons _ (.cons_cons _ .slnil))) 4 rfl (.refl _)) (fun w1 V => za rfl (fun w => by kernel_rfl)) λa A↦?_
  refine qt (by kernel_rfl) (zp (us := [.bool ((rb x)), .slice f80_1 ((words (rt x d)).length) f80_c1, .slice f80_2 ((words (rq x d)).length) f80_c2, .bool ((rb y)), .slice f85_1 ((words (rt y d)).length) f85_c1, .slice f85_2 ((words (rq y d)).length) f85_c2]) A V 12 rfl rfl rfl (qi rfl rfl rfl (by kernel_rfl) V 0 rfl rfl rfl) 0 rfl rfl rfl rfl ?_)
  intro w90 V
  refine ⟨(V.partD (.cons _ (.cons_cons _ (.cons_cons _ .slnil))) 4 rfl (.refl _)), ?_⟩
  refine zn (by kernel_rfl) ?_
  refine hJ37 _ _ ⟨g78, f80_1, f80_c1, f80_2, f80_c2, f85_1, f85_c1, f85_2, f85_c2, A.keep _ ⟨rfl, rfl, rfl, rfl, trivial⟩, (St.pickRL V ⟨⟨0, rfl⟩, ⟨⟨1, rfl⟩, ⟨⟨2, rfl⟩, ⟨⟨3, rfl⟩, ⟨⟨4, rfl⟩, ⟨⟨5, rfl⟩, ⟨⟨6, rfl⟩, trivial⟩⟩⟩⟩⟩⟩⟩ [0, 1, 2] rfl (by decide)), hs87.nil, hs87.cap, hs86.nil, hs86.cap, hs82.nil, hs82.cap, hs81.nil, hs81.cap⟩
theorem zrb {w : World} {x1 y1 x2 y2 : Int} {d1 d2 : Nat} {a1 a2 a3 : Option Addr} {ac1 ac2 ac3 : Nat} (ha1 : Sc w a1 ac1 (words x1.natAbs)) (ha2 : Sc w a2 ac2 (words y1.natAbs)) (ha3 : Sc w a3 ac3 (words d1)) {u1 u2 u3 : Option Addr} {uc1 uc2 uc3 : Nat} (hu1 : Sc w u1 uc1 (words x2.natAbs)) (hu2 : Sc w u2 uc2 (words y2.natAbs)) (hu3 : Sc w u3 uc3 (words d2)) (la1 : (words x1.natAbs).length ≤ 10000) (la2 : (words y1.natAbs).length ≤ 10000) (la3 : (words d1).length ≤ 10000) (lu1 : (words x2.natAbs).length ≤ 10000) (lu2 : (words y2.natAbs).length ≤ 10000) (lu3 : (words d2).length ≤ 10000) : Calls Tryz.prog 38 #[.agg #[.bool (rb x1), .slice a1 (words x1.natAbs).length ac1, .bool (rb y1), .slice a2 (words y1.natAbs).length ac2, .slice a3 (words d1).length ac3], .agg #[.bool (rb x2), .slice u1 (words x2.natAbs).length uc1, .bool (rb y2), .slice u2 (words y2.natAbs).length uc2, .slice u3 (words d2).length uc3]] w (AnsR w (x1 * ((d2 : Nat) : Int) + x2 * ((d1 : Nat) : Int)) (y1 * ((d2 : Nat) : Int) + y2 * ((d1 : Nat) : Int)) (d1 * d2)) := by
 have n1 : (words ((d1 : Nat) : Int).natAbs).length ≤ 10000 := by rw [Int.natAbs_natCast]; exact la3
 have n2 : (words ((d2 : Nat) : Int).natAbs).length ≤ 10000 := by rw [Int.natAbs_natCast]; exact lu3
 have k1 := xg la1 n2
 have k2 := xg lu1 n1
 have k3 := xg la2 n2
 have k4 := xg lu2 n1
 have V : St w w [] [(u3, words d2), (u2, words y2.natAbs), (u1, words x2.natAbs), (a3, words d1), (a2, words y1.natAbs), (a1, words x1.natAbs)] [] := ((((((St.start w).addR ha1.rd).addR ha2.rd).addR ha3.rd).addR hu1.rd).addR hu2.rd).addR hu3.rd
 refine qy (l := [(0, .agg #[.bool ((rb x1)), .slice a1 ((words x1.natAbs).length) ac1, .bool ((rb y1)), .slice a2 ((words y1.natAbs).length) ac2, .slice a3 ((words d1).length) ac3]), (1, .agg #[.bool ((rb x2)), .slice u1 ((words x2.natAbs).length) uc1, .bool ((rb y2)), .slice u2 ((words y2.natAbs).length) uc2, .slice u3 ((words d2).length) uc3])]) Tryz.func38 rfl Tryz.ntmps38 rfl rfl ?_
 intro Q hret hnorm hP a A
 refine wsk fun K1 hK1 => wrl (qn A V rfl rfl rfl pg (qw rfl rfl) rfl ?_)
 intro g2 w3 V a A
 refine qn A V rfl rfl rfl pg (qw rfl rfl) rfl ?_
 intro g4 w5 V a A
 refine qn (vs := [.bool false, .slice none 0 0, .bool false, .slice none 0 0, .slice none 0 0]) (t := 134) A V rfl rfl rfl pg (ql (z := .agg #[.bool false, .slice none 0 0, .bool false, .slice none 0 0, .slice none 0 0]) (by kernel_rfl) rfl) rfl ?_
 intro g6 w7 V a A
 refine qa (hK1 _ _ (wsk fun K8 hK8 => jc (S := fun w1 => St w w1 [(g4, [.bool ((rb x2)), .slice u1 ((words x2.natAbs).length) uc1, .bool ((rb y2)), .slice u2 ((words y2.natAbs).length) uc2, .slice u3 ((words d2).length) uc3]), (g2, [.bool ((rb x1)), .slice a1 ((words x1.natAbs).length) ac1, .bool ((rb y1)), .slice a2 ((words y1.natAbs).length) ac2, .slice a3 ((words d1).length) ac3])] [(u3, words d2), (u2, words y2.natAbs), (u1, words x2.natAbs), (a3, words d1), (a2, words y1.natAbs), (a1, words x1.natAbs)] []) (by kernel_rfl) ?_))
 replace V := V.drew
 refine qh (v := .pointer (some ⟨g2, 0, none⟩)) A 0 rfl rfl rfl rfl hP (V.partD (.cons _ (.cons_cons _ (.cons_cons _ .slnil))) 0 rfl (.refl _)) (fun w1 V => qf ExJ_fld_134_0 rfl rfl) λa A↦?_
 refine qh A 1 rfl rfl rfl rfl hP (V.partD (.cons _ (.cons_cons _ (.cons_cons _ .slnil))) 0 rfl (.refl _)) (fun w1 V => qk V ExJ_isS_132 rfl 1 rfl (cs := [.bool ((rb x1)), .slice a1 ((words x1.natAbs).length) ac1]) rfl rfl) λa A↦?_
 refine qh (v := .pointer (some ⟨g4, 4, none⟩)) A 2 rfl rfl rfl rfl hP (V.partD (.cons _ (.cons_cons _ (.cons_cons _ .slnil))) 0 rfl (.refl _)) (fun w1 V => qf ExJ_fld_134_2 rfl rfl) λa A↦?_
 refine qh A 3 rfl rfl rfl rfl hP (V.partD (.cons _ (.cons_cons _ (.cons_cons _ .slnil))) 0 rfl (.refl _)) (fun w1 V => qs V ExJ_is1_22 rfl 0 rfl rfl) λa A↦?_
 refine qh (v := .pointer (some ⟨g4, 0, none⟩)) A 5 rfl rfl rfl rfl hP (V.partD (.cons _ (.cons_cons _ (.cons_cons _ .slnil))) 0 rfl (.refl _)) (fun w1 V => qf ExJ_fld_134_0 rfl rfl) λa A↦?_
 refine qh A 6 rfl rfl rfl rfl hP (V.partD (.cons _ (.cons_cons _ (.cons_cons _ .slnil))) 0 rfl (.refl _)) (fun w1 V => qk V ExJ_isS_132 rfl 0 rfl (cs := [.bool ((rb x2)), .slice u1 ((words x2.natAbs).length) uc1]) rfl rfl) λa A↦?_
 refine qh (v := .pointer (some ⟨g2, 4, none⟩)) A 7 rfl rfl rfl rfl hP (V.partD (.cons _ (.cons_cons _ (.cons_cons _ .slnil))) 0 rfl (.refl _)) (fun w1 V => qf ExJ_fld_134_2 rfl rfl) λa A↦?_
 refine qh A 8 rfl rfl rfl rfl hP (V.partD (.cons _ (.cons_cons _ (.cons_cons _ .slnil))) 0 rfl (.refl _)) (fun w1 V => qs V ExJ_is1_22 rfl 1 rfl rfl) λa A↦?_
 refine qh (v := .pointer (some ⟨g2, 2, none⟩)) A 11 rfl rfl rfl rfl hP (V.partD (.cons _ (.cons_cons _ (.cons_cons _ .slnil))) 0 rfl (.refl _)) (fun w1 V => qf ExJ_fld_134_1 rfl rfl) λa A↦?_
 refine qh A 12 rfl rfl rfl rfl hP (V.partD (.cons _ (.cons_cons _ (.cons_cons _ .slnil))) 0 rfl (.refl _)) (fun w1 V => qk V ExJ_isS_132 rfl 1 rfl (cs := [.bool ((rb y1)), .slice a2 ((words y1.natAbs).length) ac2]) rfl rfl) λa A↦?_
 refine qh (v := .pointer (some ⟨g4, 4, none⟩)) A 13 rfl rfl rfl rfl hP (V.partD (.cons _ (.cons_cons _ (.cons_cons _ .slnil))) 0 rfl (.refl _)) (fun w1 V => qf ExJ_fld_134_2 rfl rfl) λa A↦?_
 refine qh A 14 rfl rfl rfl rfl hP (V.partD (.cons _ (.cons_cons _ (.cons_cons _ .slnil))) 0 rfl (.refl _)) (fun w1 V => qs V ExJ_is1_22 rfl 0 rfl rfl) λa A↦?_
 refine qh (v := .pointer (some ⟨g4, 2, none⟩)) A 16 rfl rfl rfl rfl hP (V.partD (.cons _ (.cons_cons _ (.cons_cons _ .slnil))) 0 rfl (.refl _)) (fun w1 V => qf ExJ_fld_134_1 rfl rfl) λa A↦?_
 refine qh A 17 rfl rfl rfl rfl hP (V.partD (.cons _ (.cons_cons _ (.cons_cons _ .slnil))) 0 rfl (.refl _)) (fun w1 V => qk V ExJ_isS_132 rfl 0 rfl (cs := [.bool ((rb y2)), .slice u2 ((words y2.natAbs).length) uc2]) rfl rfl) λa A↦?_
 refine qh (v := .pointer (some ⟨g2, 4, none⟩)) A 18 rfl rfl rfl rfl hP (V.partD (.cons _ (.cons_cons _ (.cons_cons _ .slnil))) 0 rfl (.refl _)) (fun w1 V => qf ExJ_fld_134_2 rfl rfl) λa A↦?_
 refine qh A 19 rfl rfl rfl rfl hP (V.partD (.cons _ (.cons_cons _ (.cons_cons _ .slnil))) 0 rfl (.refl _)) (fun w1 V => qs V ExJ_is1_22 rfl 1 rfl rfl) λa A↦?_
 refine qh (v := .pointer (some ⟨g2, 4, none⟩)) A 22 rfl rfl rfl rfl hP (V.partD (.cons _ (.cons_cons _ (.cons_cons _ .slnil))) 0 rfl (.refl _)) (fun w1 V => qf ExJ_fld_134_2 rfl rfl) λa A↦?_
 refine qh A 23 rfl rfl rfl rfl hP (V.partD (.cons _ (.cons_cons _ (.cons_cons _ .slnil))) 0 rfl (.refl _)) (fun w1 V => qs V ExJ_is1_22 rfl 1 rfl rfl) λa A↦?_
 refine qh (v := .pointer (some ⟨g4, 4, none⟩)) A 24 rfl rfl rfl rfl hP (V.partD (.cons _ (.cons_cons _ (.cons_cons _ .slnil))) 0 rfl (.refl _)) (fun w1 V => qf ExJ_fld_134_2 rfl rfl) λa A↦?_
 refine qh A 25 rfl rfl rfl rfl hP (V.partD (.cons _ (.cons_cons _ (.cons_cons _ .slnil))) 0 rfl (.refl _)) (fun w1 V => qs V ExJ_is1_22 rfl 0 rfl rfl) λa A↦?_
 refine qt (by kernel_rfl) (zf A 4 rfl rfl rfl rfl (qb  rfl rfl (fun w => by kernel_rfl)) (kh ⟨(V.rd 5 rfl), ha1.nil, ha1.cap⟩ ⟨(V.rd 0 rfl), hu3.nil, hu3.cap⟩ (by omega) (by omega)) ?_)
 rintro _ w13 ⟨zo9, zc10, rfl, hs11, hb12⟩
 replace V := V.call hb12
 replace V := V.addR hs11.rd
 refine ⟨_, rfl, (V.partD (.cons _ (.cons_cons _ (.cons_cons _ .slnil))) 1 rfl (.refl _)), ?_⟩
 intro a A
 refine qt (by kernel_rfl) (zf A 9 rfl rfl rfl rfl (qb  rfl rfl (fun w => by kernel_rfl)) (kh ⟨(V.rd 3 rfl), hu1.nil, hu1.cap⟩ ⟨(V.rd 4 rfl), ha3.nil, ha3.cap⟩ (by omega) (by omega)) ?_)
 rintro _ w18 ⟨zo14, zc15, rfl, hs16, hb17⟩
 replace V := V.call hb17
 replace V := V.addR hs16.rd
 refine ⟨_, rfl, (V.partD (.cons _ (.cons_cons _ (.cons_cons _ .slnil))) 2 rfl (.refl _)), ?_⟩
 intro a A
 refine qt (by kernel_rfl) (zf A 10 rfl rfl rfl rfl (qb  rfl rfl (fun w => by kernel_rfl)) (qrf ⟨(V.rd 1 rfl), hs11.nil, hs11.cap⟩ ⟨(V.rd 0 rfl), hs16.nil, hs16.cap⟩ (by omega) (by omega)) ?_)
 rintro _ w23 ⟨zo19, zc20, rfl, hs21, hb22⟩
 replace V := V.call hb22
 replace V := V.addR hs21.rd
 refine ⟨_, rfl, (V.partD (.cons _ (.cons_cons _ (.cons_cons _ .slnil))) 3 rfl (.refl _)), ?_⟩
 intro a A
 refine qt (by kernel_rfl) (zf A 15 rfl rfl rfl rfl (qb  rfl rfl (fun w => by kernel_rfl)) (kh ⟨(V.rd 7 rfl), ha2.nil, ha2.cap⟩ ⟨(V.rd 3 rfl), hu3.nil, hu3.cap⟩ (by omega) (by omega)) ?_)
 rintro _ w28 ⟨zo24, zc25, rfl, hs26, hb27⟩
 replace V := V.call hb27
 replace V := V.addR hs26.rd
 refine ⟨_, rfl, (V.partD (.cons _ (.cons_cons _ (.cons_cons _ .slnil))) 4 rfl (.refl _)), ?_⟩
 intro a A
 refine qt (by kernel_rfl) (zf A 20 rfl rfl rfl rfl (qb  rfl rfl (fun w => by kernel_rfl)) (kh ⟨(V.rd 5 rfl), hu2.nil, hu2.cap⟩ ⟨(V.rd 7 rfl), ha3.nil, ha3.cap⟩ (by omega) (by omega)) ?_)
 rintro _ w33 ⟨zo29, zc30, rfl, hs31, hb32⟩
 replace V := V.call hb32
 replace V := V.addR hs31.rd
 refine ⟨_, rfl, (V.partD (.cons _ (.cons_cons _ (.cons_cons _ .slnil))) 5 rfl (.refl _)), ?_⟩
 intro a A
 refine qt (by kernel_rfl) (zf A 21 rfl rfl rfl rfl (qb  rfl rfl (fun w => by kernel_rfl)) (qrf ⟨(V.rd 1 rfl), hs26.nil, hs26.cap⟩ ⟨(V.rd 0 rfl), hs31.nil, hs31.cap⟩ (by omega) (by omega)) ?_)
 rintro _ w38 ⟨zo34, zc35, rfl, hs36, hb37⟩
 replace V := V.call hb37
 replace V := V.addR hs36.rd
 refine ⟨_, rfl, (V.partD (.cons _ (.cons_cons _ (.cons_cons _ .slnil))) 6 rfl (.refl _)), ?_⟩
 intro a A
 refine qt (by kernel_rfl) (zf A 26 rfl rfl rfl rfl (qb  rfl rfl (fun w => by kernel_rfl)) (product_any _ _ (V.rd 9 rfl) (V.rd 6 rfl) (by omega) (by omega)) ?_)
 rintro _ w43 ⟨ro39, rc40, rfl, ho41, hb42⟩
 replace V := V.call hb42
 replace V := V.addR ho41.rd
 refine ⟨_, rfl, (V.partD (.cons _ (.cons_cons _ (.cons_cons _ .slnil))) 7 rfl (.refl _)), ?_⟩
 intro a A
 refine qh (v := .agg #[.bool ((rb (x1 * ((d2 : Nat) : Int) + (x2 * ((d1 : Nat) : Int))))), .slice zo19 ((words (x1 * ((d2 : Nat) : Int) + (x2 * ((d1 : Nat) : Int))).natAbs).length) zc20, .bool ((rb (y1 * ((d2 : Nat) : Int) + (y2 * ((d1 : Nat) : Int))))), .slice zo34 ((words (y1 * ((d2 : Nat) : Int) + (y2 * ((d1 : Nat) : Int))).natAbs).length) zc35, .slice ro39 ((words (d1 * d2)).length) rc40]) A 27 rfl rfl rfl rfl hP (V.partD (.cons _ (.cons_cons _ (.cons_cons _ .slnil))) 7 rfl (.refl _)) (fun w1 V => za rfl (fun w => by kernel_rfl)) λa A↦?_
 refine qt (by kernel_rfl) (zp (us := [.bool ((rb (x1 * ((d2 : Nat) : Int) + (x2 * ((d1 : Nat) : Int))))), .slice zo19 ((words (x1 * ((d2 : Nat) : Int) + (x2 * ((d1 : Nat) : Int))).natAbs).length) zc20, .bool ((rb (y1 * ((d2 : Nat) : Int) + (y2 * ((d1 : Nat) : Int))))), .slice zo34 ((words (y1 * ((d2 : Nat) : Int) + (y2 * ((d1 : Nat) : Int))).natAbs).length) zc35, .slice ro39 ((words (d1 * d2)).length) rc40]) A V 28 rfl rfl rfl (qi rfl rfl rfl (by kernel_rfl) V 0 rfl rfl rfl) 0 rfl rfl rfl rfl ?_)
 intro w44 V
 refine ⟨(V.partD (.cons _ (.cons_cons _ (.cons_cons _ .slnil))) 7 rfl (.refl _)), ?_⟩
 refine zn (by kernel_rfl) ?_
 refine hK8 _ _ (wp_ret (hret _ _ (en1 A rfl (qx V ExJ_isS_134 rfl 0 rfl (cs := [.bool ((rb (x1 * ((d2 : Nat) : Int) + (x2 * ((d1 : Nat) : Int))))), .slice zo19 ((words (x1 * ((d2 : Nat) : Int) + (x2 * ((d1 : Nat) : Int))).natAbs).length) zc20, .bool ((rb (y1 * ((d2 : Nat) : Int) + (y2 * ((d1 : Nat) : Int))))), .slice zo34 ((words (y1 * ((d2 : Nat) : Int) + (y2 * ((d1 : Nat) : Int))).natAbs).length) zc35, .slice ro39 ((words (d1 * d2)).length) rc40]) rfl rfl) ?_)))
 exact ⟨zo19, zc20, zo34, zc35, ro39, rc40, rfl, ⟨(V.rd 4 rfl), hs21.nil, hs21.cap⟩, ⟨(V.rd 1 rfl), hs36.nil, hs36.cap⟩, ⟨(V.rd 0 rfl), ho41.nocap, ho41.caps⟩, V.bel⟩
theorem ExK_is1_22 : Is1 Tryz.prog 22 := ⟨⟨_, Tryz.underlying22, rfl⟩, by kernel_rfl⟩
theorem ExK_is1_4 : Is1 Tryz.prog 4 := ⟨⟨_, Tryz.underlying4, rfl⟩, by kernel_rfl⟩
theorem ExK_fld_24_0 : FieldAt Tryz.prog 24 0 0 := ⟨_, _, Tryz.underlying24, rfl, rfl, by kernel_rfl⟩
theorem ExK_fld_24_1 : FieldAt Tryz.prog 24 1 1 := ⟨_, _, Tryz.underlying24, rfl, rfl, by kernel_rfl⟩
theorem ExK_fld_24_2 : FieldAt Tryz.prog 24 2 2 := ⟨_, _, Tryz.underlying24, rfl, rfl, by kernel_rfl⟩
theorem ExK_fld_26_0 : FieldAt Tryz.prog 26 0 0 := ⟨_, _, Tryz.underlying26, rfl, rfl, by kernel_rfl⟩
theorem ExK_fld_26_1 : FieldAt Tryz.prog 26 1 3 := ⟨_, _, Tryz.underlying26, rfl, rfl, by kernel_rfl⟩
theorem ExK_isS_134 : IsS Tryz.prog 134 5 := ⟨⟨_, Tryz.underlying134⟩, by kernel_rfl⟩
theorem qkg {w : World} {u v : Rat} {a1 a2 a3 a4 : Option Addr} {ac1 ac2 ac3 ac4 : Nat} (ha : Nm w (Q6.rat u v) a1 ac1 a2 ac2 a3 ac3 a4 ac4) (hu : jy u) (hv : jy v) : Calls Tryz.prog 85 #[jx (Q6.rat u v) a1 ac1 a2 ac2 a3 ac3 a4 ac4] w (AnsR w (spX u v) (spY u v) (spD u v)) := by
 have k1 : (words u.num.natAbs).length ≤ 512 := hu.1
 have k2 : (words u.den).length ≤ 512 := hu.2
 have k3 : (words v.num.natAbs).length ≤ 512 := hv.1
 have k4 : (words v.den).length ≤ 512 := hv.2
 have k5 : (words (v.den / spG u v)).length ≤ 512 := va hv.2
 have k6 : (words (u.den / spG u v)).length ≤ 512 := va hu.2
 have k7 : (words (spG u v)).length ≤ 512 := qhb v.den_nz hv.2
 have V : St w w [] [(a4, words v.den), (a3, words v.num.natAbs), (a2, words u.den), (a1, words u.num.natAbs)] [] := ((((St.start w).addR ha.s1.rd).addR ha.s2.rd).addR ha.s3.rd).addR ha.s4.rd
 refine qy (l := [(0, .agg #[.bool (rb u.num), .slice a1 ((words u.num.natAbs).length) ac1, .slice a2 ((words u.den).length) ac2, .bool (rb v.num), .slice a3 ((words v.num.natAbs).length) ac3, .slice a4 ((words v.den).length) ac4])]) Tryz.func85 rfl Tryz.ntmps85 rfl rfl ?_
 intro Q hret hnorm hP a A
 refine wsk fun K1 hK1 => wrl (qn A V rfl rfl rfl pg (qw rfl rfl) rfl ?_)
 intro g2 w3 V a A
 refine qn (vs := [.bool false, .slice none 0 0, .bool false, .slice none 0 0, .slice none 0 0]) (t := 134) A V rfl rfl rfl pg (ql (z := .agg #[.bool false, .slice none 0 0, .bool false, .slice none 0 0, .slice none 0 0]) (by kernel_rfl) rfl) rfl ?_
 intro g4 w5 V a A
 refine qa (hK1 _ _ (wsk fun K6 hK6 => wrl (sdo (v := .pointer (some ⟨g2, 0, none⟩)) A (qf ExK_fld_26_0 rfl rfl) λa A↦?_)))
 refine sdo (v := .pointer (some ⟨g2, 2, none⟩)) A (qf ExK_fld_24_2 rfl rfl) λa A↦?_
 refine sdo A (qs V ExK_is1_22 rfl 1 rfl rfl) λa A↦?_
 refine sdo (v := .pointer (some ⟨g2, 3, none⟩)) A (qf ExK_fld_26_1 rfl rfl) λa A↦?_
 refine sdo (v := .pointer (some ⟨g2, 5, none⟩)) A (qf ExK_fld_24_2 rfl rfl) λa A↦?_
 refine sdo A (qs V ExK_is1_22 rfl 1 rfl rfl) λa A↦?_
 refine qg A rfl rfl rfl (qb  rfl rfl (fun w => by kernel_rfl)) (qbj _ _ (V.rd 2 rfl) (V.rd 0 rfl) (by omega) (by omega) ha.s2.nil ha.s4.nil) ?_
 rintro _ w11 ⟨ro7, rc8, rfl, ho9, hb10⟩
 replace V := V.call hb10
 replace V := V.addR ho9.rd
 refine ⟨_, rfl, ?_⟩
 intro a A
 refine sda A λa A↦?_
 refine qa (hK6 _ _ (wsk fun K12 hK12 => wrl (sdo (v := .pointer (some ⟨g2, 3, none⟩)) A (qf ExK_fld_26_1 rfl rfl) λa A↦?_)))
 refine sdo (v := .pointer (some ⟨g2, 5, none⟩)) A (qf ExK_fld_24_2 rfl rfl) λa A↦?_
 refine sdo A (qs V ExK_is1_22 rfl 1 rfl rfl) λa A↦?_
 refine sdm A λa A↦?_
 refine qg A rfl rfl rfl (qb  rfl rfl (fun w => by kernel_rfl)) (divide_any _ _ (V.rd 1 rfl) (V.rd 0 rfl) (by omega) (Nat.le_trans (qhb v.den_nz hv.2) (by decide)) ha.s4.nil (Nat.ne_of_gt (qhe u v))) ?_
 rintro _ w20 ⟨ro13, rc14, uo15, uc16, rfl, ho17, hp18, hb19⟩
 replace V := V.call hb19
 replace V := V.addR ho17.rd
 replace V := V.addR hp18.rd
 refine ⟨_, rfl, ?_⟩
 intro a A
 refine sdm A λa A↦?_
 iterate 2 refine sdo A (qm (vs := [.slice ro13 ((words (v.den / spG u v)).length) rc14, .slice uo15 ((words (v.den % spG u v)).length) uc16]) rfl rfl) λa A↦?_
 iterate 2 refine sda A λa A↦?_
 refine qa (hK12 _ _ (wsk fun K21 hK21 => wrl (sdo (v := .pointer (some ⟨g2, 0, none⟩)) A (qf ExK_fld_26_0 rfl rfl) λa A↦?_)))
 refine sdo (v := .pointer (some ⟨g2, 2, none⟩)) A (qf ExK_fld_24_2 rfl rfl) λa A↦?_
 refine sdo A (qs V ExK_is1_22 rfl 1 rfl rfl) λa A↦?_
 refine sdm A λa A↦?_
 refine qg A rfl rfl rfl (qb  rfl rfl (fun w => by kernel_rfl)) (divide_any _ _ (V.rd 5 rfl) (V.rd 2 rfl) (by omega) (Nat.le_trans (qhb v.den_nz hv.2) (by decide)) ha.s2.nil (Nat.ne_of_gt (qhe u v))) ?_
 rintro _ w29 ⟨ro22, rc23, uo24, uc25, rfl, ho26, hp27, hb28⟩
 replace V := V.call hb28
 replace V := V.addR ho26.rd
 replace V := V.addR hp27.rd
 refine ⟨_, rfl, ?_⟩
 intro a A
 refine sdm A λa A↦?_
 iterate 2 refine sdo A (qm (vs := [.slice ro22 ((words (u.den / spG u v)).length) rc23, .slice uo24 ((words (u.den % spG u v)).length) uc25]) rfl rfl) λa A↦?_
 iterate 2 refine sda A λa A↦?_
 refine qa (hK21 _ _ (wsk fun K30 hK30 => jc (S := fun w1 => St w w1 [(g2, [.bool (rb u.num), .slice a1 ((words u.num.natAbs).length) ac1, .slice a2 ((words u.den).length) ac2, .bool (rb v.num), .slice a3 ((words v.num.natAbs).length) ac3, .slice a4 ((words v.den).length) ac4])] [(uo24, words (u.den % spG u v)), (ro22, words (u.den / spG u v)), (uo15, words (v.den % spG u v)), (ro13, words (v.den / spG u v)), (ro7, words (spG u v)), (a4, words v.den), (a3, words v.num.natAbs), (a2, words u.den), (a1, words u.num.natAbs)] []) (by kernel_rfl) ?_))
 replace V := V.drew
 refine qh (v := .pointer (some ⟨g2, 0, none⟩)) A 0 rfl rfl rfl rfl hP (V.partD (.cons _ (.cons_cons _ .slnil)) 0 rfl (.refl _)) (fun w1 V => qf ExK_fld_26_0 rfl rfl) λa A↦?_
 refine qh (v := .pointer (some ⟨g2, 0, none⟩)) A 1 rfl rfl rfl rfl hP (V.partD (.cons _ (.cons_cons _ .slnil)) 0 rfl (.refl _)) (fun w1 V => qf ExK_fld_24_0 rfl rfl) λa A↦?_
 refine qh A 2 rfl rfl rfl rfl hP (V.partD (.cons _ (.cons_cons _ .slnil)) 0 rfl (.refl _)) (fun w1 V => qs V ExK_is1_4 rfl 0 rfl rfl) λa A↦?_
 refine qh (v := .pointer (some ⟨g2, 0, none⟩)) A 3 rfl rfl rfl rfl hP (V.partD (.cons _ (.cons_cons _ .slnil)) 0 rfl (.refl _)) (fun w1 V => qf ExK_fld_26_0 rfl rfl) λa A↦?_
 refine qh (v := .pointer (some ⟨g2, 1, none⟩)) A 4 rfl rfl rfl rfl hP (V.partD (.cons _ (.cons_cons _ .slnil)) 0 rfl (.refl _)) (fun w1 V => qf ExK_fld_24_1 rfl rfl) λa A↦?_
 refine qh A 5 rfl rfl rfl rfl hP (V.partD (.cons _ (.cons_cons _ .slnil)) 0 rfl (.refl _)) (fun w1 V => qs V ExK_is1_22 rfl 0 rfl rfl) λa A↦?_
 refine qh A 7 rfl rfl rfl rfl hP (V.partD (.cons _ (.cons_cons _ .slnil)) 0 rfl (.refl _)) (fun w1 V => qz rfl) λa A↦?_
 refine qh (v := .pointer (some ⟨g2, 3, none⟩)) A 9 rfl rfl rfl rfl hP (V.partD (.cons _ (.cons_cons _ .slnil)) 0 rfl (.refl _)) (fun w1 V => qf ExK_fld_26_1 rfl rfl) λa A↦?_
 refine qh (v := .pointer (some ⟨g2, 3, none⟩)) A 10 rfl rfl rfl rfl hP (V.partD (.cons _ (.cons_cons _ .slnil)) 0 rfl (.refl _)) (fun w1 V => qf ExK_fld_24_0 rfl rfl) λa A↦?_
 refine qh A 11 rfl rfl rfl rfl hP (V.partD (.cons _ (.cons_cons _ .slnil)) 0 rfl (.refl _)) (fun w1 V => qs V ExK_is1_4 rfl 0 rfl rfl) λa A↦?_
 refine qh (v := .pointer (some ⟨g2, 3, none⟩)) A 12 rfl rfl rfl rfl hP (V.partD (.cons _ (.cons_cons _ .slnil)) 0 rfl (.refl _)) (fun w1 V => qf ExK_fld_26_1 rfl rfl) λa A↦?_
 refine qh (v := .pointer (some ⟨g2, 4, none⟩)) A 13 rfl rfl rfl rfl hP (V.partD (.cons _ (.cons_cons _ .slnil)) 0 rfl (.refl _)) (fun w1 V => qf ExK_fld_24_1 rfl rfl) λa A↦?_
 refine qh A 14 rfl rfl rfl rfl hP (V.partD (.cons _ (.cons_cons _ .slnil)) 0 rfl (.refl _)) (fun w1 V => qs V ExK_is1_22 rfl 0 rfl rfl) λa A↦?_
 refine qh A 16 rfl rfl rfl rfl hP (V.partD (.cons _ (.cons_cons _ .slnil)) 0 rfl (.refl _)) (fun w1 V => qz rfl) λa A↦?_
 refine qh (v := .pointer (some ⟨g2, 0, none⟩)) A 18 rfl rfl rfl rfl hP (V.partD (.cons _ (.cons_cons _ .slnil)) 0 rfl (.refl _)) (fun w1 V => qf ExK_fld_26_0 rfl rfl) λa A↦?_
 refine qh (v := .pointer (some ⟨g2, 2, none⟩)) A 19 rfl rfl rfl rfl hP (V.partD (.cons _ (.cons_cons _ .slnil)) 0 rfl (.refl _)) (fun w1 V => qf ExK_fld_24_2 rfl rfl) λa A↦?_
 refine qh A 20 rfl rfl rfl rfl hP (V.partD (.cons _ (.cons_cons _ .slnil)) 0 rfl (.refl _)) (fun w1 V => qs V ExK_is1_22 rfl 0 rfl rfl) λa A↦?_
 refine qh A 21 rfl rfl rfl rfl hP (V.partD (.cons _ (.cons_cons _ .slnil)) 0 rfl (.refl _)) (fun w1 V => qz rfl) λa A↦?_
 refine qt (by kernel_rfl) (zf A 6 rfl rfl rfl rfl (qb  rfl rfl (fun w => by kernel_rfl)) (xy (b := rb u.num) (n := u.num.natAbs) (z := u.num) ⟨(V.rd 8 rfl), ha.s1.nil, ha.s1.cap⟩ (qih u.num)) ?_)
 rintro _ w35 ⟨zo31, zc32, rfl, hs33, hb34⟩
 replace V := V.call hb34
 replace V := V.addR hs33.rd
 refine ⟨_, rfl, (V.partD (.cons _ (.cons_cons _ .slnil)) 1 rfl (.refl _)), ?_⟩
 intro a A
 refine qt (by kernel_rfl) (zf A 8 rfl rfl rfl rfl (qb  rfl rfl (fun w => by kernel_rfl)) (kh ⟨(V.rd 0 rfl), hs33.nil, hs33.cap⟩ ⟨(V.rd 4 rfl), ho17.nocap, ho17.caps⟩ (by omega) (by omega)) ?_)
 rintro _ w40 ⟨zo36, zc37, rfl, hs38, hb39⟩
 replace V := V.call hb39
 replace V := V.addR hs38.rd
 refine ⟨_, rfl, (V.partD (.cons _ (.cons_cons _ .slnil)) 2 rfl (.refl _)), ?_⟩
 intro a A
 refine qt (by kernel_rfl) (zf A 15 rfl rfl rfl rfl (qb  rfl rfl (fun w => by kernel_rfl)) (xy (b := rb v.num) (n := v.num.natAbs) (z := v.num) ⟨(V.rd 8 rfl), ha.s3.nil, ha.s3.cap⟩ (qih v.num)) ?_)
 rintro _ w45 ⟨zo41, zc42, rfl, hs43, hb44⟩
 replace V := V.call hb44
 replace V := V.addR hs43.rd
 refine ⟨_, rfl, (V.partD (.cons _ (.cons_cons _ .slnil)) 3 rfl (.refl _)), ?_⟩
 intro a A
 refine qt (by kernel_rfl) (zf A 17 rfl rfl rfl rfl (qb  rfl rfl (fun w => by kernel_rfl)) (kh ⟨(V.rd 0 rfl), hs43.nil, hs43.cap⟩ ⟨(V.rd 4 rfl), ho26.nocap, ho26.caps⟩ (by omega) (by omega)) ?_)
 rintro _ w50 ⟨zo46, zc47, rfl, hs48, hb49⟩
 replace V := V.call hb49
 replace V := V.addR hs48.rd
 refine ⟨_, rfl, (V.partD (.cons _ (.cons_cons _ .slnil)) 4 rfl (.refl _)), ?_⟩
 intro a A
 refine qt (by kernel_rfl) (zf A 22 rfl rfl rfl rfl (qb  rfl rfl (fun w => by kernel_rfl)) (product_any _ _ (V.rd 11 rfl) (V.rd 7 rfl) (by omega) (by omega)) ?_)
 rintro _ w55 ⟨ro51, rc52, rfl, ho53, hb54⟩
 replace V := V.call hb54
 replace V := V.addR ho53.rd
 refine ⟨_, rfl, (V.partD (.cons _ (.cons_cons _ .slnil)) 5 rfl (.refl _)), ?_⟩
 intro a A
 refine qh (v := .agg #[.bool ((rb (u.num * ((v.den / spG u v : Nat) : Int)))), .slice zo36 ((words (u.num * ((v.den / spG u v : Nat) : Int)).natAbs).length) zc37, .bool ((rb (v.num * ((u.den / spG u v : Nat) : Int)))), .slice zo46 ((words (v.num * ((u.den / spG u v : Nat) : Int)).natAbs).length) zc47, .slice ro51 ((words (u.den * (v.den / spG u v))).length) rc52]) A 23 rfl rfl rfl rfl hP (V.partD (.cons _ (.cons_cons _ .slnil)) 5 rfl (.refl _)) (fun w1 V => za rfl (fun w => by kernel_rfl)) λa A↦?_
 refine qt (by kernel_rfl) (zp (us := [.bool ((rb (u.num * ((v.den / spG u v : Nat) : Int)))), .slice zo36 ((words (u.num * ((v.den / spG u v : Nat) : Int)).natAbs).length) zc37, .bool ((rb (v.num * ((u.den / spG u v : Nat) : Int)))), .slice zo46 ((words (v.num * ((u.den / spG u v : Nat) : Int)).natAbs).length) zc47, .slice ro51 ((words (u.den * (v.den / spG u v))).length) rc52]) A V 24 rfl rfl rfl (qi rfl rfl rfl (by kernel_rfl) V 0 rfl rfl rfl) 0 rfl rfl rfl rfl ?_)
 intro w56 V
 refine ⟨(V.partD (.cons _ (.cons_cons _ .slnil)) 5 rfl (.refl _)), ?_⟩
 refine zn (by kernel_rfl) ?_
 refine hK30 _ _ (wp_ret (hret _ _ (en1 A rfl (qx V ExK_isS_134 rfl 0 rfl (cs := [.bool ((rb (u.num * ((v.den / spG u v : Nat) : Int)))), .slice zo36 ((words (u.num * ((v.den / spG u v : Nat) : Int)).natAbs).length) zc37, .bool ((rb (v.num * ((u.den / spG u v : Nat) : Int)))), .slice zo46 ((words (v.num * ((u.den / spG u v : Nat) : Int)).natAbs).length) zc47, .slice ro51 ((words (u.den * (v.den / spG u v))).length) rc52]) rfl rfl) ?_)))
 exact ⟨zo36, zc37, zo46, zc47, ro51, rc52, rfl, ⟨(V.rd 3 rfl), hs38.nil, hs38.cap⟩, ⟨(V.rd 1 rfl), hs48.nil, hs48.cap⟩, ⟨(V.rd 0 rfl), ho53.nocap, ho53.caps⟩, V.bel⟩
theorem zdi {w : World} {x y : Int} {d : Nat} {a1 a2 a3 : Option Addr} {ac1 ac2 ac3 : Nat} (ha1 : Sc w a1 ac1 (words x.natAbs)) (ha2 : Sc w a2 ac2 (words y.natAbs)) (ha3 : Sc w a3 ac3 (words d)) {r : Q6 × Int} (h : qmg x y d = r) (l1 : (words x.natAbs).length ≤ 50000) (l2 : (words y.natAbs).length ≤ 50000) (l3 : (words d).length ≤ 50000) (hd : d ≠ 0) : Calls Tryz.prog 84 #[.agg #[.bool (rb x), .slice a1 (words x.natAbs).length ac1, .bool (rb y), .slice a2 (words y.natAbs).length ac2, .slice a3 (words d).length ac3]] w (AnsN w r) := h ▸ qza ha1 ha2 ha3 l1 l2 l3 hd
theorem ExL_isS_26 : IsS Tryz.prog 26 6 := ⟨⟨_, Tryz.underlying26⟩, by kernel_rfl⟩
theorem quf {F : FuncId} {w : World} {p q : Q6} {a1 a2 a3 a4 : Option Addr} {ac1 ac2 ac3 ac4 : Nat} (ha : Nm w p a1 ac1 a2 ac2 a3 ac3 a4 ac4) (hl : LenQ p) {u1 u2 u3 u4 : Option Addr} {uc1 uc2 uc3 uc4 : Nat} (hb : Nm w q u1 uc1 u2 uc2 u3 uc3 u4 uc4) (hm : LenQ q) (h1 : je p = false) : Calls Tryz.prog 37 #[.func (.func F) #[] #[], jx p a1 ac1 a2 ac2 a3 ac3 a4 ac4, jx q u1 uc1 u2 uc2 u3 uc3 u4 uc4] w (AnsN w (Q6.zero, 2)) := by
 have V : St w w [] [(u4, q.q2), (u3, q.t2), (u2, q.q1), (u1, q.t1), (a4, p.q2), (a3, p.t2), (a2, p.q1), (a1, p.t1)] [] := ((((((((St.start w).addR ha.s1.rd).addR ha.s2.rd).addR ha.s3.rd).addR ha.s4.rd).addR hb.s1.rd).addR hb.s2.rd).addR hb.s3.rd).addR hb.s4.rd
 refine qy (l := [(0, .func (.func F) #[] #[]), (1, .agg #[.bool p.b1, .slice a1 p.t1.length ac1, .slice a2 p.q1.length ac2, .bool p.b2, .slice a3 p.t2.length ac3, .slice a4 p.q2.length ac4]), (2, .agg #[.bool q.b1, .slice u1 q.t1.length uc1, .slice u2 q.q1.length uc2, .bool q.b2, .slice u3 q.t2.length uc3, .slice u4 q.q2.length uc4])]) Tryz.func37 rfl Tryz.ntmps37 rfl rfl ?_
 intro Q hret hnorm hP a A
 refine wsk fun K1 hK1 => wrl (qn A V rfl rfl rfl pg (qw rfl rfl) rfl ?_)
 intro g2 w3 V a A
 refine qn A V rfl rfl rfl pg (qw rfl rfl) rfl ?_
 intro g4 w5 V a A
 refine qn (vs := [.bool false, .slice none 0 0, .slice none 0 0, .bool false, .slice none 0 0, .slice none 0 0]) (t := 26) A V rfl rfl rfl pg (ql (z := .agg #[.bool false, .slice none 0 0, .slice none 0 0, .bool false, .slice none 0 0, .slice none 0 0]) (by kernel_rfl) rfl) rfl ?_
 intro g6 w7 V a A
 refine sda A λa A↦?_
 refine qa (hK1 _ _ (wsk fun K8 hK8 => wsk fun K9 hK9 => wrl (sdo A (qk V ExL_isS_26 rfl 2 rfl (cs := [.bool p.b1, .slice a1 p.t1.length ac1, .slice a2 p.q1.length ac2, .bool p.b2, .slice a3 p.t2.length ac3, .slice a4 p.q2.length ac4]) rfl rfl) λa A↦?_)))
 refine qg A rfl rfl rfl (qb  rfl rfl (fun w => by kernel_rfl)) (jf (show Nm _ p a1 ac1 a2 ac2 a3 ac3 a4 ac4 from ⟨⟨(V.rd 7 rfl), ha.s1.nil, ha.s1.cap⟩, ⟨(V.rd 6 rfl), ha.s2.nil, ha.s2.cap⟩, ⟨(V.rd 5 rfl), ha.s3.nil, ha.s3.cap⟩, ⟨(V.rd 4 rfl), ha.s4.nil, ha.s4.cap⟩⟩) hl h1) ?_
 rintro _ w11 ⟨rfl, hb10⟩
 replace V := V.call hb10
 refine ⟨_, rfl, ?_⟩
 intro a A
 refine sdo (v := .bool true) A (zk rfl zv) λa A↦?_
 refine sdm A λa A↦?_
 iterate 3 refine ze A rfl rfl rfl λa A↦?_
 refine sdk (v := .bool true) A λa A↦?_
 refine qa (hK9 _ _ (wp_cond_true (A.ev rfl) ?_))
 refine wsk fun K12 hK12 => wrl (sdo (v := .agg #[.bool false, .slice none 0 0, .slice none 0 0, .bool false, .slice none 0 0, .slice none 0 0]) A (za rfl (fun w => by kernel_rfl)) λa A↦?_)
 refine qr (us := [.bool false, .slice none 0 0, .slice none 0 0, .bool false, .slice none 0 0, .slice none 0 0]) A V rfl rfl (qi rfl rfl rfl (by kernel_rfl) V 0 rfl rfl rfl) 0 rfl rfl rfl rfl ?_
 intro w13 V
 refine sda A λa A↦?_
 refine qa (hK12 _ _ (wp_ret (hret _ _ (en2 A rfl (qx V ExL_isS_26 rfl 0 rfl (cs := [.bool false, .slice none 0 0, .slice none 0 0, .bool false, .slice none 0 0, .slice none 0 0]) rfl rfl) (qj rfl) ?_))))
 exact ⟨none, 0, none, 0, none, 0, none, 0, rfl, ⟨(Sc.none _), (Sc.none _), (Sc.none _), (Sc.none _)⟩, V.bel⟩
theorem qug {F : FuncId} {w : World} {p q : Q6} {a1 a2 a3 a4 : Option Addr} {ac1 ac2 ac3 ac4 : Nat} (ha : Nm w p a1 ac1 a2 ac2 a3 ac3 a4 ac4) (hl : LenQ p) {u1 u2 u3 u4 : Option Addr} {uc1 uc2 uc3 uc4 : Nat} (hb : Nm w q u1 uc1 u2 uc2 u3 uc3 u4 uc4) (hm : LenQ q) (h1 : je p = true) (h2 : je q = false) : Calls Tryz.prog 37 #[.func (.func F) #[] #[], jx p a1 ac1 a2 ac2 a3 ac3 a4 ac4, jx q u1 uc1 u2 uc2 u3 uc3 u4 uc4] w (AnsN w (Q6.zero, 2)) := by
 have V : St w w [] [(u4, q.q2), (u3, q.t2), (u2, q.q1), (u1, q.t1), (a4, p.q2), (a3, p.t2), (a2, p.q1), (a1, p.t1)] [] := ((((((((St.start w).addR ha.s1.rd).addR ha.s2.rd).addR ha.s3.rd).addR ha.s4.rd).addR hb.s1.rd).addR hb.s2.rd).addR hb.s3.rd).addR hb.s4.rd
 refine qy (l := [(0, .func (.func F) #[] #[]), (1, .agg #[.bool p.b1, .slice a1 p.t1.length ac1, .slice a2 p.q1.length ac2, .bool p.b2, .slice a3 p.t2.length ac3, .slice a4 p.q2.length ac4]), (2, .agg #[.bool q.b1, .slice u1 q.t1.length uc1, .slice u2 q.q1.length uc2, .bool q.b2, .slice u3 q.t2.length uc3, .slice u4 q.q2.length uc4])]) Tryz.func37 rfl Tryz.ntmps37 rfl rfl ?_
 intro Q hret hnorm hP a A
 refine wsk fun K1 hK1 => wrl (qn A V rfl rfl rfl pg (qw rfl rfl) rfl ?_)
 intro g2 w3 V a A
 refine qn A V rfl rfl rfl pg (qw rfl rfl) rfl ?_
 intro g4 w5 V a A
 refine qn (vs := [.bool false, .slice none 0 0, .slice none 0 0, .bool false, .slice none 0 0, .slice none 0 0]) (t := 26) A V rfl rfl rfl pg (ql (z := .agg #[.bool false, .slice none 0 0, .slice none 0 0, .bool false, .slice none 0 0, .slice none 0 0]) (by kernel_rfl) rfl) rfl ?_
 intro g6 w7 V a A
 refine sda A λa A↦?_
 refine qa (hK1 _ _ (wsk fun K8 hK8 => wsk fun K9 hK9 => wrl (sdo A (qk V ExL_isS_26 rfl 2 rfl (cs := [.bool p.b1, .slice a1 p.t1.length ac1, .slice a2 p.q1.length ac2, .bool p.b2, .slice a3 p.t2.length ac3, .slice a4 p.q2.length ac4]) rfl rfl) λa A↦?_)))
 refine qg A rfl rfl rfl (qb  rfl rfl (fun w => by kernel_rfl)) (jf (show Nm _ p a1 ac1 a2 ac2 a3 ac3 a4 ac4 from ⟨⟨(V.rd 7 rfl), ha.s1.nil, ha.s1.cap⟩, ⟨(V.rd 6 rfl), ha.s2.nil, ha.s2.cap⟩, ⟨(V.rd 5 rfl), ha.s3.nil, ha.s3.cap⟩, ⟨(V.rd 4 rfl), ha.s4.nil, ha.s4.cap⟩⟩) hl h1) ?_
 rintro _ w11 ⟨rfl, hb10⟩
 replace V := V.call hb10
 refine ⟨_, rfl, ?_⟩
 intro a A
 refine sdo (v := .bool false) A (zk rfl zv) λa A↦?_
 refine sdm A λa A↦?_
 refine sdo A (qk V ExL_isS_26 rfl 1 rfl (cs := [.bool q.b1, .slice u1 q.t1.length uc1, .slice u2 q.q1.length uc2, .bool q.b2, .slice u3 q.t2.length uc3, .slice u4 q.q2.length uc4]) rfl rfl) λa A↦?_
 refine qg A rfl rfl rfl (qb  rfl rfl (fun w => by kernel_rfl)) (jf (show Nm _ q u1 uc1 u2 uc2 u3 uc3 u4 uc4 from ⟨⟨(V.rd 3 rfl), hb.s1.nil, hb.s1.cap⟩, ⟨(V.rd 2 rfl), hb.s2.nil, hb.s2.cap⟩, ⟨(V.rd 1 rfl), hb.s3.nil, hb.s3.cap⟩, ⟨(V.rd 0 rfl), hb.s4.nil, hb.s4.cap⟩⟩) hm h2) ?_
 rintro _ w13 ⟨rfl, hb12⟩
 replace V := V.call hb12
 refine ⟨_, rfl, ?_⟩
 intro a A
 refine sdo (v := .bool true) A (zk rfl zv) λa A↦?_
 refine sdk (v := .bool true) A λa A↦?_
 refine qa (hK9 _ _ (wp_cond_true (A.ev rfl) ?_))
 refine wsk fun K14 hK14 => wrl (sdo (v := .agg #[.bool false, .slice none 0 0, .slice none 0 0, .bool false, .slice none 0 0, .slice none 0 0]) A (za rfl (fun w => by kernel_rfl)) λa A↦?_)
 refine qr (us := [.bool false, .slice none 0 0, .slice none 0 0, .bool false, .slice none 0 0, .slice none 0 0]) A V rfl rfl (qi rfl rfl rfl (by kernel_rfl) V 0 rfl rfl rfl) 0 rfl rfl rfl rfl ?_
 intro w15 V
 refine sda A λa A↦?_
 refine qa (hK14 _ _ (wp_ret (hret _ _ (en2 A rfl (qx V ExL_isS_26 rfl 0 rfl (cs := [.bool false, .slice none 0 0, .slice none 0 0, .bool false, .slice none 0 0, .slice none 0 0]) rfl rfl) (qj rfl) ?_))))
 exact ⟨none, 0, none, 0, none, 0, none, 0, rfl, ⟨(Sc.none _), (Sc.none _), (Sc.none _), (Sc.none _)⟩, V.bel⟩
theorem qzb {w : World} {u v x y : Rat} {a1 a2 a3 a4 : Option Addr} {ac1 ac2 ac3 ac4 : Nat} (ha : Nm w (Q6.rat u v) a1 ac1 a2 ac2 a3 ac3 a4 ac4) {u1 u2 u3 u4 : Option Addr} {uc1 uc2 uc3 uc4 : Nat} (hb : Nm w (Q6.rat x y) u1 uc1 u2 uc2 u3 uc3 u4 uc4) (hu : jy u) (hv : jy v) (hx : jy x) (hy : jy y) : Calls Tryz.prog 37 #[.func (.func 38) #[] #[], jx (Q6.rat u v) a1 ac1 a2 ac2 a3 ac3 a4 ac4, jx (Q6.rat x y) u1 uc1 u2 uc2 u3 uc3 u4 uc4] w (AnsN w (xr (u + x) (v + y))) := by
 have V : St w w [] [(u4, words y.den), (u3, words y.num.natAbs), (u2, words x.den), (u1, words x.num.natAbs), (a4, words v.den), (a3, words v.num.natAbs), (a2, words u.den), (a1, words u.num.natAbs)] [] := ((((((((St.start w).addR ha.s1.rd).addR ha.s2.rd).addR ha.s3.rd).addR ha.s4.rd).addR hb.s1.rd).addR hb.s2.rd).addR hb.s3.rd).addR hb.s4.rd
 refine qy (l := [(0, .func (.func 38) #[] #[]), (1, .agg #[.bool (rb u.num), .slice a1 ((words u.num.natAbs).length) ac1, .slice a2 ((words u.den).length) ac2, .bool (rb v.num), .slice a3 ((words v.num.natAbs).length) ac3, .slice a4 ((words v.den).length) ac4]), (2, .agg #[.bool (rb x.num), .slice u1 ((words x.num.natAbs).length) uc1, .slice u2 ((words x.den).length) uc2, .bool (rb y.num), .slice u3 ((words y.num.natAbs).length) uc3, .slice u4 ((words y.den).length) uc4])]) Tryz.func37 rfl Tryz.ntmps37 rfl rfl ?_
 intro Q hret hnorm hP a A
 refine wsk fun K1 hK1 => wrl (qn A V rfl rfl rfl pg (qw rfl rfl) rfl ?_)
 intro g2 w3 V a A
 refine qn A V rfl rfl rfl pg (qw rfl rfl) rfl ?_
 intro g4 w5 V a A
 refine qn (vs := [.bool false, .slice none 0 0, .slice none 0 0, .bool false, .slice none 0 0, .slice none 0 0]) (t := 26) A V rfl rfl rfl pg (ql (z := .agg #[.bool false, .slice none 0 0, .slice none 0 0, .bool false, .slice none 0 0, .slice none 0 0]) (by kernel_rfl) rfl) rfl ?_
 intro g6 w7 V a A
 refine sda A λa A↦?_
 refine qa (hK1 _ _ (wsk fun K8 hK8 => wsk fun K9 hK9 => wrl (sdo A (qk V ExL_isS_26 rfl 2 rfl (cs := [.bool (rb u.num), .slice a1 ((words u.num.natAbs).length) ac1, .slice a2 ((words u.den).length) ac2, .bool (rb v.num), .slice a3 ((words v.num.natAbs).length) ac3, .slice a4 ((words v.den).length) ac4]) rfl rfl) λa A↦?_)))
 refine qg A rfl rfl rfl (qb  rfl rfl (fun w => by kernel_rfl)) (jf (show Nm _ (Q6.rat u v) a1 ac1 a2 ac2 a3 ac3 a4 ac4 from ⟨⟨(V.rd 7 rfl), ha.s1.nil, ha.s1.cap⟩, ⟨(V.rd 6 rfl), ha.s2.nil, ha.s2.cap⟩, ⟨(V.rd 5 rfl), ha.s3.nil, ha.s3.cap⟩, ⟨(V.rd 4 rfl), ha.s4.nil, ha.s4.cap⟩⟩) (qnc hu hv) (ya hu hv)) ?_
 rintro _ w11 ⟨rfl, hb10⟩
 replace V := V.call hb10
 refine ⟨_, rfl, ?_⟩
 intro a A
 refine sdo (v := .bool false) A (zk rfl zv) λa A↦?_
 refine sdm A λa A↦?_
 refine sdo A (qk V ExL_isS_26 rfl 1 rfl (cs := [.bool (rb x.num), .slice u1 ((words x.num.natAbs).length) uc1, .slice u2 ((words x.den).length) uc2, .bool (rb y.num), .slice u3 ((words y.num.natAbs).length) uc3, .slice u4 ((words y.den).length) uc4]) rfl rfl) λa A↦?_
 refine qg A rfl rfl rfl (qb  rfl rfl (fun w => by kernel_rfl)) (jf (show Nm _ (Q6.rat x y) u1 uc1 u2 uc2 u3 uc3 u4 uc4 from ⟨⟨(V.rd 3 rfl), hb.s1.nil, hb.s1.cap⟩, ⟨(V.rd 2 rfl), hb.s2.nil, hb.s2.cap⟩, ⟨(V.rd 1 rfl), hb.s3.nil, hb.s3.cap⟩, ⟨(V.rd 0 rfl), hb.s4.nil, hb.s4.cap⟩⟩) (qnc hx hy) (ya hx hy)) ?_
 rintro _ w13 ⟨rfl, hb12⟩
 replace V := V.call hb12
 refine ⟨_, rfl, ?_⟩
 intro a A
 refine sdo (v := .bool false) A (zk rfl zv) λa A↦?_
 refine sdk (v := .bool false) A λa A↦?_
 refine qa (hK9 _ _ (wp_cond_false (A.ev rfl) ?_))
 refine wp_skip (hK8 _ _ (wsk fun K14 hK14 => jc (S := fun w1 => St w w1 [(g4, [.bool (rb x.num), .slice u1 ((words x.num.natAbs).length) uc1, .slice u2 ((words x.den).length) uc2, .bool (rb y.num), .slice u3 ((words y.num.natAbs).length) uc3, .slice u4 ((words y.den).length) uc4]), (g2, [.bool (rb u.num), .slice a1 ((words u.num.natAbs).length) ac1, .slice a2 ((words u.den).length) ac2, .bool (rb v.num), .slice a3 ((words v.num.natAbs).length) ac3, .slice a4 ((words v.den).length) ac4])] [(u4, words y.den), (u3, words y.num.natAbs), (u2, words x.den), (u1, words x.num.natAbs), (a4, words v.den), (a3, words v.num.natAbs), (a2, words u.den), (a1, words u.num.natAbs)] []) (by kernel_rfl) ?_))
 replace V := V.drew
 refine qh A 0 rfl rfl rfl rfl hP (V.partD (.cons _ (.cons_cons _ (.cons_cons _ .slnil))) 0 rfl (.refl _)) (fun w1 V => qz rfl) λa A↦?_
 refine qh A 1 rfl rfl rfl rfl hP (V.partD (.cons _ (.cons_cons _ (.cons_cons _ .slnil))) 0 rfl (.refl _)) (fun w1 V => qk V ExL_isS_26 rfl 1 rfl (cs := [.bool (rb u.num), .slice a1 ((words u.num.natAbs).length) ac1, .slice a2 ((words u.den).length) ac2, .bool (rb v.num), .slice a3 ((words v.num.natAbs).length) ac3, .slice a4 ((words v.den).length) ac4]) rfl rfl) λa A↦?_
 refine qh A 3 rfl rfl rfl rfl hP (V.partD (.cons _ (.cons_cons _ (.cons_cons _ .slnil))) 0 rfl (.refl _)) (fun w1 V => qk V ExL_isS_26 rfl 0 rfl (cs := [.bool (rb x.num), .slice u1 ((words x.num.natAbs).length) uc1, .slice u2 ((words x.den).length) uc2, .bool (rb y.num), .slice u3 ((words y.num.natAbs).length) uc3, .slice u4 ((words y.den).length) uc4]) rfl rfl) λa A↦?_
 refine qt (by kernel_rfl) (zf A 2 rfl rfl rfl rfl (qb  rfl rfl (fun w => by kernel_rfl)) (qkg (show Nm _ (Q6.rat u v) a1 ac1 a2 ac2 a3 ac3 a4 ac4 from ⟨⟨(V.rd 7 rfl), ha.s1.nil, ha.s1.cap⟩, ⟨(V.rd 6 rfl), ha.s2.nil, ha.s2.cap⟩, ⟨(V.rd 5 rfl), ha.s3.nil, ha.s3.cap⟩, ⟨(V.rd 4 rfl), ha.s4.nil, ha.s4.cap⟩⟩) hu hv) ?_)
 rintro _ w20 ⟨p15_1, p15_c1, p15_2, p15_c2, p15_3, p15_c3, rfl, hs16, hs17, hs18, hb19⟩
 replace V := V.call hb19
 replace V := V.addR hs16.rd
 replace V := V.addR hs17.rd
 replace V := V.addR hs18.rd
 refine ⟨_, rfl, (V.partD (.cons _ (.cons_cons _ (.cons_cons _ .slnil))) 3 rfl (.refl _)), ?_⟩
 intro a A
 refine qt (by kernel_rfl) (zf A 4 rfl rfl rfl rfl (qb  rfl rfl (fun w => by kernel_rfl)) (qkg (show Nm _ (Q6.rat x y) u1 uc1 u2 uc2 u3 uc3 u4 uc4 from ⟨⟨(V.rd 6 rfl), hb.s1.nil, hb.s1.cap⟩, ⟨(V.rd 5 rfl), hb.s2.nil, hb.s2.cap⟩, ⟨(V.rd 4 rfl), hb.s3.nil, hb.s3.cap⟩, ⟨(V.rd 3 rfl), hb.s4.nil, hb.s4.cap⟩⟩) hx hy) ?_)
 rintro _ w26 ⟨p21_1, p21_c1, p21_2, p21_c2, p21_3, p21_c3, rfl, hs22, hs23, hs24, hb25⟩
 replace V := V.call hb25
 replace V := V.addR hs22.rd
 replace V := V.addR hs23.rd
 replace V := V.addR hs24.rd
 refine ⟨_, rfl, (V.partD (.cons _ (.cons_cons _ (.cons_cons _ .slnil))) 6 rfl (.refl _)), ?_⟩
 intro a A
 refine qt (by kernel_rfl) (zf A 5 rfl rfl rfl rfl (qb  rfl rfl (fun w => by kernel_rfl)) (zrb ⟨(V.rd 5 rfl), hs16.nil, hs16.cap⟩ ⟨(V.rd 4 rfl), hs17.nil, hs17.cap⟩ ⟨(V.rd 3 rfl), hs18.nil, hs18.cap⟩ ⟨(V.rd 2 rfl), hs22.nil, hs22.cap⟩ ⟨(V.rd 1 rfl), hs23.nil, hs23.cap⟩ ⟨(V.rd 0 rfl), hs24.nil, hs24.cap⟩ (Nat.le_trans (qlf hu hv) (by decide)) (Nat.le_trans (qlg hu hv) (by decide)) (Nat.le_trans (ua hu hv) (by decide)) (Nat.le_trans (qlf hx hy) (by decide)) (Nat.le_trans (qlg hx hy) (by decide)) (Nat.le_trans (ua hx hy) (by decide))) ?_)
 rintro _ w32 ⟨p27_1, p27_c1, p27_2, p27_c2, p27_3, p27_c3, rfl, hs28, hs29, hs30, hb31⟩
 replace V := V.call hb31
 replace V := V.addR hs28.rd
 replace V := V.addR hs29.rd
 replace V := V.addR hs30.rd
 refine ⟨_, rfl, (V.partD (.cons _ (.cons_cons _ (.cons_cons _ .slnil))) 9 rfl (.refl _)), ?_⟩
 intro a A
 refine qt (by kernel_rfl) (zf A 6 rfl rfl rfl rfl (qb  rfl rfl (fun w => by kernel_rfl)) (zdi ⟨(V.rd 2 rfl), hs28.nil, hs28.cap⟩ ⟨(V.rd 1 rfl), hs29.nil, hs29.cap⟩ ⟨(V.rd 0 rfl), hs30.nil, hs30.cap⟩ (zxg (qub u v) (qub x y) (zpd u v) (zpe u v) (zpd x y) (zpe x y)) (Nat.le_trans (qka (xg (qlf hu hv) (kg (ua hx hy))) (xg (qlf hx hy) (kg (ua hu hv)))) (by decide)) (Nat.le_trans (qka (xg (qlg hu hv) (kg (ua hx hy))) (xg (qlg hx hy) (kg (ua hu hv)))) (by decide)) (Nat.le_trans (words_mul_length (ua hu hv) (ua hx hy)) (by decide)) (Nat.mul_ne_zero (qub u v) (qub x y))) ?_)
 rintro _ w36 ⟨p33_1, p33_c1, p33_2, p33_c2, p33_3, p33_c3, p33_4, p33_c4, rfl, hn34, hb35⟩
 replace V := V.call hb35
 replace V := V.addR hn34.s1.rd
 replace V := V.addR hn34.s2.rd
 replace V := V.addR hn34.s3.rd
 replace V := V.addR hn34.s4.rd
 refine ⟨_, rfl, (V.partD (.cons _ (.cons_cons _ (.cons_cons _ .slnil))) 13 rfl (.refl _)), ?_⟩
 intro a A
 refine qh (v := .agg #[.bool ((xr (u + x) (v + y)).1.b1), .slice p33_1 (((xr (u + x) (v + y)).1.t1).length) p33_c1, .slice p33_2 (((xr (u + x) (v + y)).1.q1).length) p33_c2, .bool ((xr (u + x) (v + y)).1.b2), .slice p33_3 (((xr (u + x) (v + y)).1.t2).length) p33_c3, .slice p33_4 (((xr (u + x) (v + y)).1.q2).length) p33_c4]) A 7 rfl rfl rfl rfl hP (V.partD (.cons _ (.cons_cons _ (.cons_cons _ .slnil))) 13 rfl (.refl _)) (fun w1 V => qm (vs := [.agg #[.bool ((xr (u + x) (v + y)).1.b1), .slice p33_1 (((xr (u + x) (v + y)).1.t1).length) p33_c1, .slice p33_2 (((xr (u + x) (v + y)).1.q1).length) p33_c2, .bool ((xr (u + x) (v + y)).1.b2), .slice p33_3 (((xr (u + x) (v + y)).1.t2).length) p33_c3, .slice p33_4 (((xr (u + x) (v + y)).1.q2).length) p33_c4], .int .i64 ((xr (u + x) (v + y)).2)]) rfl rfl) λa A↦?_
 refine qh (v := .int .i64 ((xr (u + x) (v + y)).2)) A 8 rfl rfl rfl rfl hP (V.partD (.cons _ (.cons_cons _ (.cons_cons _ .slnil))) 13 rfl (.refl _)) (fun w1 V => qm (vs := [.agg #[.bool ((xr (u + x) (v + y)).1.b1), .slice p33_1 (((xr (u + x) (v + y)).1.t1).length) p33_c1, .slice p33_2 (((xr (u + x) (v + y)).1.q1).length) p33_c2, .bool ((xr (u + x) (v + y)).1.b2), .slice p33_3 (((xr (u + x) (v + y)).1.t2).length) p33_c3, .slice p33_4 (((xr (u + x) (v + y)).1.q2).length) p33_c4], .int .i64 ((xr (u + x) (v + y)).2)]) rfl rfl) λa A↦?_
 refine qt (by kernel_rfl) (zp (us := [.bool ((xr (u + x) (v + y)).1.b1), .slice p33_1 (((xr (u + x) (v + y)).1.t1).length) p33_c1, .slice p33_2 (((xr (u + x) (v + y)).1.q1).length) p33_c2, .bool ((xr (u + x) (v + y)).1.b2), .slice p33_3 (((xr (u + x) (v + y)).1.t2).length) p33_c3, .slice p33_4 (((xr (u + x) (v + y)).1.q2).length) p33_c4]) A V 9 rfl rfl rfl (qi rfl rfl rfl (by kernel_rfl) V 0 rfl rfl rfl) 0 rfl rfl rfl rfl ?_)
 intro w37 V
 refine ⟨(V.partD (.cons _ (.cons_cons _ (.cons_cons _ .slnil))) 13 rfl (.refl _)), ?_⟩
 refine qh A 10 rfl rfl rfl rfl hP (V.partD (.cons _ (.cons_cons _ (.cons_cons _ .slnil))) 13 rfl (.refl _)) (fun w1 V => zh rfl) λa A↦?_
 refine zn (by kernel_rfl) ?_
 refine hK14 _ _ (wp_ret (hret _ _ (en2 A rfl (qx V ExL_isS_26 rfl 0 rfl (cs := [.bool ((xr (u + x) (v + y)).1.b1), .slice p33_1 (((xr (u + x) (v + y)).1.t1).length) p33_c1, .slice p33_2 (((xr (u + x) (v + y)).1.q1).length) p33_c2, .bool ((xr (u + x) (v + y)).1.b2), .slice p33_3 (((xr (u + x) (v + y)).1.t2).length) p33_c3, .slice p33_4 (((xr (u + x) (v + y)).1.q2).length) p33_c4]) rfl rfl) (qj rfl) ?_)))
 exact ⟨p33_1, p33_c1, p33_2, p33_c2, p33_3, p33_c3, p33_4, p33_c4, rfl, ⟨⟨(V.rd 3 rfl), hn34.s1.nil, hn34.s1.cap⟩, ⟨(V.rd 2 rfl), hn34.s2.nil, hn34.s2.cap⟩, ⟨(V.rd 1 rfl), hn34.s3.nil, hn34.s3.cap⟩, ⟨(V.rd 0 rfl), hn34.s4.nil, hn34.s4.cap⟩⟩, V.bel⟩
theorem quh {w : World} {p q : Q6} {a1 a2 a3 a4 : Option Addr} {ac1 ac2 ac3 ac4 : Nat} (ha : Nm w p a1 ac1 a2 ac2 a3 ac3 a4 ac4) (hl : LenQ p) {u1 u2 u3 u4 : Option Addr} {uc1 uc2 uc3 uc4 : Nat} (hb : Nm w q u1 uc1 u2 uc2 u3 uc3 u4 uc4) (hm : LenQ q) : Calls Tryz.prog 37 #[.func (.func 38) #[] #[], jx p a1 ac1 a2 ac2 a3 ac3 a4 ac4, jx q u1 uc1 u2 uc2 u3 uc3 u4 uc4] w (AnsN w (kr p q)) := by
 rcases qkf ha with h1 | ⟨u, v, rfl, hu, hv⟩
 ·
  rw [show kr p q = (Q6.zero, 2) from if_neg (fun k => by rw [h1] at k; cases k.1)]
  exact quf ha hl hb hm h1
 ·
  rcases qkf hb with h2 | ⟨x, y, rfl, hx, hy⟩
  ·
   rw [show kr _ q = (Q6.zero, 2) from if_neg (fun k => by rw [h2] at k; cases k.2)]
   exact qug ha hl hb hm (ya hu hv) h2
  ·
   rw [qya hu hv hx hy]
   exact qzb ha hb hu hv hx hy
theorem zrc {w : World} {p q : Q6} {a1 a2 a3 a4 : Option Addr} {ac1 ac2 ac3 ac4 : Nat} (ha : Nm w p a1 ac1 a2 ac2 a3 ac3 a4 ac4) (hl : LenQ p) {u1 u2 u3 u4 : Option Addr} {uc1 uc2 uc3 uc4 : Nat} (hb : Nm w q u1 uc1 u2 uc2 u3 uc3 u4 uc4) (hm : LenQ q) : Calls Tryz.prog 12 #[jx p a1 ac1 a2 ac2 a3 ac3 a4 ac4, jx q u1 uc1 u2 uc2 u3 uc3 u4 uc4] w (AnsN w (kr p q)) := by
 have V : St w w [] [(u4, q.q2), (u3, q.t2), (u2, q.q1), (u1, q.t1), (a4, p.q2), (a3, p.t2), (a2, p.q1), (a1, p.t1)] [] := ((((((((St.start w).addR ha.s1.rd).addR ha.s2.rd).addR ha.s3.rd).addR ha.s4.rd).addR hb.s1.rd).addR hb.s2.rd).addR hb.s3.rd).addR hb.s4.rd
 refine qy (l := [(0, .agg #[.bool p.b1, .slice a1 p.t1.length ac1, .slice a2 p.q1.length ac2, .bool p.b2, .slice a3 p.t2.length ac3, .slice a4 p.q2.length ac4]), (1, .agg #[.bool q.b1, .slice u1 q.t1.length uc1, .slice u2 q.q1.length uc2, .bool q.b2, .slice u3 q.t2.length uc3, .slice u4 q.q2.length uc4])]) Tryz.func12 rfl Tryz.ntmps12 rfl rfl ?_
 intro Q hret hnorm hP a A
 refine wsk fun K1 hK1 => wrl (qn A V rfl rfl rfl pg (qw rfl rfl) rfl ?_)
 intro g2 w3 V a A
 refine qn A V rfl rfl rfl pg (qw rfl rfl) rfl ?_
 intro g4 w5 V a A
 refine qn (vs := [.bool false, .slice none 0 0, .slice none 0 0, .bool false, .slice none 0 0, .slice none 0 0]) (t := 26) A V rfl rfl rfl pg (ql (z := .agg #[.bool false, .slice none 0 0, .slice none 0 0, .bool false, .slice none 0 0, .slice none 0 0]) (by kernel_rfl) rfl) rfl ?_
 intro g6 w7 V a A
 refine sda A λa A↦?_
 refine qa (hK1 _ _ (wsk fun K8 hK8 => wrl (sdo A (qk V ExL_isS_26 rfl 2 rfl (cs := [.bool p.b1, .slice a1 p.t1.length ac1, .slice a2 p.q1.length ac2, .bool p.b2, .slice a3 p.t2.length ac3, .slice a4 p.q2.length ac4]) rfl rfl) λa A↦?_)))
 refine sdo A (qk V ExL_isS_26 rfl 1 rfl (cs := [.bool q.b1, .slice u1 q.t1.length uc1, .slice u2 q.q1.length uc2, .bool q.b2, .slice u3 q.t2.length uc3, .slice u4 q.q2.length uc4]) rfl rfl) λa A↦?_
 refine qg A rfl rfl rfl (qb  rfl rfl (fun w => by kernel_rfl)) (quh (show Nm _ p a1 ac1 a2 ac2 a3 ac3 a4 ac4 from ⟨⟨(V.rd 7 rfl), ha.s1.nil, ha.s1.cap⟩, ⟨(V.rd 6 rfl), ha.s2.nil, ha.s2.cap⟩, ⟨(V.rd 5 rfl), ha.s3.nil, ha.s3.cap⟩, ⟨(V.rd 4 rfl), ha.s4.nil, ha.s4.cap⟩⟩) hl (show Nm _ q u1 uc1 u2 uc2 u3 uc3 u4 uc4 from ⟨⟨(V.rd 3 rfl), hb.s1.nil, hb.s1.cap⟩, ⟨(V.rd 2 rfl), hb.s2.nil, hb.s2.cap⟩, ⟨(V.rd 1 rfl), hb.s3.nil, hb.s3.cap⟩, ⟨(V.rd 0 rfl), hb.s4.nil, hb.s4.cap⟩⟩) hm) ?_
 rintro _ w12 ⟨p9_1, p9_c1, p9_2, p9_c2, p9_3, p9_c3, p9_4, p9_c4, rfl, hn10, hb11⟩
 replace V := V.call hb11
 replace V := V.addR hn10.s1.rd
 replace V := V.addR hn10.s2.rd
 replace V := V.addR hn10.s3.rd
 replace V := V.addR hn10.s4.rd
 refine ⟨_, rfl, ?_⟩
 intro a A
 iterate 2 refine sdo A (qm (vs := [.agg #[.bool ((kr p q).1.b1), .slice p9_1 (((kr p q).1.t1).length) p9_c1, .slice p9_2 (((kr p q).1.q1).length) p9_c2, .bool ((kr p q).1.b2), .slice p9_3 (((kr p q).1.t2).length) p9_c3, .slice p9_4 (((kr p q).1.q2).length) p9_c4], .int .i64 ((kr p q).2)]) rfl rfl) λa A↦?_
 refine qr (us := [.bool ((kr p q).1.b1), .slice p9_1 (((kr p q).1.t1).length) p9_c1, .slice p9_2 (((kr p q).1.q1).length) p9_c2, .bool ((kr p q).1.b2), .slice p9_3 (((kr p q).1.t2).length) p9_c3, .slice p9_4 (((kr p q).1.q2).length) p9_c4]) A V rfl rfl (qi rfl rfl rfl (by kernel_rfl) V 0 rfl rfl rfl) 0 rfl rfl rfl rfl ?_
 intro w13 V
 refine sda A λa A↦?_
 refine qa (hK8 _ _ (wp_ret (hret _ _ (en2 A rfl (qx V ExL_isS_26 rfl 0 rfl (cs := [.bool ((kr p q).1.b1), .slice p9_1 (((kr p q).1.t1).length) p9_c1, .slice p9_2 (((kr p q).1.q1).length) p9_c2, .bool ((kr p q).1.b2), .slice p9_3 (((kr p q).1.t2).length) p9_c3, .slice p9_4 (((kr p q).1.q2).length) p9_c4]) rfl rfl) (qj rfl) ?_))))
 exact ⟨p9_1, p9_c1, p9_2, p9_c2, p9_3, p9_c3, p9_4, p9_c4, rfl, ⟨⟨(V.rd 3 rfl), hn10.s1.nil, hn10.s1.cap⟩, ⟨(V.rd 2 rfl), hn10.s2.nil, hn10.s2.cap⟩, ⟨(V.rd 1 rfl), hn10.s3.nil, hn10.s3.cap⟩, ⟨(V.rd 0 rfl), hn10.s4.nil, hn10.s4.cap⟩⟩, V.bel⟩

theorem RxC_is1_9 : Is1 Tryz.prog 9 := ⟨⟨_, Tryz.underlying9, rfl⟩, by kernel_rfl⟩
theorem RxC_fld_88_0 : FieldAt Tryz.prog 88 0 0 := ⟨_, _, Tryz.underlying88, rfl, rfl, by kernel_rfl⟩
theorem RxC_fld_88_1 : FieldAt Tryz.prog 88 1 1 := ⟨_, _, Tryz.underlying88, rfl, rfl, by kernel_rfl⟩
theorem RxC_fld_88_2 : FieldAt Tryz.prog 88 2 2 := ⟨_, _, Tryz.underlying88, rfl, rfl, by kernel_rfl⟩
theorem RxC_isS_88 : IsS Tryz.prog 88 3 := ⟨⟨_, Tryz.underlying88⟩, by kernel_rfl⟩
theorem qah {w : World} {n : Int} {c : Bool} (hc : vh n = c) : Calls Tryz.prog 40 #[.int .i64 n] w fun e w' => e = .returned (.bool c) ∧ Below w.heap.size w w' := by
 have V : St w w [] [] [] := St.start w
 refine qy (l := [(0, .int .i64 n)]) Tryz.func40 rfl Tryz.ntmps40 rfl rfl ?_
 intro Q hret hnorm hP a A
 refine wsk fun K1 hK1 => wrl (sda A λa A↦?_)
 refine qa (hK1 _ _ (wsk fun K2 hK2 => wsk fun K3 hK3 => wrl (mv A rfl rfl rfl λa A↦?_)))
 refine qa (hK3 _ _ (wp_block (wsk fun K4 hK4 => wsk fun K5 hK5 => wrl ?_)))
 rcases tf ((n == 2)) with hb6 | hb6
 ·
  have hb6' := eq_of_beq hb6
  refine sdo (v := .bool true) A (qe rfl rfl (fun w => (zl w).trans (by rw [hb6]))) λa A↦?_
  refine sda A λa A↦?_
  refine qa (hK5 _ _ (wp_cond_true (A.ev rfl) ?_))
  refine wp_skip (hK4 _ _ (wp_cond_true (A.ev rfl) ?_))
  refine wsk fun K7 hK7 => wrl (sda A λa A↦?_)
  refine qa (hK7 _ _ (wp_ret (hret _ _ (en1 A rfl (qj rfl) ?_))))
  subst hc
  exact ⟨by rw [show vh n = true from by unfold vh; simp; omega], V.bel⟩
 ·
  have hb6' := ne_of_beq_false hb6
  refine sdo (v := .bool false) A (qe rfl rfl (fun w => (zl w).trans (by rw [hb6]))) λa A↦?_
  refine sda A λa A↦?_
  refine qa (hK5 _ _ (wp_cond_false (A.ev rfl) ?_))
  refine wsk fun K8 hK8 => wrl ?_
  rcases tf ((n == 8)) with hb9 | hb9
  ·
   have hb9' := eq_of_beq hb9
   refine sdo (v := .bool true) A (qe rfl rfl (fun w => (zl w).trans (by rw [hb9]))) λa A↦?_
   refine sda A λa A↦?_
   refine qa (hK8 _ _ (wp_cond_true (A.ev rfl) ?_))
   refine wp_skip (hK4 _ _ (wp_cond_true (A.ev rfl) ?_))
   refine wsk fun K10 hK10 => wrl (sda A λa A↦?_)
   refine qa (hK10 _ _ (wp_ret (hret _ _ (en1 A rfl (qj rfl) ?_))))
   subst hc
   exact ⟨by rw [show vh n = true from by unfold vh; simp; omega], V.bel⟩
  ·
   have hb9' := ne_of_beq_false hb9
   refine sdo (v := .bool false) A (qe rfl rfl (fun w => (zl w).trans (by rw [hb9]))) λa A↦?_
   refine sda A λa A↦?_
   refine qa (hK8 _ _ (wp_cond_false (A.ev rfl) ?_))
   refine wsk fun K11 hK11 => wrl ?_
   rcases tf ((n == 10)) with hb12 | hb12
   ·
    have hb12' := eq_of_beq hb12
    refine sdo (v := .bool true) A (qe rfl rfl (fun w => (zl w).trans (by rw [hb12]))) λa A↦?_
    refine sda A λa A↦?_
    refine qa (hK11 _ _ (wp_cond_true (A.ev rfl) ?_))
    refine wp_skip (hK4 _ _ (wp_cond_true (A.ev rfl) ?_))
    refine wsk fun K13 hK13 => wrl (sda A λa A↦?_)
    refine qa (hK13 _ _ (wp_ret (hret _ _ (en1 A rfl (qj rfl) ?_))))
    subst hc
    exact ⟨by rw [show vh n = true from by unfold vh; simp; omega], V.bel⟩
   ·
    have hb12' := ne_of_beq_false hb12
    refine sdo (v := .bool false) A (qe rfl rfl (fun w => (zl w).trans (by rw [hb12]))) λa A↦?_
    refine sda A λa A↦?_
    refine qa (hK11 _ _ (wp_cond_false (A.ev rfl) ?_))
    refine wrl ?_
    rcases tf ((n == 16)) with hb14 | hb14
    ·
     have hb14' := eq_of_beq hb14
     refine sdo (v := .bool true) A (qe rfl rfl (fun w => (zl w).trans (by rw [hb14]))) λa A↦?_
     refine sda A λa A↦?_
     refine qa (hK4 _ _ (wp_cond_true (A.ev rfl) ?_))
     refine wsk fun K15 hK15 => wrl (sda A λa A↦?_)
     refine qa (hK15 _ _ (wp_ret (hret _ _ (en1 A rfl (qj rfl) ?_))))
     subst hc
     exact ⟨by rw [show vh n = true from by unfold vh; simp; omega], V.bel⟩
    ·
     have hb14' := ne_of_beq_false hb14
     refine sdo (v := .bool false) A (qe rfl rfl (fun w => (zl w).trans (by rw [hb14]))) λa A↦?_
     refine sda A λa A↦?_
     refine qa (hK4 _ _ (wp_cond_false (A.ev rfl) ?_))
     refine wp_skip (hK2 _ _ (wsk fun K16 hK16 => wrl (sda A λa A↦?_)))
     refine qa (hK16 _ _ (wp_ret (hret _ _ (en1 A rfl (qj rfl) ?_))))
     subst hc
     exact ⟨by rw [show vh n = false from by unfold vh; simp; omega], V.bel⟩
theorem qzc {w : World} {b k : Nat} (hk : xh b = k) : Calls Tryz.prog 92 #[.int .u8 ((b : Nat) : Int)] w fun e w' => e = .returned (.int .i64 ((k : Nat) : Int)) ∧ Below w.heap.size w w' := by
 have V : St w w [] [] [] := St.start w
 refine qy (l := [(0, .int .u8 (((b : Nat) : Int)))]) Tryz.func92 rfl Tryz.ntmps92 rfl rfl ?_
 intro Q hret hnorm hP a A
 refine wsk fun K1 hK1 => wrl (sda A λa A↦?_)
 refine qa (hK1 _ _ (wsk fun K2 hK2 => wsk fun K3 hK3 => wrl (mv A rfl rfl rfl λa A↦?_)))
 refine qa (hK3 _ _ (wp_block (wsk fun K4 hK4 => wsk fun K5 hK5 => wrl ?_)))
 rcases tf ((((b : Nat) : Int) == 98)) with hb6 | hb6
 ·
  have hb6' := eq_of_beq hb6
  refine sdo (v := .bool true) A (qe rfl rfl (fun w => (zl w).trans (by rw [hb6]))) λa A↦?_
  refine sda A λa A↦?_
  refine qa (hK5 _ _ (wp_cond_true (A.ev rfl) ?_))
  refine wp_skip (hK4 _ _ (wp_cond_true (A.ev rfl) ?_))
  refine wsk fun K7 hK7 => wrl (sda A λa A↦?_)
  refine qa (hK7 _ _ (wp_ret (hret _ _ (en1 A rfl (qj rfl) ?_))))
  subst hk
  exact ⟨by rw [show xh b = 2 from by unfold xh; repeat (first | rfl | rw [if_pos (by omega)] | rw [if_neg (by omega)])]; rfl, V.bel⟩
 ·
  have hb6' := ne_of_beq_false hb6
  refine sdo (v := .bool false) A (qe rfl rfl (fun w => (zl w).trans (by rw [hb6]))) λa A↦?_
  refine sda A λa A↦?_
  refine qa (hK5 _ _ (wp_cond_false (A.ev rfl) ?_))
  refine wrl ?_
  rcases tf ((((b : Nat) : Int) == 66)) with hb8 | hb8
  ·
   have hb8' := eq_of_beq hb8
   refine sdo (v := .bool true) A (qe rfl rfl (fun w => (zl w).trans (by rw [hb8]))) λa A↦?_
   refine sda A λa A↦?_
   refine qa (hK4 _ _ (wp_cond_true (A.ev rfl) ?_))
   refine wsk fun K9 hK9 => wrl (sda A λa A↦?_)
   refine qa (hK9 _ _ (wp_ret (hret _ _ (en1 A rfl (qj rfl) ?_))))
   subst hk
   exact ⟨by rw [show xh b = 2 from by unfold xh; repeat (first | rfl | rw [if_pos (by omega)] | rw [if_neg (by omega)])]; rfl, V.bel⟩
  ·
   have hb8' := ne_of_beq_false hb8
   refine sdo (v := .bool false) A (qe rfl rfl (fun w => (zl w).trans (by rw [hb8]))) λa A↦?_
   refine sda A λa A↦?_
   refine qa (hK4 _ _ (wp_cond_false (A.ev rfl) ?_))
   refine wsk fun K10 hK10 => wsk fun K11 hK11 => wrl ?_
   rcases tf ((((b : Nat) : Int) == 111)) with hb12 | hb12
   ·
    have hb12' := eq_of_beq hb12
    refine sdo (v := .bool true) A (qe rfl rfl (fun w => (zl w).trans (by rw [hb12]))) λa A↦?_
    refine sda A λa A↦?_
    refine qa (hK11 _ _ (wp_cond_true (A.ev rfl) ?_))
    refine wp_skip (hK10 _ _ (wp_cond_true (A.ev rfl) ?_))
    refine wsk fun K13 hK13 => wrl (sda A λa A↦?_)
    refine qa (hK13 _ _ (wp_ret (hret _ _ (en1 A rfl (qj rfl) ?_))))
    subst hk
    exact ⟨by rw [show xh b = 8 from by unfold xh; repeat (first | rfl | rw [if_pos (by omega)] | rw [if_neg (by omega)])]; rfl, V.bel⟩
   ·
    have hb12' := ne_of_beq_false hb12
    refine sdo (v := .bool false) A (qe rfl rfl (fun w => (zl w).trans (by rw [hb12]))) λa A↦?_
    refine sda A λa A↦?_
    refine qa (hK11 _ _ (wp_cond_false (A.ev rfl) ?_))
    refine wrl ?_
    rcases tf ((((b : Nat) : Int) == 79)) with hb14 | hb14
    ·
     have hb14' := eq_of_beq hb14
     refine sdo (v := .bool true) A (qe rfl rfl (fun w => (zl w).trans (by rw [hb14]))) λa A↦?_
     refine sda A λa A↦?_
     refine qa (hK10 _ _ (wp_cond_true (A.ev rfl) ?_))
     refine wsk fun K15 hK15 => wrl (sda A λa A↦?_)
     refine qa (hK15 _ _ (wp_ret (hret _ _ (en1 A rfl (qj rfl) ?_))))
     subst hk
     exact ⟨by rw [show xh b = 8 from by unfold xh; repeat (first | rfl | rw [if_pos (by omega)] | rw [if_neg (by omega)])]; rfl, V.bel⟩
    ·
     have hb14' := ne_of_beq_false hb14
     refine sdo (v := .bool false) A (qe rfl rfl (fun w => (zl w).trans (by rw [hb14]))) λa A↦?_
     refine sda A λa A↦?_
     refine qa (hK10 _ _ (wp_cond_false (A.ev rfl) ?_))
     refine wsk fun K16 hK16 => wsk fun K17 hK17 => wrl ?_
     rcases tf ((((b : Nat) : Int) == 100)) with hb18 | hb18
     ·
      have hb18' := eq_of_beq hb18
      refine sdo (v := .bool true) A (qe rfl rfl (fun w => (zl w).trans (by rw [hb18]))) λa A↦?_
      refine sda A λa A↦?_
      refine qa (hK17 _ _ (wp_cond_true (A.ev rfl) ?_))
      refine wp_skip (hK16 _ _ (wp_cond_true (A.ev rfl) ?_))
      refine wsk fun K19 hK19 => wrl (sda A λa A↦?_)
      refine qa (hK19 _ _ (wp_ret (hret _ _ (en1 A rfl (qj rfl) ?_))))
      subst hk
      exact ⟨by rw [show xh b = 10 from by unfold xh; repeat (first | rfl | rw [if_pos (by omega)] | rw [if_neg (by omega)])]; rfl, V.bel⟩
     ·
      have hb18' := ne_of_beq_false hb18
      refine sdo (v := .bool false) A (qe rfl rfl (fun w => (zl w).trans (by rw [hb18]))) λa A↦?_
      refine sda A λa A↦?_
      refine qa (hK17 _ _ (wp_cond_false (A.ev rfl) ?_))
      refine wrl ?_
      rcases tf ((((b : Nat) : Int) == 68)) with hb20 | hb20
      ·
       have hb20' := eq_of_beq hb20
       refine sdo (v := .bool true) A (qe rfl rfl (fun w => (zl w).trans (by rw [hb20]))) λa A↦?_
       refine sda A λa A↦?_
       refine qa (hK16 _ _ (wp_cond_true (A.ev rfl) ?_))
       refine wsk fun K21 hK21 => wrl (sda A λa A↦?_)
       refine qa (hK21 _ _ (wp_ret (hret _ _ (en1 A rfl (qj rfl) ?_))))
       subst hk
       exact ⟨by rw [show xh b = 10 from by unfold xh; repeat (first | rfl | rw [if_pos (by omega)] | rw [if_neg (by omega)])]; rfl, V.bel⟩
      ·
       have hb20' := ne_of_beq_false hb20
       refine sdo (v := .bool false) A (qe rfl rfl (fun w => (zl w).trans (by rw [hb20]))) λa A↦?_
       refine sda A λa A↦?_
       refine qa (hK16 _ _ (wp_cond_false (A.ev rfl) ?_))
       refine wsk fun K22 hK22 => wsk fun K23 hK23 => wrl ?_
       rcases tf ((((b : Nat) : Int) == 120)) with hb24 | hb24
       ·
        have hb24' := eq_of_beq hb24
        refine sdo (v := .bool true) A (qe rfl rfl (fun w => (zl w).trans (by rw [hb24]))) λa A↦?_
        refine sda A λa A↦?_
        refine qa (hK23 _ _ (wp_cond_true (A.ev rfl) ?_))
        refine wp_skip (hK22 _ _ (wp_cond_true (A.ev rfl) ?_))
        refine wsk fun K25 hK25 => wrl (sda A λa A↦?_)
        refine qa (hK25 _ _ (wp_ret (hret _ _ (en1 A rfl (qj rfl) ?_))))
        subst hk
        exact ⟨by rw [show xh b = 16 from by unfold xh; repeat (first | rfl | rw [if_pos (by omega)] | rw [if_neg (by omega)])]; rfl, V.bel⟩
       ·
        have hb24' := ne_of_beq_false hb24
        refine sdo (v := .bool false) A (qe rfl rfl (fun w => (zl w).trans (by rw [hb24]))) λa A↦?_
        refine sda A λa A↦?_
        refine qa (hK23 _ _ (wp_cond_false (A.ev rfl) ?_))
        refine wrl ?_
        rcases tf ((((b : Nat) : Int) == 88)) with hb26 | hb26
        ·
         have hb26' := eq_of_beq hb26
         refine sdo (v := .bool true) A (qe rfl rfl (fun w => (zl w).trans (by rw [hb26]))) λa A↦?_
         refine sda A λa A↦?_
         refine qa (hK22 _ _ (wp_cond_true (A.ev rfl) ?_))
         refine wsk fun K27 hK27 => wrl (sda A λa A↦?_)
         refine qa (hK27 _ _ (wp_ret (hret _ _ (en1 A rfl (qj rfl) ?_))))
         subst hk
         exact ⟨by rw [show xh b = 16 from by unfold xh; repeat (first | rfl | rw [if_pos (by omega)] | rw [if_neg (by omega)])]; rfl, V.bel⟩
        ·
         have hb26' := ne_of_beq_false hb26
         refine sdo (v := .bool false) A (qe rfl rfl (fun w => (zl w).trans (by rw [hb26]))) λa A↦?_
         refine sda A λa A↦?_
         refine qa (hK22 _ _ (wp_cond_false (A.ev rfl) ?_))
         refine wp_skip (hK2 _ _ (wsk fun K28 hK28 => wrl (sda A λa A↦?_)))
         refine qa (hK28 _ _ (wp_ret (hret _ _ (en1 A rfl (qj rfl) ?_))))
         subst hk
         exact ⟨by rw [show xh b = 0 from by unfold xh; repeat (first | rfl | rw [if_pos (by omega)] | rw [if_neg (by omega)])]; rfl, V.bel⟩
theorem qai {w : World} {l : List UInt8} {c : Bool} (hc : jj l = c) : Calls Tryz.prog 94 #[.string (bsL l)] w fun e w' => e = .returned (.bool c) ∧ Below w.heap.size w w' := by
 have V : St w w [] [] [] := St.start w
 refine qy (l := [(0, .string (bsL l))]) Tryz.func94 rfl Tryz.ntmps94 rfl rfl ?_
 intro Q hret hnorm hP a A
 refine wsk fun K1 hK1 => wrl (sda A λa A↦?_)
 refine qa (hK1 _ _ (wsk fun K2 hK2 => wrl (mv A rfl rfl rfl λa A↦?_)))
 rcases tf (decide (l = ([105] : List UInt8))) with hb3 | hb3
 ·
  have hb3' := of_decide_eq_true hb3
  refine sdo (v := .bool true) A (qe rfl rfl (fun w => (zu (a := l) (b := [105]) Tryz.underlying9 w).trans (by rw [hb3]; try rfl))) λa A↦?_
  refine sdm A λa A↦?_
  iterate 2 refine ze A rfl rfl rfl λa A↦?_
  refine sdk (v := .bool true) A λa A↦?_
  refine sda A λa A↦?_
  refine qa (hK2 _ _ (wp_ret (hret _ _ (en1 A rfl (qj rfl) ?_))))
  subst hc
  exact ⟨by unfold jj; rw [hb3]; rfl, V.bel⟩
 ·
  have hb3' := of_decide_eq_false hb3
  refine sdo (v := .bool false) A (qe rfl rfl (fun w => (zu (a := l) (b := [105]) Tryz.underlying9 w).trans (by rw [hb3]; try rfl))) λa A↦?_
  iterate 2 refine sdm A λa A↦?_
  rcases tf (decide (l = ([73] : List UInt8))) with hb4 | hb4
  ·
   have hb4' := of_decide_eq_true hb4
   refine sdo (v := .bool true) A (qe rfl rfl (fun w => (zu (a := l) (b := [73]) Tryz.underlying9 w).trans (by rw [hb4]; try rfl))) λa A↦?_
   refine sdk (v := .bool true) A λa A↦?_
   refine sda A λa A↦?_
   refine qa (hK2 _ _ (wp_ret (hret _ _ (en1 A rfl (qj rfl) ?_))))
   subst hc
   exact ⟨by unfold jj; rw [hb3, hb4]; rfl, V.bel⟩
  ·
   have hb4' := of_decide_eq_false hb4
   refine sdo (v := .bool false) A (qe rfl rfl (fun w => (zu (a := l) (b := [73]) Tryz.underlying9 w).trans (by rw [hb4]; try rfl))) λa A↦?_
   refine sdk (v := .bool false) A λa A↦?_
   refine sda A λa A↦?_
   refine qa (hK2 _ _ (wp_ret (hret _ _ (en1 A rfl (qj rfl) ?_))))
   subst hc
   exact ⟨by unfold jj; rw [hb3, hb4]; rfl, V.bel⟩
theorem qkh {w : World} {r b : Nat} (hr : RadN r) (hb : b < 256) {c : Bool} (hc : decide (dvn 36 b < r) = c) : Calls Tryz.prog 175 #[.int .u8 ((b : Nat) : Int), .int .i64 ((r : Nat) : Int)] w fun e w' => e = .returned (.bool c) ∧ Below w.heap.size w w' := by
 have hr16 : r ≤ zdf.length := by rcases hr with h | h | h | h <;> subst h <;> decide
 have hr17 : r ≤ zdg.length := by rcases hr with h | h | h | h <;> subst h <;> decide
 have V : St w w [] [] [] := St.start w
 refine qy (l := [(0, .int .u8 (((b : Nat) : Int))), (1, .int .i64 (((r : Nat) : Int)))]) Tryz.func175 rfl Tryz.ntmps175 rfl rfl ?_
 intro Q hret hnorm hP a A
 refine wsk fun K1 hK1 => wrl (sda A λa A↦?_)
 refine qa (hK1 _ _ (wsk fun K2 hK2 => wrl (mv A rfl rfl rfl λa A↦?_)))
 refine sdo (v := .string (bsL (zdf.take r))) A (qef (p := r) (s := zdf) Tryz.underlying9 rfl rfl (by first | rfl | omega) (by first | omega | (simp only [List.length_drop, List.length_take]; omega))) λa A↦?_
 refine sdm A λa A↦?_
 refine qg A rfl rfl rfl (qb  rfl rfl (fun w => by kernel_rfl)) (qnh (zdf.take r) b _) ?_
 rintro _ w4 ⟨rfl, hb3⟩
 replace hb3 := xp hb3
 replace V := V.call hb3
 refine ⟨_, rfl, ?_⟩
 intro a A
 rcases tf (decide (0 ≤ Lib.indexByte (zdf.take r) b.toUInt8)) with hb5 | hb5
 ·
  have hb5' := of_decide_eq_true hb5
  refine sdo (v := .bool true) A (qe rfl rfl (fun w => (vt w).trans (by rw [hb5]))) λa A↦?_
  refine sdm A λa A↦?_
  iterate 5 refine ze A rfl rfl rfl λa A↦?_
  refine sdk (v := .bool true) A λa A↦?_
  refine sda A λa A↦?_
  refine qa (hK2 _ _ (wp_ret (hret _ _ (en1 A rfl (qj rfl) ?_))))
  subst hc
  exact ⟨by rw [← que hr hb, hb5]; rfl, V.bel⟩
 ·
  have hb5' := of_decide_eq_false hb5
  refine sdo (v := .bool false) A (qe rfl rfl (fun w => (vt w).trans (by rw [hb5]))) λa A↦?_
  iterate 2 refine sdm A λa A↦?_
  refine sdo (v := .string (bsL (zdg.take r))) A (qef (p := r) (s := zdg) Tryz.underlying9 rfl rfl (by first | rfl | omega) (by first | omega | (simp only [List.length_drop, List.length_take]; omega))) λa A↦?_
  refine sdm A λa A↦?_
  refine qg A rfl rfl rfl (qb  rfl rfl (fun w => by kernel_rfl)) (qnh (zdg.take r) b _) ?_
  rintro _ w7 ⟨rfl, hb6⟩
  replace hb6 := xp hb6
  replace V := V.call hb6
  refine ⟨_, rfl, ?_⟩
  intro a A
  rcases tf (decide (0 ≤ Lib.indexByte (zdg.take r) b.toUInt8)) with hb8 | hb8
  ·
   have hb8' := of_decide_eq_true hb8
   refine sdo (v := .bool true) A (qe rfl rfl (fun w => (vt w).trans (by rw [hb8]))) λa A↦?_
   refine sdk (v := .bool true) A λa A↦?_
   refine sda A λa A↦?_
   refine qa (hK2 _ _ (wp_ret (hret _ _ (en1 A rfl (qj rfl) ?_))))
   subst hc
   exact ⟨by rw [← que hr hb, hb5, hb8]; rfl, V.bel⟩
  ·
   have hb8' := of_decide_eq_false hb8
   refine sdo (v := .bool false) A (qe rfl rfl (fun w => (vt w).trans (by rw [hb8]))) λa A↦?_
   refine sdk (v := .bool false) A λa A↦?_
   refine sda A λa A↦?_
   refine qa (hK2 _ _ (wp_ret (hret _ _ (en1 A rfl (qj rfl) ?_))))
   subst hc
   exact ⟨by rw [← que hr hb, hb5, hb8]; rfl, V.bel⟩
theorem xi {w : World} {r : Nat} {l : List UInt8} (hr : RadN r) (hl : l.length ≤ 9223372036854775807) : Calls Tryz.prog 132 #[.string (bsL l), .int .i64 ((r : Nat) : Int)] w fun e w' => e = .returned (.tuple #[.string (bsL (l.take (nDg r l))), .string (bsL (l.drop (nDg r l)))]) ∧ Below w.heap.size w w' := by
 have V : St w w [] [] [] := St.start w
 refine qy (l := [(0, .string (bsL l)), (1, .int .i64 (((r : Nat) : Int)))]) Tryz.func132 rfl Tryz.ntmps132 rfl rfl ?_
 intro Q hret hnorm hP a A
 refine wsk fun K1 hK1 => wrl ?_
 iterate 2 refine sda A λa A↦?_
 refine qa (hK1 _ _ (wsk fun K2 hK2 => wrl (sda A λa A↦?_)))
 refine qa (hK2 _ _ (wsk fun K3 hK3 => wp_block (js (fun m a w1 => ∃ (n : Nat), m = l.length - n ∧ (n ≤ nDg r l) ∧ Sl a 26 [(0, .string (bsL l)), (1, .int .i64 (((r : Nat) : Int))), (4, .string (bsL [])), (5, .string (bsL [])), (6, .int .i64 (((n : Nat) : Int)))] ∧ St w w1 [] [] []) _ ⟨0, rfl, Nat.zero_le _, A.keep _ ⟨rfl, rfl, rfl, rfl, rfl, trivial⟩, V⟩ ?_)))
 clear V A
 rintro m a w4 ⟨n, rfl, hinv6, A, V⟩ K5 hK5
 have hq := qcj r l
 refine wsk fun K7 hK7 => wsk fun K8 hK8 => wrl ?_
 iterate 2 refine sdm A λa A↦?_
 refine sdo A (qii Tryz.underlying9 rfl) λa A↦?_
 rcases tf (decide (((n : Nat) : Int) < ((l.length : Nat) : Int))) with hb9 | hb9
 ·
  have hb9' := of_decide_eq_true hb9
  refine sdo (v := .bool true) A (qe rfl rfl (fun w => (zt w).trans (by rw [hb9]))) λa A↦?_
  iterate 3 refine sdm A λa A↦?_
  refine sdo (v := .int .u8 (((btL l n : Nat) : Int))) A (xk (s := l) (i := n) Tryz.underlying9 rfl rfl (by first | rfl | omega) (by first | omega | (simp only [List.length_drop, List.length_take]; omega))) λa A↦?_
  refine sdm A λa A↦?_
  rcases tf (decide (dvn 36 (btL l n) < r)) with hb10 | hb10
  ·
   have hb10' := of_decide_eq_true hb10
   refine qg A rfl rfl rfl (qb  rfl rfl (fun w => by kernel_rfl)) (qkh hr (zqf _ _) hb10) ?_
   rintro _ w12 ⟨rfl, hb11⟩
   replace V := V.call hb11
   refine ⟨_, rfl, ?_⟩
   intro a A
   refine sdk (v := .bool true) A λa A↦?_
   refine qa (hK8 _ _ (wp_cond_true (A.ev rfl) ?_))
   refine wp_skip (hK7 _ _ (wp_block (wrl (mv A rfl rfl rfl λa A↦?_))))
   refine sdo (v := .int .i64 (((n + 1 : Nat) : Int))) A (qe rfl rfl (fun w => (qea (uk (by omega) (by omega)) w).trans (by rw [show (((n : Nat) : Int) + 1 : Int) = ((n + 1 : Nat) : Int) from by omega]))) λa A↦?_
   refine sda A λa A↦?_
   refine qa ?_
   refine hK5 _ _ _ (by omega) ⟨n + 1, rfl, zqg hinv6 (by omega) (by assumption), A.keep _ ⟨rfl, rfl, rfl, rfl, rfl, trivial⟩, V⟩
  ·
   have hb10' := of_decide_eq_false hb10
   refine qg A rfl rfl rfl (qb  rfl rfl (fun w => by kernel_rfl)) (qkh hr (zqf _ _) hb10) ?_
   rintro _ w14 ⟨rfl, hb13⟩
   replace V := V.call hb13
   refine ⟨_, rfl, ?_⟩
   intro a A
   refine sdk (v := .bool false) A λa A↦?_
   refine qa (hK8 _ _ (wp_cond_false (A.ev rfl) ?_))
   refine wp_exit (hK3 _ _ (wsk fun K15 hK15 => jc (S := fun w1 => St w w1 [] [] []) (by kernel_rfl) ?_))
   replace V := V.drew
   refine qh A 0 rfl rfl rfl rfl hP V (fun w1 V => qz rfl) λa A↦?_
   refine qh A 1 rfl rfl rfl rfl hP V (fun w1 V => qz rfl) λa A↦?_
   refine qh (v := .string (bsL (l.take n))) A 2 rfl rfl rfl rfl hP V (fun w1 V => qef (p := n) (s := l) Tryz.underlying9 rfl rfl (by first | rfl | omega) (by first | omega | (simp only [List.length_drop, List.length_take]; omega))) λa A↦?_
   refine qh A 3 rfl rfl rfl rfl hP V (fun w1 V => qz rfl) λa A↦?_
   refine qh A 4 rfl rfl rfl rfl hP V (fun w1 V => qz rfl) λa A↦?_
   refine qh (v := .string (bsL (l.drop n))) A 5 rfl rfl rfl rfl hP V (fun w1 V => jl (p := n) (s := l) Tryz.underlying9 rfl rfl (by first | rfl | omega) (by first | omega | (simp only [List.length_drop, List.length_take]; omega))) λa A↦?_
   refine qh A 6 rfl rfl rfl rfl hP V (fun w1 V => zh rfl) λa A↦?_
   refine qh A 7 rfl rfl rfl rfl hP V (fun w1 V => zh rfl) λa A↦?_
   refine zn (by kernel_rfl) ?_
   refine hK15 _ _ (wp_ret (hret _ _ (en2 A rfl (qj rfl) (qj rfl) ?_)))
   have e9 := qyh hinv6 (by first | (left; omega) | (right; assumption))
   exact ⟨by rw [e9], V.bel⟩
 ·
  have hb9' := of_decide_eq_false hb9
  refine sdo (v := .bool false) A (qe rfl rfl (fun w => (zt w).trans (by rw [hb9]))) λa A↦?_
  refine sdm A λa A↦?_
  iterate 5 refine ze A rfl rfl rfl λa A↦?_
  refine sdk (v := .bool false) A λa A↦?_
  refine qa (hK8 _ _ (wp_cond_false (A.ev rfl) ?_))
  refine wp_exit (hK3 _ _ (wsk fun K16 hK16 => jc (S := fun w1 => St w w1 [] [] []) (by kernel_rfl) ?_))
  replace V := V.drew
  refine qh A 0 rfl rfl rfl rfl hP V (fun w1 V => qz rfl) λa A↦?_
  refine qh A 1 rfl rfl rfl rfl hP V (fun w1 V => qz rfl) λa A↦?_
  refine qh (v := .string (bsL (l.take n))) A 2 rfl rfl rfl rfl hP V (fun w1 V => qef (p := n) (s := l) Tryz.underlying9 rfl rfl (by first | rfl | omega) (by first | omega | (simp only [List.length_drop, List.length_take]; omega))) λa A↦?_
  refine qh A 3 rfl rfl rfl rfl hP V (fun w1 V => qz rfl) λa A↦?_
  refine qh A 4 rfl rfl rfl rfl hP V (fun w1 V => qz rfl) λa A↦?_
  refine qh (v := .string (bsL (l.drop n))) A 5 rfl rfl rfl rfl hP V (fun w1 V => jl (p := n) (s := l) Tryz.underlying9 rfl rfl (by first | rfl | omega) (by first | omega | (simp only [List.length_drop, List.length_take]; omega))) λa A↦?_
  refine qh A 6 rfl rfl rfl rfl hP V (fun w1 V => zh rfl) λa A↦?_
  refine qh A 7 rfl rfl rfl rfl hP V (fun w1 V => zh rfl) λa A↦?_
  refine zn (by kernel_rfl) ?_
  refine hK16 _ _ (wp_ret (hret _ _ (en2 A rfl (qj rfl) (qj rfl) ?_)))
  have e9 := qyh hinv6 (by first | (left; omega) | (right; assumption))
  exact ⟨by rw [e9], V.bel⟩
theorem zrd {r : Nat} {m : List UInt8} (h : m.take (nDg r m) = []) : nDg r m = 0 := by
 have h1 := qcj r m
 have h2 : (m.take (nDg r m)).length = 0 := by rw [h]; rfl
 rw [List.length_take] at h2
 omega
theorem vw {r : Nat} {m : List UInt8} {b : Bool} (h : m.take (nDg r m) = []) : (decide (nDg r m ≠ 0) && b) = false := by rw [decide_eq_false (fun k => k (zrd h))]; rfl
theorem vx {b c : Bool} {m : List UInt8} (h : m = []) : (b && (decide (btL m 0 = 47) && c)) = false := by rw [h, show decide (btL ([] : List UInt8) 0 = 47) = false from rfl]; cases b <;> rfl
theorem vy {b c : Bool} {n : Nat} (h : n ≠ 47) : (b && (decide (n = 47) && c)) = false := by rw [decide_eq_false h]; cases b <;> rfl
theorem vz {r : Nat} {b c : Bool} {m : List UInt8} (h : m.take (nDg r m) = []) : (b && (c && decide (nDg r m ≠ 0))) = false := by rw [decide_eq_false (fun k => k (zrd h))]; cases b <;> cases c <;> rfl
theorem qui {r n : Nat} {m k : List UInt8} (h1 : ¬ m.take (nDg r m) = []) (h2 : n = 47) (h3 : ¬ k.take (nDg r k) = []) : (decide (nDg r m ≠ 0) && (decide (n = 47) && decide (nDg r k ≠ 0))) = true := by
 rw [decide_eq_true h2, decide_eq_true (show nDg r m ≠ 0 from fun e => h1 (by rw [e]; rfl)), decide_eq_true (show nDg r k ≠ 0 from fun e => h3 (by rw [e]; rfl))]; rfl
theorem qda {w : World} {r : Nat} {l : List UInt8} (hr : RadN r) (hl : l.length ≤ 9223372036854775807) : Calls Tryz.prog 93 #[.string (bsL l), .int .i64 ((r : Nat) : Int)] w fun e w' => e = .returned (.tuple #[.agg #[.int .u8 ((sgB l : Nat) : Int), .string (bsL (tpD r l)), .string (bsL (boD r l))], .string (bsL (reD r l))]) ∧ Below w.heap.size w w' := by
 have V : St w w [] [] [] := St.start w
 refine qy (l := [(0, .string (bsL l)), (1, .int .i64 (((r : Nat) : Int)))]) Tryz.func93 rfl Tryz.ntmps93 rfl rfl ?_
 intro Q hret hnorm hP a A
 refine wsk fun K1 hK1 => wrl (qn (vs := [.int .u8 0, .string (bsL []), .string (bsL [])]) (t := 88) A V rfl rfl rfl pg (ql (z := .agg #[.int .u8 0, .string (bsL []), .string (bsL [])]) (by kernel_rfl) rfl) rfl ?_)
 intro g2 w3 V a A
 refine sda A λa A↦?_
 refine qa (hK1 _ _ (wsk fun K4 hK4 => wsk fun K5 hK5 => wrl (mv A rfl rfl rfl λa A↦?_)))
 rcases tf (decide (l = ([] : List UInt8))) with hb6 | hb6
 ·
  have hb6' := of_decide_eq_true hb6
  have hb6n : (l).length = 0 := by rw [hb6']; rfl
  refine sdo (v := .bool false) A (qe rfl rfl (fun w => (um (a := l) (b := []) Tryz.underlying9 w).trans (by rw [hb6]; try rfl))) λa A↦?_
  refine sdm A λa A↦?_
  iterate 4 refine ze A rfl rfl rfl λa A↦?_
  iterate 3 refine qre A rfl rfl rfl λa A↦?_
  refine ze A rfl rfl rfl λa A↦?_
  refine sdk (v := .bool false) A λa A↦?_
  refine qa (hK5 _ _ (wp_cond_false (A.ev rfl) ?_))
  refine wp_skip (hK4 _ _ (wsk fun K7 hK7 => wrl ?_))
  iterate 2 refine sdm A λa A↦?_
  refine qg A rfl rfl rfl (qb  rfl rfl (fun w => by kernel_rfl)) (xi (l := l) hr (by first | omega | (simp only [List.length_drop, List.length_take]; omega))) ?_
  rintro _ w9 ⟨rfl, hb8⟩
  replace V := V.call hb8
  refine ⟨_, rfl, ?_⟩
  intro a A
  refine sdm A λa A↦?_
  iterate 2 refine sdo A (qm (vs := [.string (bsL (l.take (nDg r l))), .string (bsL (l.drop (nDg r l)))]) rfl rfl) λa A↦?_
  refine sdo (v := .pointer (some ⟨g2, 1, none⟩)) A (qf RxC_fld_88_1 rfl rfl) λa A↦?_
  refine qr (us := [.int .u8 0, .string (bsL (l.take (nDg r l))), .string (bsL [])]) A V rfl rfl (qi rfl rfl rfl (by kernel_rfl) V 0 rfl rfl rfl) 0 rfl rfl rfl rfl ?_
  intro w10 V
  refine sda A λa A↦?_
  refine qa (hK7 _ _ (wsk fun K11 hK11 => wsk fun K12 hK12 => wrl (sdo (v := .pointer (some ⟨g2, 1, none⟩)) A (qf RxC_fld_88_1 rfl rfl) λa A↦?_)))
  refine sdo A (qs V RxC_is1_9 rfl 0 rfl rfl) λa A↦?_
  rcases tf (decide (l.take (nDg r l) = ([] : List UInt8))) with hb13 | hb13
  ·
   have hb13' := of_decide_eq_true hb13
   have hb13n : (l.take (nDg r l)).length = 0 := by rw [hb13']; rfl
   refine sdo (v := .bool true) A (qe rfl rfl (fun w => (zu (a := l.take (nDg r l)) (b := []) Tryz.underlying9 w).trans (by rw [hb13]; try rfl))) λa A↦?_
   refine sdm A λa A↦?_
   iterate 2 refine ze A rfl rfl rfl λa A↦?_
   refine sdk (v := .bool true) A λa A↦?_
   refine sdm A λa A↦?_
   iterate 3 refine ze A rfl rfl rfl λa A↦?_
   refine sdk (v := .bool true) A λa A↦?_
   refine qa (hK12 _ _ (wp_cond_true (A.ev rfl) ?_))
   refine wsk fun K14 hK14 => wrl (sdo A (qk V RxC_isS_88 rfl 0 rfl (cs := [.int .u8 0, .string (bsL (l.take (nDg r l))), .string (bsL [])]) rfl rfl) λa A↦?_)
   refine sdm A λa A↦?_
   refine qr (us := [.int .u8 0, .string (bsL (l.take (nDg r l))), .string (bsL [])]) A V rfl rfl (qi rfl rfl rfl (by kernel_rfl) V 0 rfl rfl rfl) 0 rfl rfl rfl rfl ?_
   intro w15 V
   refine sda A λa A↦?_
   refine qa (hK14 _ _ (wp_ret (hret _ _ (en2 A rfl (qx V RxC_isS_88 rfl 0 rfl (cs := [.int .u8 0, .string (bsL (l.take (nDg r l))), .string (bsL [])]) rfl rfl) (qj rfl) ?_))))
   have hs : zj l = false := by unfold zj; first | (simp; omega) | (subst_vars; decide)
   have hu : unS l = l := by unfold unS; rw [hs]; rfl
   have e1 : sgB l = 0 := by unfold sgB; rw [hs]; try rfl
   have e2 : tpD r l = l.take (nDg r l) := by unfold tpD; rw [hu]
   have eq : qD r l = (l).drop (nDg r (l)) := by unfold qD; rw [hu]
   have hsl : slD r l = false := by
    unfold slD; rw [hu, eq]; first | exact vw (by assumption) | exact vx (by assumption) | exact vy (by omega) | exact vz (by assumption)
   have e3 : boD r l = [] := by unfold boD; rw [hsl]; rfl
   have e4 : reD r l = l.drop (nDg r l) := by unfold reD; rw [hsl, eq]; rfl
   exact ⟨by rw [e1, e2, e3, e4] <;> try rfl, V.bel⟩
  ·
   have hb13' := of_decide_eq_false hb13
   have hb13n : ¬ (l.take (nDg r l)).length = 0 := fun k => hb13' (List.length_eq_zero_iff.1 k)
   refine sdo (v := .bool false) A (qe rfl rfl (fun w => (zu (a := l.take (nDg r l)) (b := []) Tryz.underlying9 w).trans (by rw [hb13]; try rfl))) λa A↦?_
   iterate 2 refine sdm A λa A↦?_
   rcases tf (decide (l.drop (nDg r l) = ([] : List UInt8))) with hb16 | hb16
   ·
    have hb16' := of_decide_eq_true hb16
    have hb16n : (l.drop (nDg r l)).length = 0 := by rw [hb16']; rfl
    refine sdo (v := .bool true) A (qe rfl rfl (fun w => (zu (a := l.drop (nDg r l)) (b := []) Tryz.underlying9 w).trans (by rw [hb16]; try rfl))) λa A↦?_
    refine sdk (v := .bool true) A λa A↦?_
    refine sdm A λa A↦?_
    iterate 3 refine ze A rfl rfl rfl λa A↦?_
    refine sdk (v := .bool true) A λa A↦?_
    refine qa (hK12 _ _ (wp_cond_true (A.ev rfl) ?_))
    refine wsk fun K17 hK17 => wrl (sdo A (qk V RxC_isS_88 rfl 0 rfl (cs := [.int .u8 0, .string (bsL (l.take (nDg r l))), .string (bsL [])]) rfl rfl) λa A↦?_)
    refine sdm A λa A↦?_
    refine qr (us := [.int .u8 0, .string (bsL (l.take (nDg r l))), .string (bsL [])]) A V rfl rfl (qi rfl rfl rfl (by kernel_rfl) V 0 rfl rfl rfl) 0 rfl rfl rfl rfl ?_
    intro w18 V
    refine sda A λa A↦?_
    refine qa (hK17 _ _ (wp_ret (hret _ _ (en2 A rfl (qx V RxC_isS_88 rfl 0 rfl (cs := [.int .u8 0, .string (bsL (l.take (nDg r l))), .string (bsL [])]) rfl rfl) (qj rfl) ?_))))
    have hs : zj l = false := by unfold zj; first | (simp; omega) | (subst_vars; decide)
    have hu : unS l = l := by unfold unS; rw [hs]; rfl
    have e1 : sgB l = 0 := by unfold sgB; rw [hs]; try rfl
    have e2 : tpD r l = l.take (nDg r l) := by unfold tpD; rw [hu]
    have eq : qD r l = (l).drop (nDg r (l)) := by unfold qD; rw [hu]
    have hsl : slD r l = false := by
     unfold slD; rw [hu, eq]; first | exact vw (by assumption) | exact vx (by assumption) | exact vy (by omega) | exact vz (by assumption)
    have e3 : boD r l = [] := by unfold boD; rw [hsl]; rfl
    have e4 : reD r l = l.drop (nDg r l) := by unfold reD; rw [hsl, eq]; rfl
    exact ⟨by rw [e1, e2, e3, e4] <;> try rfl, V.bel⟩
   ·
    have hb16' := of_decide_eq_false hb16
    have hb16n : ¬ (l.drop (nDg r l)).length = 0 := fun k => hb16' (List.length_eq_zero_iff.1 k)
    refine sdo (v := .bool false) A (qe rfl rfl (fun w => (zu (a := l.drop (nDg r l)) (b := []) Tryz.underlying9 w).trans (by rw [hb16]; try rfl))) λa A↦?_
    refine sdk (v := .bool false) A λa A↦?_
    iterate 2 refine sdm A λa A↦?_
    refine sdo (v := .int .u8 (((btL (l.drop (nDg r l)) 0 : Nat) : Int))) A (xk (s := l.drop (nDg r l)) (i := 0) Tryz.underlying9 rfl rfl (by first | rfl | omega) (by first | omega | (simp only [List.length_drop, List.length_take]; omega))) λa A↦?_
    rcases tf ((((btL (l.drop (nDg r l)) 0 : Nat) : Int) != 47)) with hb19 | hb19
    ·
     have hb19' := bne_iff_ne.1 hb19
     refine sdo (v := .bool true) A (qe rfl rfl (fun w => (jd w).trans (by rw [hb19]))) λa A↦?_
     refine sdk (v := .bool true) A λa A↦?_
     refine qa (hK12 _ _ (wp_cond_true (A.ev rfl) ?_))
     refine wsk fun K20 hK20 => wrl (sdo A (qk V RxC_isS_88 rfl 0 rfl (cs := [.int .u8 0, .string (bsL (l.take (nDg r l))), .string (bsL [])]) rfl rfl) λa A↦?_)
     refine sdm A λa A↦?_
     refine qr (us := [.int .u8 0, .string (bsL (l.take (nDg r l))), .string (bsL [])]) A V rfl rfl (qi rfl rfl rfl (by kernel_rfl) V 0 rfl rfl rfl) 0 rfl rfl rfl rfl ?_
     intro w21 V
     refine sda A λa A↦?_
     refine qa (hK20 _ _ (wp_ret (hret _ _ (en2 A rfl (qx V RxC_isS_88 rfl 0 rfl (cs := [.int .u8 0, .string (bsL (l.take (nDg r l))), .string (bsL [])]) rfl rfl) (qj rfl) ?_))))
     have hs : zj l = false := by unfold zj; first | (simp; omega) | (subst_vars; decide)
     have hu : unS l = l := by unfold unS; rw [hs]; rfl
     have e1 : sgB l = 0 := by unfold sgB; rw [hs]; try rfl
     have e2 : tpD r l = l.take (nDg r l) := by unfold tpD; rw [hu]
     have eq : qD r l = (l).drop (nDg r (l)) := by unfold qD; rw [hu]
     have hsl : slD r l = false := by
      unfold slD; rw [hu, eq]; first | exact vw (by assumption) | exact vx (by assumption) | exact vy (by omega) | exact vz (by assumption)
     have e3 : boD r l = [] := by unfold boD; rw [hsl]; rfl
     have e4 : reD r l = l.drop (nDg r l) := by unfold reD; rw [hsl, eq]; rfl
     exact ⟨by rw [e1, e2, e3, e4] <;> try rfl, V.bel⟩
    ·
     have hb19' := bne_eq_false_iff_eq.1 hb19
     refine sdo (v := .bool false) A (qe rfl rfl (fun w => (jd w).trans (by rw [hb19]))) λa A↦?_
     refine sdk (v := .bool false) A λa A↦?_
     refine qa (hK12 _ _ (wp_cond_false (A.ev rfl) ?_))
     refine wp_skip (hK11 _ _ (wsk fun K22 hK22 => wrl (mv A rfl rfl rfl λa A↦?_)))
     refine sdo (v := .string (bsL ((l.drop (nDg r l)).drop 1))) A (jl (p := 1) (s := l.drop (nDg r l)) Tryz.underlying9 rfl rfl (by first | rfl | omega) (by first | omega | (simp only [List.length_drop, List.length_take]; omega))) λa A↦?_
     refine sdm A λa A↦?_
     refine qg A rfl rfl rfl (qb  rfl rfl (fun w => by kernel_rfl)) (xi (l := (l.drop (nDg r l)).drop 1) hr (by first | omega | (simp only [List.length_drop, List.length_take]; omega))) ?_
     rintro _ w24 ⟨rfl, hb23⟩
     replace V := V.call hb23
     refine ⟨_, rfl, ?_⟩
     intro a A
     refine sdm A λa A↦?_
     iterate 2 refine sdo A (qm (vs := [.string (bsL (((l.drop (nDg r l)).drop 1).take (nDg r ((l.drop (nDg r l)).drop 1)))), .string (bsL (((l.drop (nDg r l)).drop 1).drop (nDg r ((l.drop (nDg r l)).drop 1))))]) rfl rfl) λa A↦?_
     iterate 2 refine sda A λa A↦?_
     refine qa (hK22 _ _ (wsk fun K25 hK25 => wsk fun K26 hK26 => wrl (mv A rfl rfl rfl λa A↦?_)))
     rcases tf (decide (((l.drop (nDg r l)).drop 1).take (nDg r ((l.drop (nDg r l)).drop 1)) = ([] : List UInt8))) with hb27 | hb27
     ·
      have hb27' := of_decide_eq_true hb27
      have hb27n : (((l.drop (nDg r l)).drop 1).take (nDg r ((l.drop (nDg r l)).drop 1))).length = 0 := by rw [hb27']; rfl
      refine sdo (v := .bool true) A (qe rfl rfl (fun w => (zu (a := ((l.drop (nDg r l)).drop 1).take (nDg r ((l.drop (nDg r l)).drop 1))) (b := []) Tryz.underlying9 w).trans (by rw [hb27]; try rfl))) λa A↦?_
      refine qa (hK26 _ _ (wp_cond_true (A.ev rfl) ?_))
      refine wsk fun K28 hK28 => wrl (sdo A (qk V RxC_isS_88 rfl 0 rfl (cs := [.int .u8 0, .string (bsL (l.take (nDg r l))), .string (bsL [])]) rfl rfl) λa A↦?_)
      refine sdm A λa A↦?_
      refine qr (us := [.int .u8 0, .string (bsL (l.take (nDg r l))), .string (bsL [])]) A V rfl rfl (qi rfl rfl rfl (by kernel_rfl) V 0 rfl rfl rfl) 0 rfl rfl rfl rfl ?_
      intro w29 V
      refine sda A λa A↦?_
      refine qa (hK28 _ _ (wp_ret (hret _ _ (en2 A rfl (qx V RxC_isS_88 rfl 0 rfl (cs := [.int .u8 0, .string (bsL (l.take (nDg r l))), .string (bsL [])]) rfl rfl) (qj rfl) ?_))))
      have hs : zj l = false := by unfold zj; first | (simp; omega) | (subst_vars; decide)
      have hu : unS l = l := by unfold unS; rw [hs]; rfl
      have e1 : sgB l = 0 := by unfold sgB; rw [hs]; try rfl
      have e2 : tpD r l = l.take (nDg r l) := by unfold tpD; rw [hu]
      have eq : qD r l = (l).drop (nDg r (l)) := by unfold qD; rw [hu]
      have hsl : slD r l = false := by
       unfold slD; rw [hu, eq]; first | exact vw (by assumption) | exact vx (by assumption) | exact vy (by omega) | exact vz (by assumption)
      have e3 : boD r l = [] := by unfold boD; rw [hsl]; rfl
      have e4 : reD r l = l.drop (nDg r l) := by unfold reD; rw [hsl, eq]; rfl
      exact ⟨by rw [e1, e2, e3, e4] <;> try rfl, V.bel⟩
     ·
      have hb27' := of_decide_eq_false hb27
      have hb27n : ¬ (((l.drop (nDg r l)).drop 1).take (nDg r ((l.drop (nDg r l)).drop 1))).length = 0 := fun k => hb27' (List.length_eq_zero_iff.1 k)
      refine sdo (v := .bool false) A (qe rfl rfl (fun w => (zu (a := ((l.drop (nDg r l)).drop 1).take (nDg r ((l.drop (nDg r l)).drop 1))) (b := []) Tryz.underlying9 w).trans (by rw [hb27]; try rfl))) λa A↦?_
      refine qa (hK26 _ _ (wp_cond_false (A.ev rfl) ?_))
      refine wp_skip (hK25 _ _ (wsk fun K30 hK30 => wrl (mv A rfl rfl rfl λa A↦?_)))
      refine sdo (v := .pointer (some ⟨g2, 2, none⟩)) A (qf RxC_fld_88_2 rfl rfl) λa A↦?_
      refine qr (us := [.int .u8 0, .string (bsL (l.take (nDg r l))), .string (bsL (((l.drop (nDg r l)).drop 1).take (nDg r ((l.drop (nDg r l)).drop 1))))]) A V rfl rfl (qi rfl rfl rfl (by kernel_rfl) V 0 rfl rfl rfl) 0 rfl rfl rfl rfl ?_
      intro w31 V
      refine qa (hK30 _ _ (wsk fun K32 hK32 => wrl (sdo A (qk V RxC_isS_88 rfl 0 rfl (cs := [.int .u8 0, .string (bsL (l.take (nDg r l))), .string (bsL (((l.drop (nDg r l)).drop 1).take (nDg r ((l.drop (nDg r l)).drop 1))))]) rfl rfl) λa A↦?_)))
      refine sdm A λa A↦?_
      refine qr (us := [.int .u8 0, .string (bsL (l.take (nDg r l))), .string (bsL (((l.drop (nDg r l)).drop 1).take (nDg r ((l.drop (nDg r l)).drop 1))))]) A V rfl rfl (qi rfl rfl rfl (by kernel_rfl) V 0 rfl rfl rfl) 0 rfl rfl rfl rfl ?_
      intro w33 V
      refine sda A λa A↦?_
      refine qa (hK32 _ _ (wp_ret (hret _ _ (en2 A rfl (qx V RxC_isS_88 rfl 0 rfl (cs := [.int .u8 0, .string (bsL (l.take (nDg r l))), .string (bsL (((l.drop (nDg r l)).drop 1).take (nDg r ((l.drop (nDg r l)).drop 1))))]) rfl rfl) (qj rfl) ?_))))
      have hs : zj l = false := by unfold zj; first | (simp; omega) | (subst_vars; decide)
      have hu : unS l = l := by unfold unS; rw [hs]; rfl
      have e1 : sgB l = 0 := by unfold sgB; rw [hs]; try rfl
      have e2 : tpD r l = l.take (nDg r l) := by unfold tpD; rw [hu]
      have eq : qD r l = (l).drop (nDg r (l)) := by unfold qD; rw [hu]
      have hsl : slD r l = true := by
       unfold slD; rw [hu, eq]; exact qui (by assumption) (by omega) (by assumption)
      have e3 : boD r l = ((l.drop (nDg r l)).drop 1).take (nDg r ((l.drop (nDg r l)).drop 1)) := by unfold boD; rw [hsl, eq]; rfl
      have e4 : reD r l = ((l.drop (nDg r l)).drop 1).drop (nDg r ((l.drop (nDg r l)).drop 1)) := by unfold reD; rw [hsl, eq]; rfl
      exact ⟨by rw [e1, e2, e3, e4] <;> try rfl, V.bel⟩
 ·
  have hb6' := of_decide_eq_false hb6
  have hb6n : ¬ (l).length = 0 := fun k => hb6' (List.length_eq_zero_iff.1 k)
  refine sdo (v := .bool true) A (qe rfl rfl (fun w => (um (a := l) (b := []) Tryz.underlying9 w).trans (by rw [hb6]; try rfl))) λa A↦?_
  iterate 2 refine sdm A λa A↦?_
  refine sdo (v := .int .u8 (((btL l 0 : Nat) : Int))) A (xk (s := l) (i := 0) Tryz.underlying9 rfl rfl (by first | rfl | omega) (by first | omega | (simp only [List.length_drop, List.length_take]; omega))) λa A↦?_
  rcases tf ((((btL l 0 : Nat) : Int) == 43)) with hb34 | hb34
  ·
   have hb34' := eq_of_beq hb34
   refine sdo (v := .bool true) A (qe rfl rfl (fun w => (zl w).trans (by rw [hb34]))) λa A↦?_
   refine sdm A λa A↦?_
   iterate 3 refine ze A rfl rfl rfl λa A↦?_
   iterate 2 refine sdk (v := .bool true) A λa A↦?_
   refine qa (hK5 _ _ (wp_cond_true (A.ev rfl) ?_))
   refine jc (S := fun w1 => St w w1 [] [] []) (by kernel_rfl) ?_
   replace V := V.drew
   refine qh A 0 rfl rfl rfl rfl hP (V.partD (.cons _ .slnil) 0 rfl (.refl _)) (fun w1 V => qz rfl) λa A↦?_
   refine qh (v := .int .u8 (((btL l 0 : Nat) : Int))) A 1 rfl rfl rfl rfl hP (V.partD (.cons _ .slnil) 0 rfl (.refl _)) (fun w1 V => xk (s := l) (i := 0) Tryz.underlying9 rfl rfl (by first | rfl | omega) (by first | omega | (simp only [List.length_drop, List.length_take]; omega))) λa A↦?_
   refine qh A 2 rfl rfl rfl rfl hP (V.partD (.cons _ .slnil) 0 rfl (.refl _)) (fun w1 V => qz rfl) λa A↦?_
   refine qh (v := .string (bsL (l.drop 1))) A 3 rfl rfl rfl rfl hP (V.partD (.cons _ .slnil) 0 rfl (.refl _)) (fun w1 V => jl (p := 1) (s := l) Tryz.underlying9 rfl rfl (by first | rfl | omega) (by first | omega | (simp only [List.length_drop, List.length_take]; omega))) λa A↦?_
   refine qh (v := .pointer (some ⟨g2, 0, none⟩)) A 4 rfl rfl rfl rfl hP (V.partD (.cons _ .slnil) 0 rfl (.refl _)) (fun w1 V => qf RxC_fld_88_0 rfl rfl) λa A↦?_
   refine qt (by kernel_rfl) (zp (us := [.int .u8 (((btL l 0 : Nat) : Int)), .string (bsL []), .string (bsL [])]) A V 5 rfl rfl rfl (qi rfl rfl rfl (by kernel_rfl) V 0 rfl rfl rfl) 0 rfl rfl rfl rfl ?_)
   intro w35 V
   refine ⟨(V.partD (.cons _ .slnil) 0 rfl (.refl _)), ?_⟩
   refine qh A 6 rfl rfl rfl rfl hP (V.partD (.cons _ .slnil) 0 rfl (.refl _)) (fun w1 V => zh rfl) λa A↦?_
   refine zn (by kernel_rfl) ?_
   refine hK4 _ _ (wsk fun K36 hK36 => wrl ?_)
   iterate 2 refine sdm A λa A↦?_
   refine qg A rfl rfl rfl (qb  rfl rfl (fun w => by kernel_rfl)) (xi (l := l.drop 1) hr (by first | omega | (simp only [List.length_drop, List.length_take]; omega))) ?_
   rintro _ w38 ⟨rfl, hb37⟩
   replace V := V.call hb37
   refine ⟨_, rfl, ?_⟩
   intro a A
   refine sdm A λa A↦?_
   iterate 2 refine sdo A (qm (vs := [.string (bsL ((l.drop 1).take (nDg r (l.drop 1)))), .string (bsL ((l.drop 1).drop (nDg r (l.drop 1))))]) rfl rfl) λa A↦?_
   refine sdo (v := .pointer (some ⟨g2, 1, none⟩)) A (qf RxC_fld_88_1 rfl rfl) λa A↦?_
   refine qr (us := [.int .u8 (((btL l 0 : Nat) : Int)), .string (bsL ((l.drop 1).take (nDg r (l.drop 1)))), .string (bsL [])]) A V rfl rfl (qi rfl rfl rfl (by kernel_rfl) V 0 rfl rfl rfl) 0 rfl rfl rfl rfl ?_
   intro w39 V
   refine sda A λa A↦?_
   refine qa (hK36 _ _ (wsk fun K40 hK40 => wsk fun K41 hK41 => wrl (sdo (v := .pointer (some ⟨g2, 1, none⟩)) A (qf RxC_fld_88_1 rfl rfl) λa A↦?_)))
   refine sdo A (qs V RxC_is1_9 rfl 0 rfl rfl) λa A↦?_
   rcases tf (decide ((l.drop 1).take (nDg r (l.drop 1)) = ([] : List UInt8))) with hb42 | hb42
   ·
    have hb42' := of_decide_eq_true hb42
    have hb42n : ((l.drop 1).take (nDg r (l.drop 1))).length = 0 := by rw [hb42']; rfl
    refine sdo (v := .bool true) A (qe rfl rfl (fun w => (zu (a := (l.drop 1).take (nDg r (l.drop 1))) (b := []) Tryz.underlying9 w).trans (by rw [hb42]; try rfl))) λa A↦?_
    refine sdm A λa A↦?_
    iterate 2 refine ze A rfl rfl rfl λa A↦?_
    refine sdk (v := .bool true) A λa A↦?_
    refine sdm A λa A↦?_
    iterate 3 refine ze A rfl rfl rfl λa A↦?_
    refine sdk (v := .bool true) A λa A↦?_
    refine qa (hK41 _ _ (wp_cond_true (A.ev rfl) ?_))
    refine wsk fun K43 hK43 => wrl (sdo A (qk V RxC_isS_88 rfl 0 rfl (cs := [.int .u8 (((btL l 0 : Nat) : Int)), .string (bsL ((l.drop 1).take (nDg r (l.drop 1)))), .string (bsL [])]) rfl rfl) λa A↦?_)
    refine sdm A λa A↦?_
    refine qr (us := [.int .u8 (((btL l 0 : Nat) : Int)), .string (bsL ((l.drop 1).take (nDg r (l.drop 1)))), .string (bsL [])]) A V rfl rfl (qi rfl rfl rfl (by kernel_rfl) V 0 rfl rfl rfl) 0 rfl rfl rfl rfl ?_
    intro w44 V
    refine sda A λa A↦?_
    refine qa (hK43 _ _ (wp_ret (hret _ _ (en2 A rfl (qx V RxC_isS_88 rfl 0 rfl (cs := [.int .u8 (((btL l 0 : Nat) : Int)), .string (bsL ((l.drop 1).take (nDg r (l.drop 1)))), .string (bsL [])]) rfl rfl) (qj rfl) ?_))))
    have hs : zj l = true := by unfold zj; simp; omega
    have hu : unS l = l.drop 1 := by unfold unS; rw [hs]; rfl
    have e1 : sgB l = btL l 0 := by unfold sgB; rw [hs]; try rfl
    have e2 : tpD r l = (l.drop 1).take (nDg r (l.drop 1)) := by unfold tpD; rw [hu]
    have eq : qD r l = (l.drop 1).drop (nDg r (l.drop 1)) := by unfold qD; rw [hu]
    have hsl : slD r l = false := by
     unfold slD; rw [hu, eq]; first | exact vw (by assumption) | exact vx (by assumption) | exact vy (by omega) | exact vz (by assumption)
    have e3 : boD r l = [] := by unfold boD; rw [hsl]; rfl
    have e4 : reD r l = (l.drop 1).drop (nDg r (l.drop 1)) := by unfold reD; rw [hsl, eq]; rfl
    exact ⟨by rw [e1, e2, e3, e4] <;> try rfl, V.bel⟩
   ·
    have hb42' := of_decide_eq_false hb42
    have hb42n : ¬ ((l.drop 1).take (nDg r (l.drop 1))).length = 0 := fun k => hb42' (List.length_eq_zero_iff.1 k)
    refine sdo (v := .bool false) A (qe rfl rfl (fun w => (zu (a := (l.drop 1).take (nDg r (l.drop 1))) (b := []) Tryz.underlying9 w).trans (by rw [hb42]; try rfl))) λa A↦?_
    iterate 2 refine sdm A λa A↦?_
    rcases tf (decide ((l.drop 1).drop (nDg r (l.drop 1)) = ([] : List UInt8))) with hb45 | hb45
    ·
     have hb45' := of_decide_eq_true hb45
     have hb45n : ((l.drop 1).drop (nDg r (l.drop 1))).length = 0 := by rw [hb45']; rfl
     refine sdo (v := .bool true) A (qe rfl rfl (fun w => (zu (a := (l.drop 1).drop (nDg r (l.drop 1))) (b := []) Tryz.underlying9 w).trans (by rw [hb45]; try rfl))) λa A↦?_
     refine sdk (v := .bool true) A λa A↦?_
     refine sdm A λa A↦?_
     iterate 3 refine ze A rfl rfl rfl λa A↦?_
     refine sdk (v := .bool true) A λa A↦?_
     refine qa (hK41 _ _ (wp_cond_true (A.ev rfl) ?_))
     refine wsk fun K46 hK46 => wrl (sdo A (qk V RxC_isS_88 rfl 0 rfl (cs := [.int .u8 (((btL l 0 : Nat) : Int)), .string (bsL ((l.drop 1).take (nDg r (l.drop 1)))), .string (bsL [])]) rfl rfl) λa A↦?_)
     refine sdm A λa A↦?_
     refine qr (us := [.int .u8 (((btL l 0 : Nat) : Int)), .string (bsL ((l.drop 1).take (nDg r (l.drop 1)))), .string (bsL [])]) A V rfl rfl (qi rfl rfl rfl (by kernel_rfl) V 0 rfl rfl rfl) 0 rfl rfl rfl rfl ?_
     intro w47 V
     refine sda A λa A↦?_
     refine qa (hK46 _ _ (wp_ret (hret _ _ (en2 A rfl (qx V RxC_isS_88 rfl 0 rfl (cs := [.int .u8 (((btL l 0 : Nat) : Int)), .string (bsL ((l.drop 1).take (nDg r (l.drop 1)))), .string (bsL [])]) rfl rfl) (qj rfl) ?_))))
     have hs : zj l = true := by unfold zj; simp; omega
     have hu : unS l = l.drop 1 := by unfold unS; rw [hs]; rfl
     have e1 : sgB l = btL l 0 := by unfold sgB; rw [hs]; try rfl
     have e2 : tpD r l = (l.drop 1).take (nDg r (l.drop 1)) := by unfold tpD; rw [hu]
     have eq : qD r l = (l.drop 1).drop (nDg r (l.drop 1)) := by unfold qD; rw [hu]
     have hsl : slD r l = false := by
      unfold slD; rw [hu, eq]; first | exact vw (by assumption) | exact vx (by assumption) | exact vy (by omega) | exact vz (by assumption)
     have e3 : boD r l = [] := by unfold boD; rw [hsl]; rfl
     have e4 : reD r l = (l.drop 1).drop (nDg r (l.drop 1)) := by unfold reD; rw [hsl, eq]; rfl
     exact ⟨by rw [e1, e2, e3, e4] <;> try rfl, V.bel⟩
    ·
     have hb45' := of_decide_eq_false hb45
     have hb45n : ¬ ((l.drop 1).drop (nDg r (l.drop 1))).length = 0 := fun k => hb45' (List.length_eq_zero_iff.1 k)
     refine sdo (v := .bool false) A (qe rfl rfl (fun w => (zu (a := (l.drop 1).drop (nDg r (l.drop 1))) (b := []) Tryz.underlying9 w).trans (by rw [hb45]; try rfl))) λa A↦?_
     refine sdk (v := .bool false) A λa A↦?_
     iterate 2 refine sdm A λa A↦?_
     refine sdo (v := .int .u8 (((btL ((l.drop 1).drop (nDg r (l.drop 1))) 0 : Nat) : Int))) A (xk (s := (l.drop 1).drop (nDg r (l.drop 1))) (i := 0) Tryz.underlying9 rfl rfl (by first | rfl | omega) (by first | omega | (simp only [List.length_drop, List.length_take]; omega))) λa A↦?_
     rcases tf ((((btL ((l.drop 1).drop (nDg r (l.drop 1))) 0 : Nat) : Int) != 47)) with hb48 | hb48
     ·
      have hb48' := bne_iff_ne.1 hb48
      refine sdo (v := .bool true) A (qe rfl rfl (fun w => (jd w).trans (by rw [hb48]))) λa A↦?_
      refine sdk (v := .bool true) A λa A↦?_
      refine qa (hK41 _ _ (wp_cond_true (A.ev rfl) ?_))
      refine wsk fun K49 hK49 => wrl (sdo A (qk V RxC_isS_88 rfl 0 rfl (cs := [.int .u8 (((btL l 0 : Nat) : Int)), .string (bsL ((l.drop 1).take (nDg r (l.drop 1)))), .string (bsL [])]) rfl rfl) λa A↦?_)
      refine sdm A λa A↦?_
      refine qr (us := [.int .u8 (((btL l 0 : Nat) : Int)), .string (bsL ((l.drop 1).take (nDg r (l.drop 1)))), .string (bsL [])]) A V rfl rfl (qi rfl rfl rfl (by kernel_rfl) V 0 rfl rfl rfl) 0 rfl rfl rfl rfl ?_
      intro w50 V
      refine sda A λa A↦?_
      refine qa (hK49 _ _ (wp_ret (hret _ _ (en2 A rfl (qx V RxC_isS_88 rfl 0 rfl (cs := [.int .u8 (((btL l 0 : Nat) : Int)), .string (bsL ((l.drop 1).take (nDg r (l.drop 1)))), .string (bsL [])]) rfl rfl) (qj rfl) ?_))))
      have hs : zj l = true := by unfold zj; simp; omega
      have hu : unS l = l.drop 1 := by unfold unS; rw [hs]; rfl
      have e1 : sgB l = btL l 0 := by unfold sgB; rw [hs]; try rfl
      have e2 : tpD r l = (l.drop 1).take (nDg r (l.drop 1)) := by unfold tpD; rw [hu]
      have eq : qD r l = (l.drop 1).drop (nDg r (l.drop 1)) := by unfold qD; rw [hu]
      have hsl : slD r l = false := by
       unfold slD; rw [hu, eq]; first | exact vw (by assumption) | exact vx (by assumption) | exact vy (by omega) | exact vz (by assumption)
      have e3 : boD r l = [] := by unfold boD; rw [hsl]; rfl
      have e4 : reD r l = (l.drop 1).drop (nDg r (l.drop 1)) := by unfold reD; rw [hsl, eq]; rfl
      exact ⟨by rw [e1, e2, e3, e4] <;> try rfl, V.bel⟩
     ·
      have hb48' := bne_eq_false_iff_eq.1 hb48
      refine sdo (v := .bool false) A (qe rfl rfl (fun w => (jd w).trans (by rw [hb48]))) λa A↦?_
      refine sdk (v := .bool false) A λa A↦?_
      refine qa (hK41 _ _ (wp_cond_false (A.ev rfl) ?_))
      refine wp_skip (hK40 _ _ (wsk fun K51 hK51 => wrl (mv A rfl rfl rfl λa A↦?_)))
      refine sdo (v := .string (bsL (((l.drop 1).drop (nDg r (l.drop 1))).drop 1))) A (jl (p := 1) (s := (l.drop 1).drop (nDg r (l.drop 1))) Tryz.underlying9 rfl rfl (by first | rfl | omega) (by first | omega | (simp only [List.length_drop, List.length_take]; omega))) λa A↦?_
      refine sdm A λa A↦?_
      refine qg A rfl rfl rfl (qb  rfl rfl (fun w => by kernel_rfl)) (xi (l := ((l.drop 1).drop (nDg r (l.drop 1))).drop 1) hr (by first | omega | (simp only [List.length_drop, List.length_take]; omega))) ?_
      rintro _ w53 ⟨rfl, hb52⟩
      replace V := V.call hb52
      refine ⟨_, rfl, ?_⟩
      intro a A
      refine sdm A λa A↦?_
      iterate 2 refine sdo A (qm (vs := [.string (bsL ((((l.drop 1).drop (nDg r (l.drop 1))).drop 1).take (nDg r (((l.drop 1).drop (nDg r (l.drop 1))).drop 1)))), .string (bsL ((((l.drop 1).drop (nDg r (l.drop 1))).drop 1).drop (nDg r (((l.drop 1).drop (nDg r (l.drop 1))).drop 1))))]) rfl rfl) λa A↦?_
      iterate 2 refine sda A λa A↦?_
      refine qa (hK51 _ _ (wsk fun K54 hK54 => wsk fun K55 hK55 => wrl (mv A rfl rfl rfl λa A↦?_)))
      rcases tf (decide ((((l.drop 1).drop (nDg r (l.drop 1))).drop 1).take (nDg r (((l.drop 1).drop (nDg r (l.drop 1))).drop 1)) = ([] : List UInt8))) with hb56 | hb56
      ·
       have hb56' := of_decide_eq_true hb56
       have hb56n : ((((l.drop 1).drop (nDg r (l.drop 1))).drop 1).take (nDg r (((l.drop 1).drop (nDg r (l.drop 1))).drop 1))).length = 0 := by rw [hb56']; rfl
       refine sdo (v := .bool true) A (qe rfl rfl (fun w => (zu (a := (((l.drop 1).drop (nDg r (l.drop 1))).drop 1).take (nDg r (((l.drop 1).drop (nDg r (l.drop 1))).drop 1))) (b := []) Tryz.underlying9 w).trans (by rw [hb56]; try rfl))) λa A↦?_
       refine qa (hK55 _ _ (wp_cond_true (A.ev rfl) ?_))
       refine wsk fun K57 hK57 => wrl (sdo A (qk V RxC_isS_88 rfl 0 rfl (cs := [.int .u8 (((btL l 0 : Nat) : Int)), .string (bsL ((l.drop 1).take (nDg r (l.drop 1)))), .string (bsL [])]) rfl rfl) λa A↦?_)
       refine sdm A λa A↦?_
       refine qr (us := [.int .u8 (((btL l 0 : Nat) : Int)), .string (bsL ((l.drop 1).take (nDg r (l.drop 1)))), .string (bsL [])]) A V rfl rfl (qi rfl rfl rfl (by kernel_rfl) V 0 rfl rfl rfl) 0 rfl rfl rfl rfl ?_
       intro w58 V
       refine sda A λa A↦?_
       refine qa (hK57 _ _ (wp_ret (hret _ _ (en2 A rfl (qx V RxC_isS_88 rfl 0 rfl (cs := [.int .u8 (((btL l 0 : Nat) : Int)), .string (bsL ((l.drop 1).take (nDg r (l.drop 1)))), .string (bsL [])]) rfl rfl) (qj rfl) ?_))))
       have hs : zj l = true := by unfold zj; simp; omega
       have hu : unS l = l.drop 1 := by unfold unS; rw [hs]; rfl
       have e1 : sgB l = btL l 0 := by unfold sgB; rw [hs]; try rfl
       have e2 : tpD r l = (l.drop 1).take (nDg r (l.drop 1)) := by unfold tpD; rw [hu]
       have eq : qD r l = (l.drop 1).drop (nDg r (l.drop 1)) := by unfold qD; rw [hu]
       have hsl : slD r l = false := by
        unfold slD; rw [hu, eq]; first | exact vw (by assumption) | exact vx (by assumption) | exact vy (by omega) | exact vz (by assumption)
       have e3 : boD r l = [] := by unfold boD; rw [hsl]; rfl
       have e4 : reD r l = (l.drop 1).drop (nDg r (l.drop 1)) := by unfold reD; rw [hsl, eq]; rfl
       exact ⟨by rw [e1, e2, e3, e4] <;> try rfl, V.bel⟩
      ·
       have hb56' := of_decide_eq_false hb56
       have hb56n : ¬ ((((l.drop 1).drop (nDg r (l.drop 1))).drop 1).take (nDg r (((l.drop 1).drop (nDg r (l.drop 1))).drop 1))).length = 0 := fun k => hb56' (List.length_eq_zero_iff.1 k)
       refine sdo (v := .bool false) A (qe rfl rfl (fun w => (zu (a := (((l.drop 1).drop (nDg r (l.drop 1))).drop 1).take (nDg r (((l.drop 1).drop (nDg r (l.drop 1))).drop 1))) (b := []) Tryz.underlying9 w).trans (by rw [hb56]; try rfl))) λa A↦?_
       refine qa (hK55 _ _ (wp_cond_false (A.ev rfl) ?_))
       refine wp_skip (hK54 _ _ (wsk fun K59 hK59 => wrl (mv A rfl rfl rfl λa A↦?_)))
       refine sdo (v := .pointer (some ⟨g2, 2, none⟩)) A (qf RxC_fld_88_2 rfl rfl) λa A↦?_
       refine qr (us := [.int .u8 (((btL l 0 : Nat) : Int)), .string (bsL ((l.drop 1).take (nDg r (l.drop 1)))), .string (bsL ((((l.drop 1).drop (nDg r (l.drop 1))).drop 1).take (nDg r (((l.drop 1).drop (nDg r (l.drop 1))).drop 1))))]) A V rfl rfl (qi rfl rfl rfl (by kernel_rfl) V 0 rfl rfl rfl) 0 rfl rfl rfl rfl ?_
       intro w60 V
       refine qa (hK59 _ _ (wsk fun K61 hK61 => wrl (sdo A (qk V RxC_isS_88 rfl 0 rfl (cs := [.int .u8 (((btL l 0 : Nat) : Int)), .string (bsL ((l.drop 1).take (nDg r (l.drop 1)))), .string (bsL ((((l.drop 1).drop (nDg r (l.drop 1))).drop 1).take (nDg r (((l.drop 1).drop (nDg r (l.drop 1))).drop 1))))]) rfl rfl) λa A↦?_)))
       refine sdm A λa A↦?_
       refine qr (us := [.int .u8 (((btL l 0 : Nat) : Int)), .string (bsL ((l.drop 1).take (nDg r (l.drop 1)))), .string (bsL ((((l.drop 1).drop (nDg r (l.drop 1))).drop 1).take (nDg r (((l.drop 1).drop (nDg r (l.drop 1))).drop 1))))]) A V rfl rfl (qi rfl rfl rfl (by kernel_rfl) V 0 rfl rfl rfl) 0 rfl rfl rfl rfl ?_
       intro w62 V
       refine sda A λa A↦?_
       refine qa (hK61 _ _ (wp_ret (hret _ _ (en2 A rfl (qx V RxC_isS_88 rfl 0 rfl (cs := [.int .u8 (((btL l 0 : Nat) : Int)), .string (bsL ((l.drop 1).take (nDg r (l.drop 1)))), .string (bsL ((((l.drop 1).drop (nDg r (l.drop 1))).drop 1).take (nDg r (((l.drop 1).drop (nDg r (l.drop 1))).drop 1))))]) rfl rfl) (qj rfl) ?_))))
       have hs : zj l = true := by unfold zj; simp; omega
       have hu : unS l = l.drop 1 := by unfold unS; rw [hs]; rfl
       have e1 : sgB l = btL l 0 := by unfold sgB; rw [hs]; try rfl
       have e2 : tpD r l = (l.drop 1).take (nDg r (l.drop 1)) := by unfold tpD; rw [hu]
       have eq : qD r l = (l.drop 1).drop (nDg r (l.drop 1)) := by unfold qD; rw [hu]
       have hsl : slD r l = true := by
        unfold slD; rw [hu, eq]; exact qui (by assumption) (by omega) (by assumption)
       have e3 : boD r l = (((l.drop 1).drop (nDg r (l.drop 1))).drop 1).take (nDg r (((l.drop 1).drop (nDg r (l.drop 1))).drop 1)) := by unfold boD; rw [hsl, eq]; rfl
       have e4 : reD r l = (((l.drop 1).drop (nDg r (l.drop 1))).drop 1).drop (nDg r (((l.drop 1).drop (nDg r (l.drop 1))).drop 1)) := by unfold reD; rw [hsl, eq]; rfl
       exact ⟨by rw [e1, e2, e3, e4] <;> try rfl, V.bel⟩
  ·
   have hb34' := ne_of_beq_false hb34
   refine sdo (v := .bool false) A (qe rfl rfl (fun w => (zl w).trans (by rw [hb34]))) λa A↦?_
   iterate 2 refine sdm A λa A↦?_
   refine sdo (v := .int .u8 (((btL l 0 : Nat) : Int))) A (xk (s := l) (i := 0) Tryz.underlying9 rfl rfl (by first | rfl | omega) (by first | omega | (simp only [List.length_drop, List.length_take]; omega))) λa A↦?_
   rcases tf ((((btL l 0 : Nat) : Int) == 45)) with hb63 | hb63
   ·
    have hb63' := eq_of_beq hb63
    refine sdo (v := .bool true) A (qe rfl rfl (fun w => (zl w).trans (by rw [hb63]))) λa A↦?_
    iterate 2 refine sdk (v := .bool true) A λa A↦?_
    refine qa (hK5 _ _ (wp_cond_true (A.ev rfl) ?_))
    refine jc (S := fun w1 => St w w1 [] [] []) (by kernel_rfl) ?_
    replace V := V.drew
    refine qh A 0 rfl rfl rfl rfl hP (V.partD (.cons _ .slnil) 0 rfl (.refl _)) (fun w1 V => qz rfl) λa A↦?_
    refine qh (v := .int .u8 (((btL l 0 : Nat) : Int))) A 1 rfl rfl rfl rfl hP (V.partD (.cons _ .slnil) 0 rfl (.refl _)) (fun w1 V => xk (s := l) (i := 0) Tryz.underlying9 rfl rfl (by first | rfl | omega) (by first | omega | (simp only [List.length_drop, List.length_take]; omega))) λa A↦?_
    refine qh A 2 rfl rfl rfl rfl hP (V.partD (.cons _ .slnil) 0 rfl (.refl _)) (fun w1 V => qz rfl) λa A↦?_
    refine qh (v := .string (bsL (l.drop 1))) A 3 rfl rfl rfl rfl hP (V.partD (.cons _ .slnil) 0 rfl (.refl _)) (fun w1 V => jl (p := 1) (s := l) Tryz.underlying9 rfl rfl (by first | rfl | omega) (by first | omega | (simp only [List.length_drop, List.length_take]; omega))) λa A↦?_
    refine qh (v := .pointer (some ⟨g2, 0, none⟩)) A 4 rfl rfl rfl rfl hP (V.partD (.cons _ .slnil) 0 rfl (.refl _)) (fun w1 V => qf RxC_fld_88_0 rfl rfl) λa A↦?_
    refine qt (by kernel_rfl) (zp (us := [.int .u8 (((btL l 0 : Nat) : Int)), .string (bsL []), .string (bsL [])]) A V 5 rfl rfl rfl (qi rfl rfl rfl (by kernel_rfl) V 0 rfl rfl rfl) 0 rfl rfl rfl rfl ?_)
    intro w64 V
    refine ⟨(V.partD (.cons _ .slnil) 0 rfl (.refl _)), ?_⟩
    refine qh A 6 rfl rfl rfl rfl hP (V.partD (.cons _ .slnil) 0 rfl (.refl _)) (fun w1 V => zh rfl) λa A↦?_
    refine zn (by kernel_rfl) ?_
    refine hK4 _ _ (wsk fun K65 hK65 => wrl ?_)
    iterate 2 refine sdm A λa A↦?_
    refine qg A rfl rfl rfl (qb  rfl rfl (fun w => by kernel_rfl)) (xi (l := l.drop 1) hr (by first | omega | (simp only [List.length_drop, List.length_take]; omega))) ?_
    rintro _ w67 ⟨rfl, hb66⟩
    replace V := V.call hb66
    refine ⟨_, rfl, ?_⟩
    intro a A
    refine sdm A λa A↦?_
    iterate 2 refine sdo A (qm (vs := [.string (bsL ((l.drop 1).take (nDg r (l.drop 1)))), .string (bsL ((l.drop 1).drop (nDg r (l.drop 1))))]) rfl rfl) λa A↦?_
    refine sdo (v := .pointer (some ⟨g2, 1, none⟩)) A (qf RxC_fld_88_1 rfl rfl) λa A↦?_
    refine qr (us := [.int .u8 (((btL l 0 : Nat) : Int)), .string (bsL ((l.drop 1).take (nDg r (l.drop 1)))), .string (bsL [])]) A V rfl rfl (qi rfl rfl rfl (by kernel_rfl) V 0 rfl rfl rfl) 0 rfl rfl rfl rfl ?_
    intro w68 V
    refine sda A λa A↦?_
    refine qa (hK65 _ _ (wsk fun K69 hK69 => wsk fun K70 hK70 => wrl (sdo (v := .pointer (some ⟨g2, 1, none⟩)) A (qf RxC_fld_88_1 rfl rfl) λa A↦?_)))
    refine sdo A (qs V RxC_is1_9 rfl 0 rfl rfl) λa A↦?_
    rcases tf (decide ((l.drop 1).take (nDg r (l.drop 1)) = ([] : List UInt8))) with hb71 | hb71
    ·
     have hb71' := of_decide_eq_true hb71
     have hb71n : ((l.drop 1).take (nDg r (l.drop 1))).length = 0 := by rw [hb71']; rfl
     refine sdo (v := .bool true) A (qe rfl rfl (fun w => (zu (a := (l.drop 1).take (nDg r (l.drop 1))) (b := []) Tryz.underlying9 w).trans (by rw [hb71]; try rfl))) λa A↦?_
     refine sdm A λa A↦?_
     iterate 2 refine ze A rfl rfl rfl λa A↦?_
     refine sdk (v := .bool true) A λa A↦?_
     refine sdm A λa A↦?_
     iterate 3 refine ze A rfl rfl rfl λa A↦?_
     refine sdk (v := .bool true) A λa A↦?_
     refine qa (hK70 _ _ (wp_cond_true (A.ev rfl) ?_))
     refine wsk fun K72 hK72 => wrl (sdo A (qk V RxC_isS_88 rfl 0 rfl (cs := [.int .u8 (((btL l 0 : Nat) : Int)), .string (bsL ((l.drop 1).take (nDg r (l.drop 1)))), .string (bsL [])]) rfl rfl) λa A↦?_)
     refine sdm A λa A↦?_
     refine qr (us := [.int .u8 (((btL l 0 : Nat) : Int)), .string (bsL ((l.drop 1).take (nDg r (l.drop 1)))), .string (bsL [])]) A V rfl rfl (qi rfl rfl rfl (by kernel_rfl) V 0 rfl rfl rfl) 0 rfl rfl rfl rfl ?_
     intro w73 V
     refine sda A λa A↦?_
     refine qa (hK72 _ _ (wp_ret (hret _ _ (en2 A rfl (qx V RxC_isS_88 rfl 0 rfl (cs := [.int .u8 (((btL l 0 : Nat) : Int)), .string (bsL ((l.drop 1).take (nDg r (l.drop 1)))), .string (bsL [])]) rfl rfl) (qj rfl) ?_))))
     have hs : zj l = true := by unfold zj; simp; omega
     have hu : unS l = l.drop 1 := by unfold unS; rw [hs]; rfl
     have e1 : sgB l = btL l 0 := by unfold sgB; rw [hs]; try rfl
     have e2 : tpD r l = (l.drop 1).take (nDg r (l.drop 1)) := by unfold tpD; rw [hu]
     have eq : qD r l = (l.drop 1).drop (nDg r (l.drop 1)) := by unfold qD; rw [hu]
     have hsl : slD r l = false := by
      unfold slD; rw [hu, eq]; first | exact vw (by assumption) | exact vx (by assumption) | exact vy (by omega) | exact vz (by assumption)
     have e3 : boD r l = [] := by unfold boD; rw [hsl]; rfl
     have e4 : reD r l = (l.drop 1).drop (nDg r (l.drop 1)) := by unfold reD; rw [hsl, eq]; rfl
     exact ⟨by rw [e1, e2, e3, e4] <;> try rfl, V.bel⟩
    ·
     have hb71' := of_decide_eq_false hb71
     have hb71n : ¬ ((l.drop 1).take (nDg r (l.drop 1))).length = 0 := fun k => hb71' (List.length_eq_zero_iff.1 k)
     refine sdo (v := .bool false) A (qe rfl rfl (fun w => (zu (a := (l.drop 1).take (nDg r (l.drop 1))) (b := []) Tryz.underlying9 w).trans (by rw [hb71]; try rfl))) λa A↦?_
     iterate 2 refine sdm A λa A↦?_
     rcases tf (decide ((l.drop 1).drop (nDg r (l.drop 1)) = ([] : List UInt8))) with hb74 | hb74
     ·
      have hb74' := of_decide_eq_true hb74
      have hb74n : ((l.drop 1).drop (nDg r (l.drop 1))).length = 0 := by rw [hb74']; rfl
      refine sdo (v := .bool true) A (qe rfl rfl (fun w => (zu (a := (l.drop 1).drop (nDg r (l.drop 1))) (b := []) Tryz.underlying9 w).trans (by rw [hb74]; try rfl))) λa A↦?_
      refine sdk (v := .bool true) A λa A↦?_
      refine sdm A λa A↦?_
      iterate 3 refine ze A rfl rfl rfl λa A↦?_
      refine sdk (v := .bool true) A λa A↦?_
      refine qa (hK70 _ _ (wp_cond_true (A.ev rfl) ?_))
      refine wsk fun K75 hK75 => wrl (sdo A (qk V RxC_isS_88 rfl 0 rfl (cs := [.int .u8 (((btL l 0 : Nat) : Int)), .string (bsL ((l.drop 1).take (nDg r (l.drop 1)))), .string (bsL [])]) rfl rfl) λa A↦?_)
      refine sdm A λa A↦?_
      refine qr (us := [.int .u8 (((btL l 0 : Nat) : Int)), .string (bsL ((l.drop 1).take (nDg r (l.drop 1)))), .string (bsL [])]) A V rfl rfl (qi rfl rfl rfl (by kernel_rfl) V 0 rfl rfl rfl) 0 rfl rfl rfl rfl ?_
      intro w76 V
      refine sda A λa A↦?_
      refine qa (hK75 _ _ (wp_ret (hret _ _ (en2 A rfl (qx V RxC_isS_88 rfl 0 rfl (cs := [.int .u8 (((btL l 0 : Nat) : Int)), .string (bsL ((l.drop 1).take (nDg r (l.drop 1)))), .string (bsL [])]) rfl rfl) (qj rfl) ?_))))
      have hs : zj l = true := by unfold zj; simp; omega
      have hu : unS l = l.drop 1 := by unfold unS; rw [hs]; rfl
      have e1 : sgB l = btL l 0 := by unfold sgB; rw [hs]; try rfl
      have e2 : tpD r l = (l.drop 1).take (nDg r (l.drop 1)) := by unfold tpD; rw [hu]
      have eq : qD r l = (l.drop 1).drop (nDg r (l.drop 1)) := by unfold qD; rw [hu]
      have hsl : slD r l = false := by
       unfold slD; rw [hu, eq]; first | exact vw (by assumption) | exact vx (by assumption) | exact vy (by omega) | exact vz (by assumption)
      have e3 : boD r l = [] := by unfold boD; rw [hsl]; rfl
      have e4 : reD r l = (l.drop 1).drop (nDg r (l.drop 1)) := by unfold reD; rw [hsl, eq]; rfl
      exact ⟨by rw [e1, e2, e3, e4] <;> try rfl, V.bel⟩
     ·
      have hb74' := of_decide_eq_false hb74
      have hb74n : ¬ ((l.drop 1).drop (nDg r (l.drop 1))).length = 0 := fun k => hb74' (List.length_eq_zero_iff.1 k)
      refine sdo (v := .bool false) A (qe rfl rfl (fun w => (zu (a := (l.drop 1).drop (nDg r (l.drop 1))) (b := []) Tryz.underlying9 w).trans (by rw [hb74]; try rfl))) λa A↦?_
      refine sdk (v := .bool false) A λa A↦?_
      iterate 2 refine sdm A λa A↦?_
      refine sdo (v := .int .u8 (((btL ((l.drop 1).drop (nDg r (l.drop 1))) 0 : Nat) : Int))) A (xk (s := (l.drop 1).drop (nDg r (l.drop 1))) (i := 0) Tryz.underlying9 rfl rfl (by first | rfl | omega) (by first | omega | (simp only [List.length_drop, List.length_take]; omega))) λa A↦?_
      rcases tf ((((btL ((l.drop 1).drop (nDg r (l.drop 1))) 0 : Nat) : Int) != 47)) with hb77 | hb77
      ·
       have hb77' := bne_iff_ne.1 hb77
       refine sdo (v := .bool true) A (qe rfl rfl (fun w => (jd w).trans (by rw [hb77]))) λa A↦?_
       refine sdk (v := .bool true) A λa A↦?_
       refine qa (hK70 _ _ (wp_cond_true (A.ev rfl) ?_))
       refine wsk fun K78 hK78 => wrl (sdo A (qk V RxC_isS_88 rfl 0 rfl (cs := [.int .u8 (((btL l 0 : Nat) : Int)), .string (bsL ((l.drop 1).take (nDg r (l.drop 1)))), .string (bsL [])]) rfl rfl) λa A↦?_)
       refine sdm A λa A↦?_
       refine qr (us := [.int .u8 (((btL l 0 : Nat) : Int)), .string (bsL ((l.drop 1).take (nDg r (l.drop 1)))), .string (bsL [])]) A V rfl rfl (qi rfl rfl rfl (by kernel_rfl) V 0 rfl rfl rfl) 0 rfl rfl rfl rfl ?_
       intro w79 V
       refine sda A λa A↦?_
       refine qa (hK78 _ _ (wp_ret (hret _ _ (en2 A rfl (qx V RxC_isS_88 rfl 0 rfl (cs := [.int .u8 (((btL l 0 : Nat) : Int)), .string (bsL ((l.drop 1).take (nDg r (l.drop 1)))), .string (bsL [])]) rfl rfl) (qj rfl) ?_))))
       have hs : zj l = true := by unfold zj; simp; omega
       have hu : unS l = l.drop 1 := by unfold unS; rw [hs]; rfl
       have e1 : sgB l = btL l 0 := by unfold sgB; rw [hs]; try rfl
       have e2 : tpD r l = (l.drop 1).take (nDg r (l.drop 1)) := by unfold tpD; rw [hu]
       have eq : qD r l = (l.drop 1).drop (nDg r (l.drop 1)) := by unfold qD; rw [hu]
       have hsl : slD r l = false := by
        unfold slD; rw [hu, eq]; first | exact vw (by assumption) | exact vx (by assumption) | exact vy (by omega) | exact vz (by assumption)
       have e3 : boD r l = [] := by unfold boD; rw [hsl]; rfl
       have e4 : reD r l = (l.drop 1).drop (nDg r (l.drop 1)) := by unfold reD; rw [hsl, eq]; rfl
       exact ⟨by rw [e1, e2, e3, e4] <;> try rfl, V.bel⟩
      ·
       have hb77' := bne_eq_false_iff_eq.1 hb77
       refine sdo (v := .bool false) A (qe rfl rfl (fun w => (jd w).trans (by rw [hb77]))) λa A↦?_
       refine sdk (v := .bool false) A λa A↦?_
       refine qa (hK70 _ _ (wp_cond_false (A.ev rfl) ?_))
       refine wp_skip (hK69 _ _ (wsk fun K80 hK80 => wrl (mv A rfl rfl rfl λa A↦?_)))
       refine sdo (v := .string (bsL (((l.drop 1).drop (nDg r (l.drop 1))).drop 1))) A (jl (p := 1) (s := (l.drop 1).drop (nDg r (l.drop 1))) Tryz.underlying9 rfl rfl (by first | rfl | omega) (by first | omega | (simp only [List.length_drop, List.length_take]; omega))) λa A↦?_
       refine sdm A λa A↦?_
       refine qg A rfl rfl rfl (qb  rfl rfl (fun w => by kernel_rfl)) (xi (l := ((l.drop 1).drop (nDg r (l.drop 1))).drop 1) hr (by first | omega | (simp only [List.length_drop, List.length_take]; omega))) ?_
       rintro _ w82 ⟨rfl, hb81⟩
       replace V := V.call hb81
       refine ⟨_, rfl, ?_⟩
       intro a A
       refine sdm A λa A↦?_
       iterate 2 refine sdo A (qm (vs := [.string (bsL ((((l.drop 1).drop (nDg r (l.drop 1))).drop 1).take (nDg r (((l.drop 1).drop (nDg r (l.drop 1))).drop 1)))), .string (bsL ((((l.drop 1).drop (nDg r (l.drop 1))).drop 1).drop (nDg r (((l.drop 1).drop (nDg r (l.drop 1))).drop 1))))]) rfl rfl) λa A↦?_
       iterate 2 refine sda A λa A↦?_
       refine qa (hK80 _ _ (wsk fun K83 hK83 => wsk fun K84 hK84 => wrl (mv A rfl rfl rfl λa A↦?_)))
       rcases tf (decide ((((l.drop 1).drop (nDg r (l.drop 1))).drop 1).take (nDg r (((l.drop 1).drop (nDg r (l.drop 1))).drop 1)) = ([] : List UInt8))) with hb85 | hb85
       ·
        have hb85' := of_decide_eq_true hb85
        have hb85n : ((((l.drop 1).drop (nDg r (l.drop 1))).drop 1).take (nDg r (((l.drop 1).drop (nDg r (l.drop 1))).drop 1))).length = 0 := by rw [hb85']; rfl
        refine sdo (v := .bool true) A (qe rfl rfl (fun w => (zu (a := (((l.drop 1).drop (nDg r (l.drop 1))).drop 1).take (nDg r (((l.drop 1).drop (nDg r (l.drop 1))).drop 1))) (b := []) Tryz.underlying9 w).trans (by rw [hb85]; try rfl))) λa A↦?_
        refine qa (hK84 _ _ (wp_cond_true (A.ev rfl) ?_))
        refine wsk fun K86 hK86 => wrl (sdo A (qk V RxC_isS_88 rfl 0 rfl (cs := [.int .u8 (((btL l 0 : Nat) : Int)), .string (bsL ((l.drop 1).take (nDg r (l.drop 1)))), .string (bsL [])]) rfl rfl) λa A↦?_)
        refine sdm A λa A↦?_
        refine qr (us := [.int .u8 (((btL l 0 : Nat) : Int)), .string (bsL ((l.drop 1).take (nDg r (l.drop 1)))), .string (bsL [])]) A V rfl rfl (qi rfl rfl rfl (by kernel_rfl) V 0 rfl rfl rfl) 0 rfl rfl rfl rfl ?_
        intro w87 V
        refine sda A λa A↦?_
        refine qa (hK86 _ _ (wp_ret (hret _ _ (en2 A rfl (qx V RxC_isS_88 rfl 0 rfl (cs := [.int .u8 (((btL l 0 : Nat) : Int)), .string (bsL ((l.drop 1).take (nDg r (l.drop 1)))), .string (bsL [])]) rfl rfl) (qj rfl) ?_))))
        have hs : zj l = true := by unfold zj; simp; omega
        have hu : unS l = l.drop 1 := by unfold unS; rw [hs]; rfl
        have e1 : sgB l = btL l 0 := by unfold sgB; rw [hs]; try rfl
        have e2 : tpD r l = (l.drop 1).take (nDg r (l.drop 1)) := by unfold tpD; rw [hu]
        have eq : qD r l = (l.drop 1).drop (nDg r (l.drop 1)) := by unfold qD; rw [hu]
        have hsl : slD r l = false := by
         unfold slD; rw [hu, eq]; first | exact vw (by assumption) | exact vx (by assumption) | exact vy (by omega) | exact vz (by assumption)
        have e3 : boD r l = [] := by unfold boD; rw [hsl]; rfl
        have e4 : reD r l = (l.drop 1).drop (nDg r (l.drop 1)) := by unfold reD; rw [hsl, eq]; rfl
        exact ⟨by rw [e1, e2, e3, e4] <;> try rfl, V.bel⟩
       ·
        have hb85' := of_decide_eq_false hb85
        have hb85n : ¬ ((((l.drop 1).drop (nDg r (l.drop 1))).drop 1).take (nDg r (((l.drop 1).drop (nDg r (l.drop 1))).drop 1))).length = 0 := fun k => hb85' (List.length_eq_zero_iff.1 k)
        refine sdo (v := .bool false) A (qe rfl rfl (fun w => (zu (a := (((l.drop 1).drop (nDg r (l.drop 1))).drop 1).take (nDg r (((l.drop 1).drop (nDg r (l.drop 1))).drop 1))) (b := []) Tryz.underlying9 w).trans (by rw [hb85]; try rfl))) λa A↦?_
        refine qa (hK84 _ _ (wp_cond_false (A.ev rfl) ?_))
        refine wp_skip (hK83 _ _ (wsk fun K88 hK88 => wrl (mv A rfl rfl rfl λa A↦?_)))
        refine sdo (v := .pointer (some ⟨g2, 2, none⟩)) A (qf RxC_fld_88_2 rfl rfl) λa A↦?_
        refine qr (us := [.int .u8 (((btL l 0 : Nat) : Int)), .string (bsL ((l.drop 1).take (nDg r (l.drop 1)))), .string (bsL ((((l.drop 1).drop (nDg r (l.drop 1))).drop 1).take (nDg r (((l.drop 1).drop (nDg r (l.drop 1))).drop 1))))]) A V rfl rfl (qi rfl rfl rfl (by kernel_rfl) V 0 rfl rfl rfl) 0 rfl rfl rfl rfl ?_
        intro w89 V
        refine qa (hK88 _ _ (wsk fun K90 hK90 => wrl (sdo A (qk V RxC_isS_88 rfl 0 rfl (cs := [.int .u8 (((btL l 0 : Nat) : Int)), .string (bsL ((l.drop 1).take (nDg r (l.drop 1)))), .string (bsL ((((l.drop 1).drop (nDg r (l.drop 1))).drop 1).take (nDg r (((l.drop 1).drop (nDg r (l.drop 1))).drop 1))))]) rfl rfl) λa A↦?_)))
        refine sdm A λa A↦?_
        refine qr (us := [.int .u8 (((btL l 0 : Nat) : Int)), .string (bsL ((l.drop 1).take (nDg r (l.drop 1)))), .string (bsL ((((l.drop 1).drop (nDg r (l.drop 1))).drop 1).take (nDg r (((l.drop 1).drop (nDg r (l.drop 1))).drop 1))))]) A V rfl rfl (qi rfl rfl rfl (by kernel_rfl) V 0 rfl rfl rfl) 0 rfl rfl rfl rfl ?_
        intro w91 V
        refine sda A λa A↦?_
        refine qa (hK90 _ _ (wp_ret (hret _ _ (en2 A rfl (qx V RxC_isS_88 rfl 0 rfl (cs := [.int .u8 (((btL l 0 : Nat) : Int)), .string (bsL ((l.drop 1).take (nDg r (l.drop 1)))), .string (bsL ((((l.drop 1).drop (nDg r (l.drop 1))).drop 1).take (nDg r (((l.drop 1).drop (nDg r (l.drop 1))).drop 1))))]) rfl rfl) (qj rfl) ?_))))
        have hs : zj l = true := by unfold zj; simp; omega
        have hu : unS l = l.drop 1 := by unfold unS; rw [hs]; rfl
        have e1 : sgB l = btL l 0 := by unfold sgB; rw [hs]; try rfl
        have e2 : tpD r l = (l.drop 1).take (nDg r (l.drop 1)) := by unfold tpD; rw [hu]
        have eq : qD r l = (l.drop 1).drop (nDg r (l.drop 1)) := by unfold qD; rw [hu]
        have hsl : slD r l = true := by
         unfold slD; rw [hu, eq]; exact qui (by assumption) (by omega) (by assumption)
        have e3 : boD r l = (((l.drop 1).drop (nDg r (l.drop 1))).drop 1).take (nDg r (((l.drop 1).drop (nDg r (l.drop 1))).drop 1)) := by unfold boD; rw [hsl, eq]; rfl
        have e4 : reD r l = (((l.drop 1).drop (nDg r (l.drop 1))).drop 1).drop (nDg r (((l.drop 1).drop (nDg r (l.drop 1))).drop 1)) := by unfold reD; rw [hsl, eq]; rfl
        exact ⟨by rw [e1, e2, e3, e4] <;> try rfl, V.bel⟩
   ·
    have hb63' := ne_of_beq_false hb63
    refine sdo (v := .bool false) A (qe rfl rfl (fun w => (zl w).trans (by rw [hb63]))) λa A↦?_
    iterate 2 refine sdk (v := .bool false) A λa A↦?_
    refine qa (hK5 _ _ (wp_cond_false (A.ev rfl) ?_))
    refine wp_skip (hK4 _ _ (wsk fun K92 hK92 => wrl ?_))
    iterate 2 refine sdm A λa A↦?_
    refine qg A rfl rfl rfl (qb  rfl rfl (fun w => by kernel_rfl)) (xi (l := l) hr (by first | omega | (simp only [List.length_drop, List.length_take]; omega))) ?_
    rintro _ w94 ⟨rfl, hb93⟩
    replace V := V.call hb93
    refine ⟨_, rfl, ?_⟩
    intro a A
    refine sdm A λa A↦?_
    iterate 2 refine sdo A (qm (vs := [.string (bsL (l.take (nDg r l))), .string (bsL (l.drop (nDg r l)))]) rfl rfl) λa A↦?_
    refine sdo (v := .pointer (some ⟨g2, 1, none⟩)) A (qf RxC_fld_88_1 rfl rfl) λa A↦?_
    refine qr (us := [.int .u8 0, .string (bsL (l.take (nDg r l))), .string (bsL [])]) A V rfl rfl (qi rfl rfl rfl (by kernel_rfl) V 0 rfl rfl rfl) 0 rfl rfl rfl rfl ?_
    intro w95 V
    refine sda A λa A↦?_
    refine qa (hK92 _ _ (wsk fun K96 hK96 => wsk fun K97 hK97 => wrl (sdo (v := .pointer (some ⟨g2, 1, none⟩)) A (qf RxC_fld_88_1 rfl rfl) λa A↦?_)))
    refine sdo A (qs V RxC_is1_9 rfl 0 rfl rfl) λa A↦?_
    rcases tf (decide (l.take (nDg r l) = ([] : List UInt8))) with hb98 | hb98
    ·
     have hb98' := of_decide_eq_true hb98
     have hb98n : (l.take (nDg r l)).length = 0 := by rw [hb98']; rfl
     refine sdo (v := .bool true) A (qe rfl rfl (fun w => (zu (a := l.take (nDg r l)) (b := []) Tryz.underlying9 w).trans (by rw [hb98]; try rfl))) λa A↦?_
     refine sdm A λa A↦?_
     iterate 2 refine ze A rfl rfl rfl λa A↦?_
     refine sdk (v := .bool true) A λa A↦?_
     refine sdm A λa A↦?_
     iterate 3 refine ze A rfl rfl rfl λa A↦?_
     refine sdk (v := .bool true) A λa A↦?_
     refine qa (hK97 _ _ (wp_cond_true (A.ev rfl) ?_))
     refine wsk fun K99 hK99 => wrl (sdo A (qk V RxC_isS_88 rfl 0 rfl (cs := [.int .u8 0, .string (bsL (l.take (nDg r l))), .string (bsL [])]) rfl rfl) λa A↦?_)
     refine sdm A λa A↦?_
     refine qr (us := [.int .u8 0, .string (bsL (l.take (nDg r l))), .string (bsL [])]) A V rfl rfl (qi rfl rfl rfl (by kernel_rfl) V 0 rfl rfl rfl) 0 rfl rfl rfl rfl ?_
     intro w100 V
     refine sda A λa A↦?_
     refine qa (hK99 _ _ (wp_ret (hret _ _ (en2 A rfl (qx V RxC_isS_88 rfl 0 rfl (cs := [.int .u8 0, .string (bsL (l.take (nDg r l))), .string (bsL [])]) rfl rfl) (qj rfl) ?_))))
     have hs : zj l = false := by unfold zj; first | (simp; omega) | (subst_vars; decide)
     have hu : unS l = l := by unfold unS; rw [hs]; rfl
     have e1 : sgB l = 0 := by unfold sgB; rw [hs]; try rfl
     have e2 : tpD r l = l.take (nDg r l) := by unfold tpD; rw [hu]
     have eq : qD r l = (l).drop (nDg r (l)) := by unfold qD; rw [hu]
     have hsl : slD r l = false := by
      unfold slD; rw [hu, eq]; first | exact vw (by assumption) | exact vx (by assumption) | exact vy (by omega) | exact vz (by assumption)
     have e3 : boD r l = [] := by unfold boD; rw [hsl]; rfl
     have e4 : reD r l = l.drop (nDg r l) := by unfold reD; rw [hsl, eq]; rfl
     exact ⟨by rw [e1, e2, e3, e4] <;> try rfl, V.bel⟩
    ·
     have hb98' := of_decide_eq_false hb98
     have hb98n : ¬ (l.take (nDg r l)).length = 0 := fun k => hb98' (List.length_eq_zero_iff.1 k)
     refine sdo (v := .bool false) A (qe rfl rfl (fun w => (zu (a := l.take (nDg r l)) (b := []) Tryz.underlying9 w).trans (by rw [hb98]; try rfl))) λa A↦?_
     iterate 2 refine sdm A λa A↦?_
     rcases tf (decide (l.drop (nDg r l) = ([] : List UInt8))) with hb101 | hb101
     ·
      have hb101' := of_decide_eq_true hb101
      have hb101n : (l.drop (nDg r l)).length = 0 := by rw [hb101']; rfl
      refine sdo (v := .bool true) A (qe rfl rfl (fun w => (zu (a := l.drop (nDg r l)) (b := []) Tryz.underlying9 w).trans (by rw [hb101]; try rfl))) λa A↦?_
      refine sdk (v := .bool true) A λa A↦?_
      refine sdm A λa A↦?_
      iterate 3 refine ze A rfl rfl rfl λa A↦?_
      refine sdk (v := .bool true) A λa A↦?_
      refine qa (hK97 _ _ (wp_cond_true (A.ev rfl) ?_))
      refine wsk fun K102 hK102 => wrl (sdo A (qk V RxC_isS_88 rfl 0 rfl (cs := [.int .u8 0, .string (bsL (l.take (nDg r l))), .string (bsL [])]) rfl rfl) λa A↦?_)
      refine sdm A λa A↦?_
      refine qr (us := [.int .u8 0, .string (bsL (l.take (nDg r l))), .string (bsL [])]) A V rfl rfl (qi rfl rfl rfl (by kernel_rfl) V 0 rfl rfl rfl) 0 rfl rfl rfl rfl ?_
      intro w103 V
      refine sda A λa A↦?_
      refine qa (hK102 _ _ (wp_ret (hret _ _ (en2 A rfl (qx V RxC_isS_88 rfl 0 rfl (cs := [.int .u8 0, .string (bsL (l.take (nDg r l))), .string (bsL [])]) rfl rfl) (qj rfl) ?_))))
      have hs : zj l = false := by unfold zj; first | (simp; omega) | (subst_vars; decide)
      have hu : unS l = l := by unfold unS; rw [hs]; rfl
      have e1 : sgB l = 0 := by unfold sgB; rw [hs]; try rfl
      have e2 : tpD r l = l.take (nDg r l) := by unfold tpD; rw [hu]
      have eq : qD r l = (l).drop (nDg r (l)) := by unfold qD; rw [hu]
      have hsl : slD r l = false := by
       unfold slD; rw [hu, eq]; first | exact vw (by assumption) | exact vx (by assumption) | exact vy (by omega) | exact vz (by assumption)
      have e3 : boD r l = [] := by unfold boD; rw [hsl]; rfl
      have e4 : reD r l = l.drop (nDg r l) := by unfold reD; rw [hsl, eq]; rfl
      exact ⟨by rw [e1, e2, e3, e4] <;> try rfl, V.bel⟩
     ·
      have hb101' := of_decide_eq_false hb101
      have hb101n : ¬ (l.drop (nDg r l)).length = 0 := fun k => hb101' (List.length_eq_zero_iff.1 k)
      refine sdo (v := .bool false) A (qe rfl rfl (fun w => (zu (a := l.drop (nDg r l)) (b := []) Tryz.underlying9 w).trans (by rw [hb101]; try rfl))) λa A↦?_
      refine sdk (v := .bool false) A λa A↦?_
      iterate 2 refine sdm A λa A↦?_
      refine sdo (v := .int .u8 (((btL (l.drop (nDg r l)) 0 : Nat) : Int))) A (xk (s := l.drop (nDg r l)) (i := 0) Tryz.underlying9 rfl rfl (by first | rfl | omega) (by first | omega | (simp only [List.length_drop, List.length_take]; omega))) λa A↦?_
      rcases tf ((((btL (l.drop (nDg r l)) 0 : Nat) : Int) != 47)) with hb104 | hb104
      ·
       have hb104' := bne_iff_ne.1 hb104
       refine sdo (v := .bool true) A (qe rfl rfl (fun w => (jd w).trans (by rw [hb104]))) λa A↦?_
       refine sdk (v := .bool true) A λa A↦?_
       refine qa (hK97 _ _ (wp_cond_true (A.ev rfl) ?_))
       refine wsk fun K105 hK105 => wrl (sdo A (qk V RxC_isS_88 rfl 0 rfl (cs := [.int .u8 0, .string (bsL (l.take (nDg r l))), .string (bsL [])]) rfl rfl) λa A↦?_)
       refine sdm A λa A↦?_
       refine qr (us := [.int .u8 0, .string (bsL (l.take (nDg r l))), .string (bsL [])]) A V rfl rfl (qi rfl rfl rfl (by kernel_rfl) V 0 rfl rfl rfl) 0 rfl rfl rfl rfl ?_
       intro w106 V
       refine sda A λa A↦?_
       refine qa (hK105 _ _ (wp_ret (hret _ _ (en2 A rfl (qx V RxC_isS_88 rfl 0 rfl (cs := [.int .u8 0, .string (bsL (l.take (nDg r l))), .string (bsL [])]) rfl rfl) (qj rfl) ?_))))
       have hs : zj l = false := by unfold zj; first | (simp; omega) | (subst_vars; decide)
       have hu : unS l = l := by unfold unS; rw [hs]; rfl
       have e1 : sgB l = 0 := by unfold sgB; rw [hs]; try rfl
       have e2 : tpD r l = l.take (nDg r l) := by unfold tpD; rw [hu]
       have eq : qD r l = (l).drop (nDg r (l)) := by unfold qD; rw [hu]
       have hsl : slD r l = false := by
        unfold slD; rw [hu, eq]; first | exact vw (by assumption) | exact vx (by assumption) | exact vy (by omega) | exact vz (by assumption)
       have e3 : boD r l = [] := by unfold boD; rw [hsl]; rfl
       have e4 : reD r l = l.drop (nDg r l) := by unfold reD; rw [hsl, eq]; rfl
       exact ⟨by rw [e1, e2, e3, e4] <;> try rfl, V.bel⟩
      ·
       have hb104' := bne_eq_false_iff_eq.1 hb104
       refine sdo (v := .bool false) A (qe rfl rfl (fun w => (jd w).trans (by rw [hb104]))) λa A↦?_
       refine sdk (v := .bool false) A λa A↦?_
       refine qa (hK97 _ _ (wp_cond_false (A.ev rfl) ?_))
       refine wp_skip (hK96 _ _ (wsk fun K107 hK107 => wrl (mv A rfl rfl rfl λa A↦?_)))
       refine sdo (v := .string (bsL ((l.drop (nDg r l)).drop 1))) A (jl (p := 1) (s := l.drop (nDg r l)) Tryz.underlying9 rfl rfl (by first | rfl | omega) (by first | omega | (simp only [List.length_drop, List.length_take]; omega))) λa A↦?_
       refine sdm A λa A↦?_
       refine qg A rfl rfl rfl (qb  rfl rfl (fun w => by kernel_rfl)) (xi (l := (l.drop (nDg r l)).drop 1) hr (by first | omega | (simp only [List.length_drop, List.length_take]; omega))) ?_
       rintro _ w109 ⟨rfl, hb108⟩
       replace V := V.call hb108
       refine ⟨_, rfl, ?_⟩
       intro a A
       refine sdm A λa A↦?_
       iterate 2 refine sdo A (qm (vs := [.string (bsL (((l.drop (nDg r l)).drop 1).take (nDg r ((l.drop (nDg r l)).drop 1)))), .string (bsL (((l.drop (nDg r l)).drop 1).drop (nDg r ((l.drop (nDg r l)).drop 1))))]) rfl rfl) λa A↦?_
       iterate 2 refine sda A λa A↦?_
       refine qa (hK107 _ _ (wsk fun K110 hK110 => wsk fun K111 hK111 => wrl (mv A rfl rfl rfl λa A↦?_)))
       rcases tf (decide (((l.drop (nDg r l)).drop 1).take (nDg r ((l.drop (nDg r l)).drop 1)) = ([] : List UInt8))) with hb112 | hb112
       ·
        have hb112' := of_decide_eq_true hb112
        have hb112n : (((l.drop (nDg r l)).drop 1).take (nDg r ((l.drop (nDg r l)).drop 1))).length = 0 := by rw [hb112']; rfl
        refine sdo (v := .bool true) A (qe rfl rfl (fun w => (zu (a := ((l.drop (nDg r l)).drop 1).take (nDg r ((l.drop (nDg r l)).drop 1))) (b := []) Tryz.underlying9 w).trans (by rw [hb112]; try rfl))) λa A↦?_
        refine qa (hK111 _ _ (wp_cond_true (A.ev rfl) ?_))
        refine wsk fun K113 hK113 => wrl (sdo A (qk V RxC_isS_88 rfl 0 rfl (cs := [.int .u8 0, .string (bsL (l.take (nDg r l))), .string (bsL [])]) rfl rfl) λa A↦?_)
        refine sdm A λa A↦?_
        refine qr (us := [.int .u8 0, .string (bsL (l.take (nDg r l))), .string (bsL [])]) A V rfl rfl (qi rfl rfl rfl (by kernel_rfl) V 0 rfl rfl rfl) 0 rfl rfl rfl rfl ?_
        intro w114 V
        refine sda A λa A↦?_
        refine qa (hK113 _ _ (wp_ret (hret _ _ (en2 A rfl (qx V RxC_isS_88 rfl 0 rfl (cs := [.int .u8 0, .string (bsL (l.take (nDg r l))), .string (bsL [])]) rfl rfl) (qj rfl) ?_))))
        have hs : zj l = false := by unfold zj; first | (simp; omega) | (subst_vars; decide)
        have hu : unS l = l := by unfold unS; rw [hs]; rfl
        have e1 : sgB l = 0 := by unfold sgB; rw [hs]; try rfl
        have e2 : tpD r l = l.take (nDg r l) := by unfold tpD; rw [hu]
        have eq : qD r l = (l).drop (nDg r (l)) := by unfold qD; rw [hu]
        have hsl : slD r l = false := by
         unfold slD; rw [hu, eq]; first | exact vw (by assumption) | exact vx (by assumption) | exact vy (by omega) | exact vz (by assumption)
        have e3 : boD r l = [] := by unfold boD; rw [hsl]; rfl
        have e4 : reD r l = l.drop (nDg r l) := by unfold reD; rw [hsl, eq]; rfl
        exact ⟨by rw [e1, e2, e3, e4] <;> try rfl, V.bel⟩
       ·
        have hb112' := of_decide_eq_false hb112
        have hb112n : ¬ (((l.drop (nDg r l)).drop 1).take (nDg r ((l.drop (nDg r l)).drop 1))).length = 0 := fun k => hb112' (List.length_eq_zero_iff.1 k)
        refine sdo (v := .bool false) A (qe rfl rfl (fun w => (zu (a := ((l.drop (nDg r l)).drop 1).take (nDg r ((l.drop (nDg r l)).drop 1))) (b := []) Tryz.underlying9 w).trans (by rw [hb112]; try rfl))) λa A↦?_
        refine qa (hK111 _ _ (wp_cond_false (A.ev rfl) ?_))
        refine wp_skip (hK110 _ _ (wsk fun K115 hK115 => wrl (mv A rfl rfl rfl λa A↦?_)))
        refine sdo (v := .pointer (some ⟨g2, 2, none⟩)) A (qf RxC_fld_88_2 rfl rfl) λa A↦?_
        refine qr (us := [.int .u8 0, .string (bsL (l.take (nDg r l))), .string (bsL (((l.drop (nDg r l)).drop 1).take (nDg r ((l.drop (nDg r l)).drop 1))))]) A V rfl rfl (qi rfl rfl rfl (by kernel_rfl) V 0 rfl rfl rfl) 0 rfl rfl rfl rfl ?_
        intro w116 V
        refine qa (hK115 _ _ (wsk fun K117 hK117 => wrl (sdo A (qk V RxC_isS_88 rfl 0 rfl (cs := [.int .u8 0, .string (bsL (l.take (nDg r l))), .string (bsL (((l.drop (nDg r l)).drop 1).take (nDg r ((l.drop (nDg r l)).drop 1))))]) rfl rfl) λa A↦?_)))
        refine sdm A λa A↦?_
        refine qr (us := [.int .u8 0, .string (bsL (l.take (nDg r l))), .string (bsL (((l.drop (nDg r l)).drop 1).take (nDg r ((l.drop (nDg r l)).drop 1))))]) A V rfl rfl (qi rfl rfl rfl (by kernel_rfl) V 0 rfl rfl rfl) 0 rfl rfl rfl rfl ?_
        intro w118 V
        refine sda A λa A↦?_
        refine qa (hK117 _ _ (wp_ret (hret _ _ (en2 A rfl (qx V RxC_isS_88 rfl 0 rfl (cs := [.int .u8 0, .string (bsL (l.take (nDg r l))), .string (bsL (((l.drop (nDg r l)).drop 1).take (nDg r ((l.drop (nDg r l)).drop 1))))]) rfl rfl) (qj rfl) ?_))))
        have hs : zj l = false := by unfold zj; first | (simp; omega) | (subst_vars; decide)
        have hu : unS l = l := by unfold unS; rw [hs]; rfl
        have e1 : sgB l = 0 := by unfold sgB; rw [hs]; try rfl
        have e2 : tpD r l = l.take (nDg r l) := by unfold tpD; rw [hu]
        have eq : qD r l = (l).drop (nDg r (l)) := by unfold qD; rw [hu]
        have hsl : slD r l = true := by
         unfold slD; rw [hu, eq]; exact qui (by assumption) (by omega) (by assumption)
        have e3 : boD r l = ((l.drop (nDg r l)).drop 1).take (nDg r ((l.drop (nDg r l)).drop 1)) := by unfold boD; rw [hsl, eq]; rfl
        have e4 : reD r l = ((l.drop (nDg r l)).drop 1).drop (nDg r ((l.drop (nDg r l)).drop 1)) := by unfold reD; rw [hsl, eq]; rfl
        exact ⟨by rw [e1, e2, e3, e4] <;> try rfl, V.bel⟩
/-- A rational number of at most so many words above and below. -/
def LenR (k : Nat) (r : Rat) : Prop := (words r.num.natAbs).length ≤ k ∧ (words r.den).length ≤ k
theorem LenR.mono {k m : Nat} {r : Rat} (h : LenR k r) (hk : k ≤ m) : LenR m r := ⟨Nat.le_trans h.1 hk, Nat.le_trans h.2 hk⟩

theorem qni {m : List UInt8} (h : 1 < m.length) : ∃ a c t, m = a :: c :: t := by
 match m with
 | [] => simp at h
 | [a] => simp at h
 | a :: c :: t => exact ⟨a, c, t, rfl⟩
theorem zdj {told ex : Bool} {k : Nat} {m : List UInt8} (h : 1 < m.length) (h35 : btL m 0 = 35) (hr : xh (btL m 1) ≠ 0) (ht : told = false) : jw told ex k m = jw true ex (xh (btL m 1)) (m.drop 2) := by
 obtain ⟨a, c, t, rfl⟩ := qni h
 have e1 : btL (a :: c :: t) 0 = a.toNat := rfl
 have e2 : btL (a :: c :: t) 1 = c.toNat := rfl
 rw [e1] at h35
 rw [e2] at hr ⊢
 rw [jw, if_pos h35, if_pos ⟨hr, ht⟩]
 rfl
theorem qaj {told ex : Bool} {k : Nat} {m : List UInt8} (h : 1 < m.length) (h35 : btL m 0 = 35) (hn : xh (btL m 1) = 0 ∨ told = true) (hc : btL m 1 = 101 ∨ btL m 1 = 69) (he : ex = false) : jw told ex k m = jw told true k (m.drop 2) := by
 obtain ⟨a, c, t, rfl⟩ := qni h
 have e1 : btL (a :: c :: t) 0 = a.toNat := rfl
 have e2 : btL (a :: c :: t) 1 = c.toNat := rfl
 rw [e1] at h35
 rw [e2] at hn hc
 have h2 : ¬ (xh c.toNat ≠ 0 ∧ told = false) := by
  rintro ⟨k1, k2⟩
  rcases hn with hn | hn
  ·
   exact k1 hn
  ·
   rw [hn] at k2; cases k2
 rw [jw, if_pos h35, if_neg h2, if_pos ⟨hc, he⟩]
 rfl
theorem yp {told ex : Bool} {k : Nat} {m : List UInt8} (h : 1 < m.length) (h35 : btL m 0 = 35) (hn : xh (btL m 1) = 0 ∨ told = true) (hc : ¬ (btL m 1 = 101 ∨ btL m 1 = 69) ∨ ex = true) : jw told ex k m = (m, k) := by
 obtain ⟨a, c, t, rfl⟩ := qni h
 have e1 : btL (a :: c :: t) 0 = a.toNat := rfl
 have e2 : btL (a :: c :: t) 1 = c.toNat := rfl
 rw [e1] at h35
 rw [e2] at hn hc
 have h2 : ¬ (xh c.toNat ≠ 0 ∧ told = false) := by
  rintro ⟨k1, k2⟩
  rcases hn with hn | hn
  ·
   exact k1 hn
  ·
   rw [hn] at k2; cases k2
 have h3 : ¬ ((c.toNat = 101 ∨ c.toNat = 69) ∧ ex = false) := by
  rintro ⟨k1, k2⟩
  rcases hc with hc | hc
  ·
   exact hc k1
  ·
   rw [hc] at k2; cases k2
 rw [jw, if_pos h35, if_neg h2, if_neg h3]
theorem zea {told ex : Bool} {k : Nat} {m : List UInt8} (h : ¬ 1 < m.length) : jw told ex k m = (m, k) := by
 match m with
 | [] => rfl
 | [a] => rfl
 | a :: c :: t => simp at h
theorem qnj {told ex : Bool} {k : Nat} {m : List UInt8} (h35 : btL m 0 ≠ 35) : jw told ex k m = (m, k) := by
 match m with
 | [] => rfl
 | [a] => rfl
 | a :: c :: t => rw [jw, if_neg (show ¬ a.toNat = 35 from h35)]
def rdN (r : Nat) (l : List UInt8) : List Nat × Int := if l = [] then ([1], 0) else readS (bsL l) (r : Int)
theorem qge {r : Nat} {l : List UInt8} (h : rdE r l = 0) : rdN r l = (words (zi r l), 0) ∧ (words (zi r l)).length ≤ 512 := by
 unfold rdN zi
 unfold rdE at h
 by_cases hl : l = []
 ·
  rw [if_pos hl, if_pos hl, jt]; exact ⟨rfl, by decide⟩
 ·
  rw [if_neg hl] at h
  rw [if_neg hl, if_neg hl]
  exact qyi h
theorem zhd {r : Nat} {l : List UInt8} (h : rdE r l ≠ 0) : rdN r l = ([], rdE r l) := by
 unfold rdN
 unfold rdE at h ⊢
 by_cases hl : l = []
 ·
  rw [if_pos hl] at h; exact absurd rfl h
 ·
  rw [if_neg hl] at h
  rw [if_neg hl, if_neg hl]
  exact zlc h
theorem jp {r : Nat} {n : Nl} (h : xw r n = 0) : rdE r n.2.1 = 0 ∧ rdE r n.2.2 = 0 := by
 unfold xw at h
 split at h
 ·
  rename_i k; exact absurd h k
 ·
  rename_i k; exact ⟨by simpa using k, h⟩
theorem beq45 (n : Nat) : (((n : Nat) : Int) == 45) = decide (n = 45) := by
 by_cases h : n = 45
 ·
  subst h; rfl
 ·
  rw [decide_eq_false h, beq_eq_false_iff_ne]; omega
theorem qoa (l : List UInt8) : (((sgB l : Nat) : Int) != 0) = zj l := by
 unfold sgB
 by_cases h : zj l = true
 ·
  rw [h, if_pos rfl]
  unfold zj at h
  simp only [Bool.or_eq_true, decide_eq_true_eq] at h
  rw [bne_iff_ne]
  omega
 ·
  have h := Bool.eq_false_iff.2 h
  rw [h]; rfl
theorem zyb {x y : Int} {d e : Nat} (hd : d ≠ 0) (he : e ≠ 0) : Q6.rat (mkRat x d) (mkRat y e) = ⟨rb x, words (rt x d), words (rq x d), rb y, words (rt y e), words (rq y e)⟩ := by
 unfold Q6.rat
 rw [← zgg x hd, ← zgh x hd, ← zgi x hd, ← zgg y he, ← zgh y he, ← zgi y he]
theorem qob {r : Nat} {n m : Nl} (h : xw r n ≠ 0 ∨ xw r m ≠ 0) : ve r n m = (Q6.zero, 4) := by unfold ve; rw [if_pos h]
theorem qrg {r : Nat} {n m : Nl} (h1 : xw r n = 0) (h2 : xw r m = 0) (h : zi r n.2.2 = 0 ∨ zi r m.2.2 = 0) : ve r n m = (Q6.zero, 3) := by unfold ve; rw [if_neg (by rintro (k | k); exact k h1; exact k h2), if_pos h]
theorem zyc {r : Nat} {n m : Nl} (h1 : xw r n = 0) (h2 : xw r m = 0) (k1 : zi r n.2.2 ≠ 0) (k2 : zi r m.2.2 ≠ 0) : ve r n m = (⟨rb (sgn (decide (n.1 = 45)) (zi r n.2.1)), words (rt (sgn (decide (n.1 = 45)) (zi r n.2.1)) (zi r n.2.2)), words (rq (sgn (decide (n.1 = 45)) (zi r n.2.1)) (zi r n.2.2)), rb (sgn (decide (m.1 = 45)) (zi r m.2.1)), words (rt (sgn (decide (m.1 = 45)) (zi r m.2.1)) (zi r m.2.2)), words (rq (sgn (decide (m.1 = 45)) (zi r m.2.1)) (zi r m.2.2))⟩, 0) := by
 unfold ve
 rw [if_neg (by rintro (k | k); exact k h1; exact k h2), if_neg (by rintro (k | k); exact k1 k; exact k2 k)]
 unfold qhg
 rw [zyb k1 k2]
theorem qki {b : Bool} {n k : Nat} (h : (words n).length ≤ k) : (words (sgn b n).natAbs).length ≤ k := by
 have e : (sgn b n).natAbs = n := by cases b <;> simp [sgn]
 rw [e]; exact h
theorem RxD_is1_5 : Is1 Tryz.prog 5 := ⟨⟨_, Tryz.underlying5, rfl⟩, by kernel_rfl⟩
theorem RxD_is1_9 : Is1 Tryz.prog 9 := ⟨⟨_, Tryz.underlying9, rfl⟩, by kernel_rfl⟩
theorem RxD_fld_88_0 : FieldAt Tryz.prog 88 0 0 := ⟨_, _, Tryz.underlying88, rfl, rfl, by kernel_rfl⟩
theorem RxD_fld_88_1 : FieldAt Tryz.prog 88 1 1 := ⟨_, _, Tryz.underlying88, rfl, rfl, by kernel_rfl⟩
theorem RxD_fld_88_2 : FieldAt Tryz.prog 88 2 2 := ⟨_, _, Tryz.underlying88, rfl, rfl, by kernel_rfl⟩
theorem RxD_isS_132 : IsS Tryz.prog 132 2 := ⟨⟨_, Tryz.underlying132⟩, by kernel_rfl⟩
theorem RxD_isS_88 : IsS Tryz.prog 88 3 := ⟨⟨_, Tryz.underlying88⟩, by kernel_rfl⟩
theorem qld {w : World} {r : Nat} {l : List UInt8} (hl : l.length ≤ 9223372036854775807) : Calls Tryz.prog 45 #[.string (bsL l), .int .i64 ((r : Nat) : Int)] w fun e w' => e = .returned (.tuple #[.string (bsL ((jw false false r l).1)), .int .i64 (((jw false false r l).2 : Nat) : Int)]) ∧ Below w.heap.size w w' := by
 have V : St w w [] [] [] := St.start w
 refine qy (l := [(0, .string (bsL l)), (1, .int .i64 (((r : Nat) : Int)))]) Tryz.func45 rfl Tryz.ntmps45 rfl rfl ?_
 intro Q hret hnorm hP a A
 refine wsk fun K1 hK1 => wrl ?_
 iterate 2 refine sda A λa A↦?_
 refine qa (hK1 _ _ (wsk fun K2 hK2 => wrl ?_))
 iterate 2 refine sda A λa A↦?_
 refine qa (hK2 _ _ (wsk fun K3 hK3 => wp_block (js (fun m a w1 => ∃ (q : List UInt8) (k : Nat) (told : Bool) (ex : Bool), m = 1 + q.length ∧ (jw told ex k q = jw false false r l ∧ q.length ≤ l.length) ∧ Sl a 47 [(0, .string (bsL q)), (1, .int .i64 (((k : Nat) : Int))), (6, .bool told), (7, .bool ex)] ∧ St w w1 [] [] []) _ ⟨l, r, false, false, rfl, ⟨rfl, Nat.le_refl _⟩, A.keep _ ⟨rfl, rfl, rfl, rfl, trivial⟩, V⟩ ?_)))
 clear V A
 rintro m a w4 ⟨q, k, told, ex, rfl, hinv6, A, V⟩ K5 hK5
 have hq := hinv6.2
 refine wsk fun K7 hK7 => wsk fun K8 hK8 => wrl (mv A rfl rfl rfl λa A↦?_)
 refine sdo A (qii Tryz.underlying9 rfl) λa A↦?_
 rcases tf (decide (1 < ((q.length : Nat) : Int))) with hb9 | hb9
 ·
  have hb9' := of_decide_eq_true hb9
  refine sdo (v := .bool true) A (qe rfl rfl (fun w => (ju w).trans (by rw [hb9]))) λa A↦?_
  iterate 2 refine sdm A λa A↦?_
  refine sdo (v := .int .u8 (((btL q 0 : Nat) : Int))) A (xk (s := q) (i := 0) Tryz.underlying9 rfl rfl (by first | rfl | omega) (by first | omega | (simp only [List.length_drop, List.length_take]; omega))) λa A↦?_
  rcases tf ((((btL q 0 : Nat) : Int) == 35)) with hb10 | hb10
  ·
   have hb10' := eq_of_beq hb10
   refine sdo (v := .bool true) A (qe rfl rfl (fun w => (zl w).trans (by rw [hb10]))) λa A↦?_
   refine sdk (v := .bool true) A λa A↦?_
   refine qa (hK8 _ _ (wp_cond_true (A.ev rfl) ?_))
   refine wp_skip (hK7 _ _ (wp_block (wsk fun K11 hK11 => wrl (mv A rfl rfl rfl λa A↦?_))))
   refine sdo (v := .int .u8 (((btL q 1 : Nat) : Int))) A (xk (s := q) (i := 1) Tryz.underlying9 rfl rfl (by first | rfl | omega) (by first | omega | (simp only [List.length_drop, List.length_take]; omega))) λa A↦?_
   refine qg A rfl rfl rfl (qb  rfl rfl (fun w => by kernel_rfl)) (qzc rfl) ?_
   rintro _ w13 ⟨rfl, hb12⟩
   replace V := V.call hb12
   refine ⟨_, rfl, ?_⟩
   intro a A
   refine sda A λa A↦?_
   refine qa (hK11 _ _ (wsk fun K14 hK14 => wp_block (wsk fun K15 hK15 => wrl (mv A rfl rfl rfl λa A↦?_))))
   rcases tf (decide (0 < ((xh (btL q 1) : Nat) : Int))) with hb16 | hb16
   ·
    have hb16' := of_decide_eq_true hb16
    refine sdo (v := .bool true) A (qe rfl rfl (fun w => (ju w).trans (by rw [hb16]))) λa A↦?_
    iterate 2 refine sdm A λa A↦?_
    refine sdo (v := .bool (!told)) A (zk rfl zv) λa A↦?_
    refine sdo (v := .bool (!told)) A (jr rfl rfl rfl rfl) λa A↦?_
    refine sda A λa A↦?_
    refine qa (hK15 _ _ ?_)
    refine wp_cond_split (t := !told) (A.ev rfl) (fun hc17 => ?_) (fun hc17 => ?_)
    ·
     refine wrl (mv A rfl rfl rfl λa A↦?_)
     iterate 2 refine sda A λa A↦?_
     refine qa (hK14 _ _ (wrl (mv A rfl rfl rfl λa A↦?_)))
     refine sdo (v := .string (bsL (q.drop 2))) A (jl (p := 2) (s := q) Tryz.underlying9 rfl rfl (by first | rfl | omega) (by first | omega | (simp only [List.length_drop, List.length_take]; omega))) λa A↦?_
     refine sda A λa A↦?_
     refine qa ?_
     refine hK5 _ _ _ (by simp only [List.length_drop]; omega) ⟨q.drop 2, xh (btL q 1), true, ex, rfl, ⟨(zdj (by omega) (by omega) (by omega) (by simpa using hc17)).symm.trans hinv6.1, by simp only [List.length_drop]; omega⟩, A.keep _ ⟨rfl, rfl, rfl, rfl, trivial⟩, V⟩
    ·
     refine wsk fun K18 hK18 => wrl (mv A rfl rfl rfl λa A↦?_)
     refine sdo (v := .int .u8 (((btL q 1 : Nat) : Int))) A (xk (s := q) (i := 1) Tryz.underlying9 rfl rfl (by first | rfl | omega) (by first | omega | (simp only [List.length_drop, List.length_take]; omega))) λa A↦?_
     rcases tf ((((btL q 1 : Nat) : Int) == 101)) with hb19 | hb19
     ·
      have hb19' := eq_of_beq hb19
      refine sdo (v := .bool true) A (qe rfl rfl (fun w => (zl w).trans (by rw [hb19]))) λa A↦?_
      refine sdm A λa A↦?_
      iterate 3 refine ze A rfl rfl rfl λa A↦?_
      refine sdk (v := .bool true) A λa A↦?_
      iterate 2 refine sdm A λa A↦?_
      refine sdo (v := .bool (!ex)) A (zk rfl zv) λa A↦?_
      refine sdo (v := .bool (!ex)) A (jr rfl rfl rfl rfl) λa A↦?_
      refine sda A λa A↦?_
      refine qa (hK18 _ _ ?_)
      refine wp_cond_split (t := !ex) (A.ev rfl) (fun hc20 => ?_) (fun hc20 => ?_)
      ·
       refine wrl (sda A λa A↦?_)
       refine qa (hK14 _ _ (wrl (mv A rfl rfl rfl λa A↦?_)))
       refine sdo (v := .string (bsL (q.drop 2))) A (jl (p := 2) (s := q) Tryz.underlying9 rfl rfl (by first | rfl | omega) (by first | omega | (simp only [List.length_drop, List.length_take]; omega))) λa A↦?_
       refine sda A λa A↦?_
       refine qa ?_
       refine hK5 _ _ _ (by simp only [List.length_drop]; omega) ⟨q.drop 2, k, told, true, rfl, ⟨(qaj (by omega) (by omega) (Or.inr (by simpa using hc17)) (by omega) (by simpa using hc20)).symm.trans hinv6.1, by simp only [List.length_drop]; omega⟩, A.keep _ ⟨rfl, rfl, rfl, rfl, trivial⟩, V⟩
      ·
       refine wsk fun K21 hK21 => wrl ?_
       iterate 2 refine sdm A λa A↦?_
       iterate 2 refine sda A λa A↦?_
       refine qa (hK21 _ _ (wp_ret (hret _ _ (en2 A rfl (qj rfl) (qj rfl) ?_))))
       have e9 : jw false false r l = (q, k) := hinv6.1.symm.trans (yp (by omega) (by omega) (Or.inr (by simpa using hc17)) (Or.inr (by simpa using hc20)))
       exact ⟨by rw [e9], V.bel⟩
     ·
      have hb19' := ne_of_beq_false hb19
      refine sdo (v := .bool false) A (qe rfl rfl (fun w => (zl w).trans (by rw [hb19]))) λa A↦?_
      iterate 2 refine sdm A λa A↦?_
      refine sdo (v := .int .u8 (((btL q 1 : Nat) : Int))) A (xk (s := q) (i := 1) Tryz.underlying9 rfl rfl (by first | rfl | omega) (by first | omega | (simp only [List.length_drop, List.length_take]; omega))) λa A↦?_
      rcases tf ((((btL q 1 : Nat) : Int) == 69)) with hb22 | hb22
      ·
       have hb22' := eq_of_beq hb22
       refine sdo (v := .bool true) A (qe rfl rfl (fun w => (zl w).trans (by rw [hb22]))) λa A↦?_
       refine sdk (v := .bool true) A λa A↦?_
       iterate 2 refine sdm A λa A↦?_
       refine sdo (v := .bool (!ex)) A (zk rfl zv) λa A↦?_
       refine sdo (v := .bool (!ex)) A (jr rfl rfl rfl rfl) λa A↦?_
       refine sda A λa A↦?_
       refine qa (hK18 _ _ ?_)
       refine wp_cond_split (t := !ex) (A.ev rfl) (fun hc23 => ?_) (fun hc23 => ?_)
       ·
        refine wrl (sda A λa A↦?_)
        refine qa (hK14 _ _ (wrl (mv A rfl rfl rfl λa A↦?_)))
        refine sdo (v := .string (bsL (q.drop 2))) A (jl (p := 2) (s := q) Tryz.underlying9 rfl rfl (by first | rfl | omega) (by first | omega | (simp only [List.length_drop, List.length_take]; omega))) λa A↦?_
        refine sda A λa A↦?_
        refine qa ?_
        refine hK5 _ _ _ (by simp only [List.length_drop]; omega) ⟨q.drop 2, k, told, true, rfl, ⟨(qaj (by omega) (by omega) (Or.inr (by simpa using hc17)) (by omega) (by simpa using hc23)).symm.trans hinv6.1, by simp only [List.length_drop]; omega⟩, A.keep _ ⟨rfl, rfl, rfl, rfl, trivial⟩, V⟩
       ·
        refine wsk fun K24 hK24 => wrl ?_
        iterate 2 refine sdm A λa A↦?_
        iterate 2 refine sda A λa A↦?_
        refine qa (hK24 _ _ (wp_ret (hret _ _ (en2 A rfl (qj rfl) (qj rfl) ?_))))
        have e9 : jw false false r l = (q, k) := hinv6.1.symm.trans (yp (by omega) (by omega) (Or.inr (by simpa using hc17)) (Or.inr (by simpa using hc23)))
        exact ⟨by rw [e9], V.bel⟩
      ·
       have hb22' := ne_of_beq_false hb22
       refine sdo (v := .bool false) A (qe rfl rfl (fun w => (zl w).trans (by rw [hb22]))) λa A↦?_
       refine sdk (v := .bool false) A λa A↦?_
       refine sdm A λa A↦?_
       iterate 2 refine ze A rfl rfl rfl λa A↦?_
       refine sdk (v := .bool false) A λa A↦?_
       refine sda A λa A↦?_
       refine qa (hK18 _ _ (wp_cond_false (A.ev rfl) ?_))
       refine wsk fun K25 hK25 => wrl ?_
       iterate 2 refine sdm A λa A↦?_
       iterate 2 refine sda A λa A↦?_
       refine qa (hK25 _ _ (wp_ret (hret _ _ (en2 A rfl (qj rfl) (qj rfl) ?_))))
       have e9 : jw false false r l = (q, k) := hinv6.1.symm.trans (yp (by omega) (by omega) (Or.inr (by simpa using hc17)) (Or.inl (by omega)))
       exact ⟨by rw [e9], V.bel⟩
   ·
    have hb16' := of_decide_eq_false hb16
    refine sdo (v := .bool false) A (qe rfl rfl (fun w => (ju w).trans (by rw [hb16]))) λa A↦?_
    refine sdm A λa A↦?_
    iterate 2 refine ze A rfl rfl rfl λa A↦?_
    refine sdk (v := .bool false) A λa A↦?_
    refine sda A λa A↦?_
    refine qa (hK15 _ _ (wp_cond_false (A.ev rfl) ?_))
    refine wsk fun K26 hK26 => wrl (mv A rfl rfl rfl λa A↦?_)
    refine sdo (v := .int .u8 (((btL q 1 : Nat) : Int))) A (xk (s := q) (i := 1) Tryz.underlying9 rfl rfl (by first | rfl | omega) (by first | omega | (simp only [List.length_drop, List.length_take]; omega))) λa A↦?_
    rcases tf ((((btL q 1 : Nat) : Int) == 101)) with hb27 | hb27
    ·
     have hb27' := eq_of_beq hb27
     refine sdo (v := .bool true) A (qe rfl rfl (fun w => (zl w).trans (by rw [hb27]))) λa A↦?_
     refine sdm A λa A↦?_
     iterate 3 refine ze A rfl rfl rfl λa A↦?_
     refine sdk (v := .bool true) A λa A↦?_
     iterate 2 refine sdm A λa A↦?_
     refine sdo (v := .bool (!ex)) A (zk rfl zv) λa A↦?_
     refine sdo (v := .bool (!ex)) A (jr rfl rfl rfl rfl) λa A↦?_
     refine sda A λa A↦?_
     refine qa (hK26 _ _ ?_)
     refine wp_cond_split (t := !ex) (A.ev rfl) (fun hc28 => ?_) (fun hc28 => ?_)
     ·
      refine wrl (sda A λa A↦?_)
      refine qa (hK14 _ _ (wrl (mv A rfl rfl rfl λa A↦?_)))
      refine sdo (v := .string (bsL (q.drop 2))) A (jl (p := 2) (s := q) Tryz.underlying9 rfl rfl (by first | rfl | omega) (by first | omega | (simp only [List.length_drop, List.length_take]; omega))) λa A↦?_
      refine sda A λa A↦?_
      refine qa ?_
      refine hK5 _ _ _ (by simp only [List.length_drop]; omega) ⟨q.drop 2, k, told, true, rfl, ⟨(qaj (by omega) (by omega) (Or.inl (by omega)) (by omega) (by simpa using hc28)).symm.trans hinv6.1, by simp only [List.length_drop]; omega⟩, A.keep _ ⟨rfl, rfl, rfl, rfl, trivial⟩, V⟩
     ·
      refine wsk fun K29 hK29 => wrl ?_
      iterate 2 refine sdm A λa A↦?_
      iterate 2 refine sda A λa A↦?_
      refine qa (hK29 _ _ (wp_ret (hret _ _ (en2 A rfl (qj rfl) (qj rfl) ?_))))
      have e9 : jw false false r l = (q, k) := hinv6.1.symm.trans (yp (by omega) (by omega) (Or.inl (by omega)) (Or.inr (by simpa using hc28)))
      exact ⟨by rw [e9], V.bel⟩
    ·
     have hb27' := ne_of_beq_false hb27
     refine sdo (v := .bool false) A (qe rfl rfl (fun w => (zl w).trans (by rw [hb27]))) λa A↦?_
     iterate 2 refine sdm A λa A↦?_
     refine sdo (v := .int .u8 (((btL q 1 : Nat) : Int))) A (xk (s := q) (i := 1) Tryz.underlying9 rfl rfl (by first | rfl | omega) (by first | omega | (simp only [List.length_drop, List.length_take]; omega))) λa A↦?_
     rcases tf ((((btL q 1 : Nat) : Int) == 69)) with hb30 | hb30
     ·
      have hb30' := eq_of_beq hb30
      refine sdo (v := .bool true) A (qe rfl rfl (fun w => (zl w).trans (by rw [hb30]))) λa A↦?_
      refine sdk (v := .bool true) A λa A↦?_
      iterate 2 refine sdm A λa A↦?_
      refine sdo (v := .bool (!ex)) A (zk rfl zv) λa A↦?_
      refine sdo (v := .bool (!ex)) A (jr rfl rfl rfl rfl) λa A↦?_
      refine sda A λa A↦?_
      refine qa (hK26 _ _ ?_)
      refine wp_cond_split (t := !ex) (A.ev rfl) (fun hc31 => ?_) (fun hc31 => ?_)
      ·
       refine wrl (sda A λa A↦?_)
       refine qa (hK14 _ _ (wrl (mv A rfl rfl rfl λa A↦?_)))
       refine sdo (v := .string (bsL (q.drop 2))) A (jl (p := 2) (s := q) Tryz.underlying9 rfl rfl (by first | rfl | omega) (by first | omega | (simp only [List.length_drop, List.length_take]; omega))) λa A↦?_
       refine sda A λa A↦?_
       refine qa ?_
       refine hK5 _ _ _ (by simp only [List.length_drop]; omega) ⟨q.drop 2, k, told, true, rfl, ⟨(qaj (by omega) (by omega) (Or.inl (by omega)) (by omega) (by simpa using hc31)).symm.trans hinv6.1, by simp only [List.length_drop]; omega⟩, A.keep _ ⟨rfl, rfl, rfl, rfl, trivial⟩, V⟩
      ·
       refine wsk fun K32 hK32 => wrl ?_
       iterate 2 refine sdm A λa A↦?_
       iterate 2 refine sda A λa A↦?_
       refine qa (hK32 _ _ (wp_ret (hret _ _ (en2 A rfl (qj rfl) (qj rfl) ?_))))
       have e9 : jw false false r l = (q, k) := hinv6.1.symm.trans (yp (by omega) (by omega) (Or.inl (by omega)) (Or.inr (by simpa using hc31)))
       exact ⟨by rw [e9], V.bel⟩
     ·
      have hb30' := ne_of_beq_false hb30
      refine sdo (v := .bool false) A (qe rfl rfl (fun w => (zl w).trans (by rw [hb30]))) λa A↦?_
      refine sdk (v := .bool false) A λa A↦?_
      refine sdm A λa A↦?_
      iterate 2 refine ze A rfl rfl rfl λa A↦?_
      refine sdk (v := .bool false) A λa A↦?_
      refine sda A λa A↦?_
      refine qa (hK26 _ _ (wp_cond_false (A.ev rfl) ?_))
      refine wsk fun K33 hK33 => wrl ?_
      iterate 2 refine sdm A λa A↦?_
      iterate 2 refine sda A λa A↦?_
      refine qa (hK33 _ _ (wp_ret (hret _ _ (en2 A rfl (qj rfl) (qj rfl) ?_))))
      have e9 : jw false false r l = (q, k) := hinv6.1.symm.trans (yp (by omega) (by omega) (Or.inl (by omega)) (Or.inl (by omega)))
      exact ⟨by rw [e9], V.bel⟩
  ·
   have hb10' := ne_of_beq_false hb10
   refine sdo (v := .bool false) A (qe rfl rfl (fun w => (zl w).trans (by rw [hb10]))) λa A↦?_
   refine sdk (v := .bool false) A λa A↦?_
   refine qa (hK8 _ _ (wp_cond_false (A.ev rfl) ?_))
   refine wp_exit (hK3 _ _ (wsk fun K34 hK34 => wrl ?_))
   iterate 2 refine sdm A λa A↦?_
   iterate 2 refine sda A λa A↦?_
   refine qa (hK34 _ _ (wp_ret (hret _ _ (en2 A rfl (qj rfl) (qj rfl) ?_))))
   have e9 : jw false false r l = (q, k) := hinv6.1.symm.trans (qnj (by omega))
   exact ⟨by rw [e9], V.bel⟩
 ·
  have hb9' := of_decide_eq_false hb9
  refine sdo (v := .bool false) A (qe rfl rfl (fun w => (ju w).trans (by rw [hb9]))) λa A↦?_
  refine sdm A λa A↦?_
  iterate 3 refine ze A rfl rfl rfl λa A↦?_
  refine sdk (v := .bool false) A λa A↦?_
  refine qa (hK8 _ _ (wp_cond_false (A.ev rfl) ?_))
  refine wp_exit (hK3 _ _ (wsk fun K35 hK35 => wrl ?_))
  iterate 2 refine sdm A λa A↦?_
  iterate 2 refine sda A λa A↦?_
  refine qa (hK35 _ _ (wp_ret (hret _ _ (en2 A rfl (qj rfl) (qj rfl) ?_))))
  have e9 : jw false false r l = (q, k) := hinv6.1.symm.trans (zea (by omega))
  exact ⟨by rw [e9], V.bel⟩
theorem quj (r : Nat) (l : List UInt8) : (reD r l).length ≤ l.length := by
 have e : (unS l).length ≤ l.length := by unfold unS; split; rw [List.length_drop]; omega; exact Nat.le_refl _
 have e1 : (qD r l).length ≤ l.length := by unfold qD; rw [List.length_drop]; omega
 unfold reD
 split
 ·
  rw [List.length_drop, List.length_drop]; omega
 ·
  exact e1
theorem qva {w : World} {r : Nat} {l : List UInt8} (hr : RadN r) (hl : l.length ≤ 9223372036854775807) : Calls Tryz.prog 46 #[.string (bsL l), .int .i64 ((r : Nat) : Int)] w fun e w' => e = .returned (.tuple #[.agg #[.int .u8 (((reP r l).1 : Nat) : Int), .string (bsL (reP r l).2.1), .string (bsL (reP r l).2.2)], .agg #[.int .u8 (((imP r l).1 : Nat) : Int), .string (bsL (imP r l).2.1), .string (bsL (imP r l).2.2)], .bool (okP r l)]) ∧ Below w.heap.size w w' := by
 have V : St w w [] [] [] := St.start w
 refine qy (l := [(0, .string (bsL l)), (1, .int .i64 (((r : Nat) : Int)))]) Tryz.func46 rfl Tryz.ntmps46 rfl rfl ?_
 intro Q hret hnorm hP a A
 refine wsk fun K1 hK1 => wrl (qn (vs := [.int .u8 0, .string (bsL []), .string (bsL [])]) (t := 88) A V rfl rfl rfl pg (ql (z := .agg #[.int .u8 0, .string (bsL []), .string (bsL [])]) (by kernel_rfl) rfl) rfl ?_)
 intro g2 w3 V a A
 refine qn (vs := [.int .u8 0, .string (bsL []), .string (bsL [])]) (t := 88) A V rfl rfl rfl pg (ql (z := .agg #[.int .u8 0, .string (bsL []), .string (bsL [])]) (by kernel_rfl) rfl) rfl ?_
 intro g4 w5 V a A
 refine sda A λa A↦?_
 refine qa (hK1 _ _ (wsk fun K6 hK6 => wrl (sdo (v := .agg #[.int .u8 0, .string (bsL [48]), .string (bsL [])]) A (za rfl (fun w => by kernel_rfl)) λa A↦?_)))
 refine qn (vs := [.int .u8 0, .string (bsL []), .string (bsL [])]) (t := 88) A V rfl rfl rfl pg (ql (z := .agg #[.int .u8 0, .string (bsL []), .string (bsL [])]) (by kernel_rfl) rfl) rfl ?_
 intro g7 w8 V a A
 refine qr (us := [.int .u8 0, .string (bsL [48]), .string (bsL [])]) A V rfl rfl (qi rfl rfl rfl (by kernel_rfl) V 0 rfl rfl rfl) 0 rfl rfl rfl rfl ?_
 intro w9 V
 refine qa (hK6 _ _ (wsk fun K10 hK10 => wrl ?_))
 iterate 2 refine sdm A λa A↦?_
 refine qg A rfl rfl rfl (qb  rfl rfl (fun w => by kernel_rfl)) (qda (l := l) hr (by first | omega | (have h9 := quj r l; omega))) ?_
 rintro _ w12 ⟨rfl, hb11⟩
 replace V := V.call hb11
 refine ⟨_, rfl, ?_⟩
 intro a A
 refine sdm A λa A↦?_
 iterate 2 refine sdo A (qm (vs := [.agg #[.int .u8 (((sgB l : Nat) : Int)), .string (bsL (tpD r l)), .string (bsL (boD r l))], .string (bsL (reD r l))]) rfl rfl) λa A↦?_
 refine qn (vs := [.int .u8 0, .string (bsL []), .string (bsL [])]) (t := 88) A V rfl rfl rfl pg (ql (z := .agg #[.int .u8 0, .string (bsL []), .string (bsL [])]) (by kernel_rfl) rfl) rfl ?_
 intro g13 w14 V a A
 refine qr (us := [.int .u8 (((sgB l : Nat) : Int)), .string (bsL (tpD r l)), .string (bsL (boD r l))]) A V rfl rfl (qi rfl rfl rfl (by kernel_rfl) V 0 rfl rfl rfl) 0 rfl rfl rfl rfl ?_
 intro w15 V
 refine sda A λa A↦?_
 refine qa (hK10 _ _ (wsk fun K16 hK16 => wsk fun K17 hK17 => wrl (mv A rfl rfl rfl λa A↦?_)))
 rcases tf (decide (reD r l = ([] : List UInt8))) with hb18 | hb18
 ·
  have hb18' := of_decide_eq_true hb18
  have hb18n : (reD r l).length = 0 := by rw [hb18']; rfl
  refine sdo (v := .bool true) A (qe rfl rfl (fun w => (zu (a := reD r l) (b := []) Tryz.underlying9 w).trans (by rw [hb18]; try rfl))) λa A↦?_
  refine qa (hK17 _ _ (wp_cond_true (A.ev rfl) ?_))
  refine wsk fun K19 hK19 => jc (S := fun w1 => St w w1 [(g13, [.int .u8 (((sgB l : Nat) : Int)), .string (bsL (tpD r l)), .string (bsL (boD r l))]), (g7, [.int .u8 0, .string (bsL [48]), .string (bsL [])])] [] []) (by kernel_rfl) ?_
  replace V := V.drew
  refine qh A 0 rfl rfl rfl rfl hP (V.partD (.cons_cons _ (.cons_cons _ (.cons _ (.cons _ .slnil)))) 0 rfl (.refl _)) (fun w1 V => qk V RxD_isS_88 rfl 0 rfl (cs := [.int .u8 (((sgB l : Nat) : Int)), .string (bsL (tpD r l)), .string (bsL (boD r l))]) rfl rfl) λa A↦?_
  refine qh A 1 rfl rfl rfl rfl hP (V.partD (.cons_cons _ (.cons_cons _ (.cons _ (.cons _ .slnil)))) 0 rfl (.refl _)) (fun w1 V => qk V RxD_isS_88 rfl 1 rfl (cs := [.int .u8 0, .string (bsL [48]), .string (bsL [])]) rfl rfl) λa A↦?_
  refine qh (v := .pointer (some ⟨g13, 1, none⟩)) A 2 rfl rfl rfl rfl hP (V.partD (.cons_cons _ (.cons_cons _ (.cons _ (.cons _ .slnil)))) 0 rfl (.refl _)) (fun w1 V => qf RxD_fld_88_1 rfl rfl) λa A↦?_
  refine qh A 3 rfl rfl rfl rfl hP (V.partD (.cons_cons _ (.cons_cons _ (.cons _ (.cons _ .slnil)))) 0 rfl (.refl _)) (fun w1 V => qs V RxD_is1_9 rfl 0 rfl rfl) λa A↦?_
  rcases tf (decide (tpD r l = ([] : List UInt8))) with hb20 | hb20
  ·
   have hb20' := of_decide_eq_true hb20
   have hb20n : (tpD r l).length = 0 := by rw [hb20']; rfl
   refine qh (v := .bool false) A 4 rfl rfl rfl rfl hP (V.partD (.cons_cons _ (.cons_cons _ (.cons _ (.cons _ .slnil)))) 0 rfl (.refl _)) (fun w1 V => qe rfl rfl (fun w => (um (a := tpD r l) (b := []) Tryz.underlying9 w).trans (by rw [hb20]; try rfl))) λa A↦?_
   refine qt (by kernel_rfl) (zp (us := [.int .u8 (((sgB l : Nat) : Int)), .string (bsL (tpD r l)), .string (bsL (boD r l))]) A V 5 rfl rfl rfl (qi rfl rfl rfl (by kernel_rfl) V 3 rfl rfl rfl) 3 rfl rfl rfl rfl ?_)
   intro w21 V
   refine ⟨(V.partD (.cons_cons _ (.cons_cons _ (.cons _ (.cons _ .slnil)))) 0 rfl (.refl _)), ?_⟩
   refine qt (by kernel_rfl) (zp (us := [.int .u8 0, .string (bsL [48]), .string (bsL [])]) A V 6 rfl rfl rfl (qi rfl rfl rfl (by kernel_rfl) V 2 rfl rfl rfl) 2 rfl rfl rfl rfl ?_)
   intro w22 V
   refine ⟨(V.partD (.cons_cons _ (.cons_cons _ (.cons _ (.cons _ .slnil)))) 0 rfl (.refl _)), ?_⟩
   refine qh A 7 rfl rfl rfl rfl hP (V.partD (.cons_cons _ (.cons_cons _ (.cons _ (.cons _ .slnil)))) 0 rfl (.refl _)) (fun w1 V => zh rfl) λa A↦?_
   refine zn (by kernel_rfl) ?_
   refine hK19 _ _ (wp_ret (hret _ _ (en3 A rfl (qx V RxD_isS_88 rfl 3 rfl (cs := [.int .u8 (((sgB l : Nat) : Int)), .string (bsL (tpD r l)), .string (bsL (boD r l))]) rfl rfl) (qx V RxD_isS_88 rfl 2 rfl (cs := [.int .u8 0, .string (bsL [48]), .string (bsL [])]) rfl rfl) (qj rfl) ?_)))
   have e1 : reP r l = nlD r l := by unfold reP; rw [if_pos hb18']
   have e2 : imP r l = nl0 := by unfold imP; rw [if_pos hb18']
   have e3 : okP r l = false := by unfold okP; simp [hb18', hb20']
   rw [e1, e2, e3]
   exact ⟨rfl, V.bel⟩
  ·
   have hb20' := of_decide_eq_false hb20
   have hb20n : ¬ (tpD r l).length = 0 := fun k => hb20' (List.length_eq_zero_iff.1 k)
   refine qh (v := .bool true) A 4 rfl rfl rfl rfl hP (V.partD (.cons_cons _ (.cons_cons _ (.cons _ (.cons _ .slnil)))) 0 rfl (.refl _)) (fun w1 V => qe rfl rfl (fun w => (um (a := tpD r l) (b := []) Tryz.underlying9 w).trans (by rw [hb20]; try rfl))) λa A↦?_
   refine qt (by kernel_rfl) (zp (us := [.int .u8 (((sgB l : Nat) : Int)), .string (bsL (tpD r l)), .string (bsL (boD r l))]) A V 5 rfl rfl rfl (qi rfl rfl rfl (by kernel_rfl) V 3 rfl rfl rfl) 3 rfl rfl rfl rfl ?_)
   intro w23 V
   refine ⟨(V.partD (.cons_cons _ (.cons_cons _ (.cons _ (.cons _ .slnil)))) 0 rfl (.refl _)), ?_⟩
   refine qt (by kernel_rfl) (zp (us := [.int .u8 0, .string (bsL [48]), .string (bsL [])]) A V 6 rfl rfl rfl (qi rfl rfl rfl (by kernel_rfl) V 2 rfl rfl rfl) 2 rfl rfl rfl rfl ?_)
   intro w24 V
   refine ⟨(V.partD (.cons_cons _ (.cons_cons _ (.cons _ (.cons _ .slnil)))) 0 rfl (.refl _)), ?_⟩
   refine qh A 7 rfl rfl rfl rfl hP (V.partD (.cons_cons _ (.cons_cons _ (.cons _ (.cons _ .slnil)))) 0 rfl (.refl _)) (fun w1 V => zh rfl) λa A↦?_
   refine zn (by kernel_rfl) ?_
   refine hK19 _ _ (wp_ret (hret _ _ (en3 A rfl (qx V RxD_isS_88 rfl 3 rfl (cs := [.int .u8 (((sgB l : Nat) : Int)), .string (bsL (tpD r l)), .string (bsL (boD r l))]) rfl rfl) (qx V RxD_isS_88 rfl 2 rfl (cs := [.int .u8 0, .string (bsL [48]), .string (bsL [])]) rfl rfl) (qj rfl) ?_)))
   have e1 : reP r l = nlD r l := by unfold reP; rw [if_pos hb18']
   have e2 : imP r l = nl0 := by unfold imP; rw [if_pos hb18']
   have e3 : okP r l = true := by unfold okP; simp [hb18', hb20']
   rw [e1, e2, e3]
   exact ⟨rfl, V.bel⟩
 ·
  have hb18' := of_decide_eq_false hb18
  have hb18n : ¬ (reD r l).length = 0 := fun k => hb18' (List.length_eq_zero_iff.1 k)
  refine sdo (v := .bool false) A (qe rfl rfl (fun w => (zu (a := reD r l) (b := []) Tryz.underlying9 w).trans (by rw [hb18]; try rfl))) λa A↦?_
  refine qa (hK17 _ _ (wp_cond_false (A.ev rfl) ?_))
  refine wp_skip (hK16 _ _ (wsk fun K25 hK25 => wsk fun K26 hK26 => wrl (mv A rfl rfl rfl λa A↦?_)))
  rcases tf (jj (reD r l)) with hb27 | hb27
  ·
   refine qg A rfl rfl rfl (qb  rfl rfl (fun w => by kernel_rfl)) (qai hb27) ?_
   rintro _ w29 ⟨rfl, hb28⟩
   replace V := V.call hb28
   refine ⟨_, rfl, ?_⟩
   intro a A
   refine qa (hK26 _ _ (wp_cond_true (A.ev rfl) ?_))
   refine wsk fun K30 hK30 => jc (S := fun w1 => St w w1 [(g13, [.int .u8 (((sgB l : Nat) : Int)), .string (bsL (tpD r l)), .string (bsL (boD r l))]), (g7, [.int .u8 0, .string (bsL [48]), .string (bsL [])])] [] []) (by kernel_rfl) ?_
   replace V := V.drew
   refine qh A 0 rfl rfl rfl rfl hP (V.partD (.cons_cons _ (.cons_cons _ (.cons _ (.cons _ .slnil)))) 0 rfl (.refl _)) (fun w1 V => qk V RxD_isS_88 rfl 1 rfl (cs := [.int .u8 0, .string (bsL [48]), .string (bsL [])]) rfl rfl) λa A↦?_
   refine qh A 1 rfl rfl rfl rfl hP (V.partD (.cons_cons _ (.cons_cons _ (.cons _ (.cons _ .slnil)))) 0 rfl (.refl _)) (fun w1 V => qk V RxD_isS_88 rfl 0 rfl (cs := [.int .u8 (((sgB l : Nat) : Int)), .string (bsL (tpD r l)), .string (bsL (boD r l))]) rfl rfl) λa A↦?_
   refine qh (v := .pointer (some ⟨g13, 0, none⟩)) A 2 rfl rfl rfl rfl hP (V.partD (.cons_cons _ (.cons_cons _ (.cons _ (.cons _ .slnil)))) 0 rfl (.refl _)) (fun w1 V => qf RxD_fld_88_0 rfl rfl) λa A↦?_
   refine qh A 3 rfl rfl rfl rfl hP (V.partD (.cons_cons _ (.cons_cons _ (.cons _ (.cons _ .slnil)))) 0 rfl (.refl _)) (fun w1 V => qs V RxD_is1_5 rfl 0 rfl rfl) λa A↦?_
   rcases tf ((((sgB l : Nat) : Int) != 0)) with hb31 | hb31
   ·
    have hb31' := bne_iff_ne.1 hb31
    refine qh (v := .bool true) A 4 rfl rfl rfl rfl hP (V.partD (.cons_cons _ (.cons_cons _ (.cons _ (.cons _ .slnil)))) 0 rfl (.refl _)) (fun w1 V => qe rfl rfl (fun w => (jd w).trans (by rw [hb31]))) λa A↦?_
    refine qt (by kernel_rfl) (zp (us := [.int .u8 0, .string (bsL [48]), .string (bsL [])]) A V 5 rfl rfl rfl (qi rfl rfl rfl (by kernel_rfl) V 3 rfl rfl rfl) 3 rfl rfl rfl rfl ?_)
    intro w32 V
    refine ⟨(V.partD (.cons_cons _ (.cons_cons _ (.cons _ (.cons _ .slnil)))) 0 rfl (.refl _)), ?_⟩
    refine qt (by kernel_rfl) (zp (us := [.int .u8 (((sgB l : Nat) : Int)), .string (bsL (tpD r l)), .string (bsL (boD r l))]) A V 6 rfl rfl rfl (qi rfl rfl rfl (by kernel_rfl) V 2 rfl rfl rfl) 2 rfl rfl rfl rfl ?_)
    intro w33 V
    refine ⟨(V.partD (.cons_cons _ (.cons_cons _ (.cons _ (.cons _ .slnil)))) 0 rfl (.refl _)), ?_⟩
    refine qh A 7 rfl rfl rfl rfl hP (V.partD (.cons_cons _ (.cons_cons _ (.cons _ (.cons _ .slnil)))) 0 rfl (.refl _)) (fun w1 V => zh rfl) λa A↦?_
    refine zn (by kernel_rfl) ?_
    refine hK30 _ _ (wp_ret (hret _ _ (en3 A rfl (qx V RxD_isS_88 rfl 3 rfl (cs := [.int .u8 0, .string (bsL [48]), .string (bsL [])]) rfl rfl) (qx V RxD_isS_88 rfl 2 rfl (cs := [.int .u8 (((sgB l : Nat) : Int)), .string (bsL (tpD r l)), .string (bsL (boD r l))]) rfl rfl) (qj rfl) ?_)))
    rw [qoa] at hb31
    have e1 : reP r l = nl0 := by unfold reP; rw [if_neg hb18', hb27]; rfl
    have e2 : imP r l = nlD r l := by unfold imP; rw [if_neg hb18', hb27]; rfl
    have e3 : okP r l = true := by unfold okP; simp [hb18', hb27, hb31]
    rw [e1, e2, e3]
    exact ⟨rfl, V.bel⟩
   ·
    have hb31' := bne_eq_false_iff_eq.1 hb31
    refine qh (v := .bool false) A 4 rfl rfl rfl rfl hP (V.partD (.cons_cons _ (.cons_cons _ (.cons _ (.cons _ .slnil)))) 0 rfl (.refl _)) (fun w1 V => qe rfl rfl (fun w => (jd w).trans (by rw [hb31]))) λa A↦?_
    refine qt (by kernel_rfl) (zp (us := [.int .u8 0, .string (bsL [48]), .string (bsL [])]) A V 5 rfl rfl rfl (qi rfl rfl rfl (by kernel_rfl) V 3 rfl rfl rfl) 3 rfl rfl rfl rfl ?_)
    intro w34 V
    refine ⟨(V.partD (.cons_cons _ (.cons_cons _ (.cons _ (.cons _ .slnil)))) 0 rfl (.refl _)), ?_⟩
    refine qt (by kernel_rfl) (zp (us := [.int .u8 (((sgB l : Nat) : Int)), .string (bsL (tpD r l)), .string (bsL (boD r l))]) A V 6 rfl rfl rfl (qi rfl rfl rfl (by kernel_rfl) V 2 rfl rfl rfl) 2 rfl rfl rfl rfl ?_)
    intro w35 V
    refine ⟨(V.partD (.cons_cons _ (.cons_cons _ (.cons _ (.cons _ .slnil)))) 0 rfl (.refl _)), ?_⟩
    refine qh A 7 rfl rfl rfl rfl hP (V.partD (.cons_cons _ (.cons_cons _ (.cons _ (.cons _ .slnil)))) 0 rfl (.refl _)) (fun w1 V => zh rfl) λa A↦?_
    refine zn (by kernel_rfl) ?_
    refine hK30 _ _ (wp_ret (hret _ _ (en3 A rfl (qx V RxD_isS_88 rfl 3 rfl (cs := [.int .u8 0, .string (bsL [48]), .string (bsL [])]) rfl rfl) (qx V RxD_isS_88 rfl 2 rfl (cs := [.int .u8 (((sgB l : Nat) : Int)), .string (bsL (tpD r l)), .string (bsL (boD r l))]) rfl rfl) (qj rfl) ?_)))
    rw [qoa] at hb31
    have e1 : reP r l = nl0 := by unfold reP; rw [if_neg hb18', hb27]; rfl
    have e2 : imP r l = nlD r l := by unfold imP; rw [if_neg hb18', hb27]; rfl
    have e3 : okP r l = false := by unfold okP; simp [hb18', hb27, hb31]
    rw [e1, e2, e3]
    exact ⟨rfl, V.bel⟩
  ·
   refine qg A rfl rfl rfl (qb  rfl rfl (fun w => by kernel_rfl)) (qai hb27) ?_
   rintro _ w37 ⟨rfl, hb36⟩
   replace V := V.call hb36
   refine ⟨_, rfl, ?_⟩
   intro a A
   refine qa (hK26 _ _ (wp_cond_false (A.ev rfl) ?_))
   refine wp_skip (hK25 _ _ (wsk fun K38 hK38 => wrl ?_))
   iterate 2 refine sdm A λa A↦?_
   refine qg A rfl rfl rfl (qb  rfl rfl (fun w => by kernel_rfl)) (qda (l := reD r l) hr (by first | omega | (have h9 := quj r l; omega))) ?_
   rintro _ w40 ⟨rfl, hb39⟩
   replace V := V.call hb39
   refine ⟨_, rfl, ?_⟩
   intro a A
   refine sdm A λa A↦?_
   iterate 2 refine sdo A (qm (vs := [.agg #[.int .u8 (((sgB (reD r l) : Nat) : Int)), .string (bsL (tpD r (reD r l))), .string (bsL (boD r (reD r l)))], .string (bsL (reD r (reD r l)))]) rfl rfl) λa A↦?_
   refine qn (vs := [.int .u8 0, .string (bsL []), .string (bsL [])]) (t := 88) A V rfl rfl rfl pg (ql (z := .agg #[.int .u8 0, .string (bsL []), .string (bsL [])]) (by kernel_rfl) rfl) rfl ?_
   intro g41 w42 V a A
   refine qr (us := [.int .u8 (((sgB (reD r l) : Nat) : Int)), .string (bsL (tpD r (reD r l))), .string (bsL (boD r (reD r l)))]) A V rfl rfl (qi rfl rfl rfl (by kernel_rfl) V 0 rfl rfl rfl) 0 rfl rfl rfl rfl ?_
   intro w43 V
   refine sda A λa A↦?_
   refine qa (hK38 _ _ (wsk fun K44 hK44 => jc (S := fun w1 => St w w1 [(g41, [.int .u8 (((sgB (reD r l) : Nat) : Int)), .string (bsL (tpD r (reD r l))), .string (bsL (boD r (reD r l)))]), (g13, [.int .u8 (((sgB l : Nat) : Int)), .string (bsL (tpD r l)), .string (bsL (boD r l))]), (g7, [.int .u8 0, .string (bsL [48]), .string (bsL [])])] [] []) (by kernel_rfl) ?_))
   replace V := V.drew
   refine qh A 0 rfl rfl rfl rfl hP (V.partD (.cons_cons _ (.cons_cons _ (.cons_cons _ (.cons _ (.cons _ .slnil))))) 0 rfl (.refl _)) (fun w1 V => qk V RxD_isS_88 rfl 1 rfl (cs := [.int .u8 (((sgB l : Nat) : Int)), .string (bsL (tpD r l)), .string (bsL (boD r l))]) rfl rfl) λa A↦?_
   refine qh A 1 rfl rfl rfl rfl hP (V.partD (.cons_cons _ (.cons_cons _ (.cons_cons _ (.cons _ (.cons _ .slnil))))) 0 rfl (.refl _)) (fun w1 V => qk V RxD_isS_88 rfl 0 rfl (cs := [.int .u8 (((sgB (reD r l) : Nat) : Int)), .string (bsL (tpD r (reD r l))), .string (bsL (boD r (reD r l)))]) rfl rfl) λa A↦?_
   refine qh (v := .pointer (some ⟨g13, 1, none⟩)) A 2 rfl rfl rfl rfl hP (V.partD (.cons_cons _ (.cons_cons _ (.cons_cons _ (.cons _ (.cons _ .slnil))))) 0 rfl (.refl _)) (fun w1 V => qf RxD_fld_88_1 rfl rfl) λa A↦?_
   refine qh A 3 rfl rfl rfl rfl hP (V.partD (.cons_cons _ (.cons_cons _ (.cons_cons _ (.cons _ (.cons _ .slnil))))) 0 rfl (.refl _)) (fun w1 V => qs V RxD_is1_9 rfl 1 rfl rfl) λa A↦?_
   rcases tf (decide (tpD r l = ([] : List UInt8))) with hb45 | hb45
   ·
    have hb45' := of_decide_eq_true hb45
    have hb45n : (tpD r l).length = 0 := by rw [hb45']; rfl
    refine qh (v := .bool false) A 4 rfl rfl rfl rfl hP (V.partD (.cons_cons _ (.cons_cons _ (.cons_cons _ (.cons _ (.cons _ .slnil))))) 0 rfl (.refl _)) (fun w1 V => qe rfl rfl (fun w => (um (a := tpD r l) (b := []) Tryz.underlying9 w).trans (by rw [hb45]; try rfl))) λa A↦?_
    refine qh A 5 rfl rfl rfl rfl hP (V.partD (.cons_cons _ (.cons_cons _ (.cons_cons _ (.cons _ (.cons _ .slnil))))) 0 rfl (.refl _)) (fun w1 V => qz rfl) λa A↦?_
    refine qca A 6 rfl rfl rfl rfl hP (V.partD (.cons_cons _ (.cons_cons _ (.cons_cons _ (.cons _ (.cons _ .slnil))))) 0 rfl (.refl _)) λa A↦?_
    refine qca A 7 rfl rfl rfl rfl hP (V.partD (.cons_cons _ (.cons_cons _ (.cons_cons _ (.cons _ (.cons _ .slnil))))) 0 rfl (.refl _)) λa A↦?_
    refine qca A 8 rfl rfl rfl rfl hP (V.partD (.cons_cons _ (.cons_cons _ (.cons_cons _ (.cons _ (.cons _ .slnil))))) 0 rfl (.refl _)) λa A↦?_
    refine qh (v := .bool false) A 9 rfl rfl rfl rfl hP (V.partD (.cons_cons _ (.cons_cons _ (.cons_cons _ (.cons _ (.cons _ .slnil))))) 0 rfl (.refl _)) (fun w1 V => jr rfl rfl rfl rfl) λa A↦?_
    refine qh A 10 rfl rfl rfl rfl hP (V.partD (.cons_cons _ (.cons_cons _ (.cons_cons _ (.cons _ (.cons _ .slnil))))) 0 rfl (.refl _)) (fun w1 V => qz rfl) λa A↦?_
    refine qca A 11 rfl rfl rfl rfl hP (V.partD (.cons_cons _ (.cons_cons _ (.cons_cons _ (.cons _ (.cons _ .slnil))))) 0 rfl (.refl _)) λa A↦?_
    refine qca A 12 rfl rfl rfl rfl hP (V.partD (.cons_cons _ (.cons_cons _ (.cons_cons _ (.cons _ (.cons _ .slnil))))) 0 rfl (.refl _)) λa A↦?_
    refine qh (v := .bool false) A 13 rfl rfl rfl rfl hP (V.partD (.cons_cons _ (.cons_cons _ (.cons_cons _ (.cons _ (.cons _ .slnil))))) 0 rfl (.refl _)) (fun w1 V => jr rfl rfl rfl rfl) λa A↦?_
    refine qt (by kernel_rfl) (zp (us := [.int .u8 (((sgB l : Nat) : Int)), .string (bsL (tpD r l)), .string (bsL (boD r l))]) A V 14 rfl rfl rfl (qi rfl rfl rfl (by kernel_rfl) V 4 rfl rfl rfl) 4 rfl rfl rfl rfl ?_)
    intro w46 V
    refine ⟨(V.partD (.cons_cons _ (.cons_cons _ (.cons_cons _ (.cons _ (.cons _ .slnil))))) 0 rfl (.refl _)), ?_⟩
    refine qt (by kernel_rfl) (zp (us := [.int .u8 (((sgB (reD r l) : Nat) : Int)), .string (bsL (tpD r (reD r l))), .string (bsL (boD r (reD r l)))]) A V 15 rfl rfl rfl (qi rfl rfl rfl (by kernel_rfl) V 3 rfl rfl rfl) 3 rfl rfl rfl rfl ?_)
    intro w47 V
    refine ⟨(V.partD (.cons_cons _ (.cons_cons _ (.cons_cons _ (.cons _ (.cons _ .slnil))))) 0 rfl (.refl _)), ?_⟩
    refine qh A 16 rfl rfl rfl rfl hP (V.partD (.cons_cons _ (.cons_cons _ (.cons_cons _ (.cons _ (.cons _ .slnil))))) 0 rfl (.refl _)) (fun w1 V => zh rfl) λa A↦?_
    refine zn (by kernel_rfl) ?_
    refine hK44 _ _ (wp_ret (hret _ _ (en3 A rfl (qx V RxD_isS_88 rfl 4 rfl (cs := [.int .u8 (((sgB l : Nat) : Int)), .string (bsL (tpD r l)), .string (bsL (boD r l))]) rfl rfl) (qx V RxD_isS_88 rfl 3 rfl (cs := [.int .u8 (((sgB (reD r l) : Nat) : Int)), .string (bsL (tpD r (reD r l))), .string (bsL (boD r (reD r l)))]) rfl rfl) (qj rfl) ?_)))
    have e1 : reP r l = nlD r l := by unfold reP; rw [if_neg hb18', hb27]; rfl
    have e2 : imP r l = nlD r (reD r l) := by unfold imP; rw [if_neg hb18', hb27]; rfl
    have e3 : okP r l = false := by unfold okP; simp [hb18', hb27, hb45']
    rw [e1, e2, e3]
    exact ⟨rfl, V.bel⟩
   ·
    have hb45' := of_decide_eq_false hb45
    have hb45n : ¬ (tpD r l).length = 0 := fun k => hb45' (List.length_eq_zero_iff.1 k)
    refine qh (v := .bool true) A 4 rfl rfl rfl rfl hP (V.partD (.cons_cons _ (.cons_cons _ (.cons_cons _ (.cons _ (.cons _ .slnil))))) 0 rfl (.refl _)) (fun w1 V => qe rfl rfl (fun w => (um (a := tpD r l) (b := []) Tryz.underlying9 w).trans (by rw [hb45]; try rfl))) λa A↦?_
    refine qh A 5 rfl rfl rfl rfl hP (V.partD (.cons_cons _ (.cons_cons _ (.cons_cons _ (.cons _ (.cons _ .slnil))))) 0 rfl (.refl _)) (fun w1 V => qz rfl) λa A↦?_
    refine qh (v := .pointer (some ⟨g41, 0, none⟩)) A 6 rfl rfl rfl rfl hP (V.partD (.cons_cons _ (.cons_cons _ (.cons_cons _ (.cons _ (.cons _ .slnil))))) 0 rfl (.refl _)) (fun w1 V => qf RxD_fld_88_0 rfl rfl) λa A↦?_
    refine qh A 7 rfl rfl rfl rfl hP (V.partD (.cons_cons _ (.cons_cons _ (.cons_cons _ (.cons _ (.cons _ .slnil))))) 0 rfl (.refl _)) (fun w1 V => qs V RxD_is1_5 rfl 0 rfl rfl) λa A↦?_
    rcases tf ((((sgB (reD r l) : Nat) : Int) != 0)) with hb48 | hb48
    ·
     have hb48' := bne_iff_ne.1 hb48
     refine qh (v := .bool true) A 8 rfl rfl rfl rfl hP (V.partD (.cons_cons _ (.cons_cons _ (.cons_cons _ (.cons _ (.cons _ .slnil))))) 0 rfl (.refl _)) (fun w1 V => qe rfl rfl (fun w => (jd w).trans (by rw [hb48]))) λa A↦?_
     refine qh (v := .bool true) A 9 rfl rfl rfl rfl hP (V.partD (.cons_cons _ (.cons_cons _ (.cons_cons _ (.cons _ (.cons _ .slnil))))) 0 rfl (.refl _)) (fun w1 V => jr rfl rfl rfl rfl) λa A↦?_
     refine qh A 10 rfl rfl rfl rfl hP (V.partD (.cons_cons _ (.cons_cons _ (.cons_cons _ (.cons _ (.cons _ .slnil))))) 0 rfl (.refl _)) (fun w1 V => qz rfl) λa A↦?_
     refine qh A 11 rfl rfl rfl rfl hP (V.partD (.cons_cons _ (.cons_cons _ (.cons_cons _ (.cons _ (.cons _ .slnil))))) 0 rfl (.refl _)) (fun w1 V => qz rfl) λa A↦?_
     rcases tf (jj (reD r (reD r l))) with hb49 | hb49
     ·
      refine qt (by kernel_rfl) (zf A 12 rfl rfl rfl rfl (qb  rfl rfl (fun w => by kernel_rfl)) (qai hb49) ?_)
      rintro _ w51 ⟨rfl, hb50⟩
      replace V := V.call hb50
      refine ⟨_, rfl, (V.partD (.cons_cons _ (.cons_cons _ (.cons_cons _ (.cons _ (.cons _ .slnil))))) 0 rfl (.refl _)), ?_⟩
      intro a A
      refine qh (v := .bool true) A 13 rfl rfl rfl rfl hP (V.partD (.cons_cons _ (.cons_cons _ (.cons_cons _ (.cons _ (.cons _ .slnil))))) 0 rfl (.refl _)) (fun w1 V => jr rfl rfl rfl rfl) λa A↦?_
      refine qt (by kernel_rfl) (zp (us := [.int .u8 (((sgB l : Nat) : Int)), .string (bsL (tpD r l)), .string (bsL (boD r l))]) A V 14 rfl rfl rfl (qi rfl rfl rfl (by kernel_rfl) V 4 rfl rfl rfl) 4 rfl rfl rfl rfl ?_)
      intro w52 V
      refine ⟨(V.partD (.cons_cons _ (.cons_cons _ (.cons_cons _ (.cons _ (.cons _ .slnil))))) 0 rfl (.refl _)), ?_⟩
      refine qt (by kernel_rfl) (zp (us := [.int .u8 (((sgB (reD r l) : Nat) : Int)), .string (bsL (tpD r (reD r l))), .string (bsL (boD r (reD r l)))]) A V 15 rfl rfl rfl (qi rfl rfl rfl (by kernel_rfl) V 3 rfl rfl rfl) 3 rfl rfl rfl rfl ?_)
      intro w53 V
      refine ⟨(V.partD (.cons_cons _ (.cons_cons _ (.cons_cons _ (.cons _ (.cons _ .slnil))))) 0 rfl (.refl _)), ?_⟩
      refine qh A 16 rfl rfl rfl rfl hP (V.partD (.cons_cons _ (.cons_cons _ (.cons_cons _ (.cons _ (.cons _ .slnil))))) 0 rfl (.refl _)) (fun w1 V => zh rfl) λa A↦?_
      refine zn (by kernel_rfl) ?_
      refine hK44 _ _ (wp_ret (hret _ _ (en3 A rfl (qx V RxD_isS_88 rfl 4 rfl (cs := [.int .u8 (((sgB l : Nat) : Int)), .string (bsL (tpD r l)), .string (bsL (boD r l))]) rfl rfl) (qx V RxD_isS_88 rfl 3 rfl (cs := [.int .u8 (((sgB (reD r l) : Nat) : Int)), .string (bsL (tpD r (reD r l))), .string (bsL (boD r (reD r l)))]) rfl rfl) (qj rfl) ?_)))
      rw [qoa] at hb48
      have e1 : reP r l = nlD r l := by unfold reP; rw [if_neg hb18', hb27]; rfl
      have e2 : imP r l = nlD r (reD r l) := by unfold imP; rw [if_neg hb18', hb27]; rfl
      have e3 : okP r l = true := by unfold okP; simp [hb18', hb27, hb45', hb48, hb49]
      rw [e1, e2, e3]
      exact ⟨rfl, V.bel⟩
     ·
      refine qt (by kernel_rfl) (zf A 12 rfl rfl rfl rfl (qb  rfl rfl (fun w => by kernel_rfl)) (qai hb49) ?_)
      rintro _ w55 ⟨rfl, hb54⟩
      replace V := V.call hb54
      refine ⟨_, rfl, (V.partD (.cons_cons _ (.cons_cons _ (.cons_cons _ (.cons _ (.cons _ .slnil))))) 0 rfl (.refl _)), ?_⟩
      intro a A
      refine qh (v := .bool false) A 13 rfl rfl rfl rfl hP (V.partD (.cons_cons _ (.cons_cons _ (.cons_cons _ (.cons _ (.cons _ .slnil))))) 0 rfl (.refl _)) (fun w1 V => jr rfl rfl rfl rfl) λa A↦?_
      refine qt (by kernel_rfl) (zp (us := [.int .u8 (((sgB l : Nat) : Int)), .string (bsL (tpD r l)), .string (bsL (boD r l))]) A V 14 rfl rfl rfl (qi rfl rfl rfl (by kernel_rfl) V 4 rfl rfl rfl) 4 rfl rfl rfl rfl ?_)
      intro w56 V
      refine ⟨(V.partD (.cons_cons _ (.cons_cons _ (.cons_cons _ (.cons _ (.cons _ .slnil))))) 0 rfl (.refl _)), ?_⟩
      refine qt (by kernel_rfl) (zp (us := [.int .u8 (((sgB (reD r l) : Nat) : Int)), .string (bsL (tpD r (reD r l))), .string (bsL (boD r (reD r l)))]) A V 15 rfl rfl rfl (qi rfl rfl rfl (by kernel_rfl) V 3 rfl rfl rfl) 3 rfl rfl rfl rfl ?_)
      intro w57 V
      refine ⟨(V.partD (.cons_cons _ (.cons_cons _ (.cons_cons _ (.cons _ (.cons _ .slnil))))) 0 rfl (.refl _)), ?_⟩
      refine qh A 16 rfl rfl rfl rfl hP (V.partD (.cons_cons _ (.cons_cons _ (.cons_cons _ (.cons _ (.cons _ .slnil))))) 0 rfl (.refl _)) (fun w1 V => zh rfl) λa A↦?_
      refine zn (by kernel_rfl) ?_
      refine hK44 _ _ (wp_ret (hret _ _ (en3 A rfl (qx V RxD_isS_88 rfl 4 rfl (cs := [.int .u8 (((sgB l : Nat) : Int)), .string (bsL (tpD r l)), .string (bsL (boD r l))]) rfl rfl) (qx V RxD_isS_88 rfl 3 rfl (cs := [.int .u8 (((sgB (reD r l) : Nat) : Int)), .string (bsL (tpD r (reD r l))), .string (bsL (boD r (reD r l)))]) rfl rfl) (qj rfl) ?_)))
      rw [qoa] at hb48
      have e1 : reP r l = nlD r l := by unfold reP; rw [if_neg hb18', hb27]; rfl
      have e2 : imP r l = nlD r (reD r l) := by unfold imP; rw [if_neg hb18', hb27]; rfl
      have e3 : okP r l = false := by unfold okP; simp [hb18', hb27, hb45', hb48, hb49]
      rw [e1, e2, e3]
      exact ⟨rfl, V.bel⟩
    ·
     have hb48' := bne_eq_false_iff_eq.1 hb48
     refine qh (v := .bool false) A 8 rfl rfl rfl rfl hP (V.partD (.cons_cons _ (.cons_cons _ (.cons_cons _ (.cons _ (.cons _ .slnil))))) 0 rfl (.refl _)) (fun w1 V => qe rfl rfl (fun w => (jd w).trans (by rw [hb48]))) λa A↦?_
     refine qh (v := .bool false) A 9 rfl rfl rfl rfl hP (V.partD (.cons_cons _ (.cons_cons _ (.cons_cons _ (.cons _ (.cons _ .slnil))))) 0 rfl (.refl _)) (fun w1 V => jr rfl rfl rfl rfl) λa A↦?_
     refine qh A 10 rfl rfl rfl rfl hP (V.partD (.cons_cons _ (.cons_cons _ (.cons_cons _ (.cons _ (.cons _ .slnil))))) 0 rfl (.refl _)) (fun w1 V => qz rfl) λa A↦?_
     refine qca A 11 rfl rfl rfl rfl hP (V.partD (.cons_cons _ (.cons_cons _ (.cons_cons _ (.cons _ (.cons _ .slnil))))) 0 rfl (.refl _)) λa A↦?_
     refine qca A 12 rfl rfl rfl rfl hP (V.partD (.cons_cons _ (.cons_cons _ (.cons_cons _ (.cons _ (.cons _ .slnil))))) 0 rfl (.refl _)) λa A↦?_
     refine qh (v := .bool false) A 13 rfl rfl rfl rfl hP (V.partD (.cons_cons _ (.cons_cons _ (.cons_cons _ (.cons _ (.cons _ .slnil))))) 0 rfl (.refl _)) (fun w1 V => jr rfl rfl rfl rfl) λa A↦?_
     refine qt (by kernel_rfl) (zp (us := [.int .u8 (((sgB l : Nat) : Int)), .string (bsL (tpD r l)), .string (bsL (boD r l))]) A V 14 rfl rfl rfl (qi rfl rfl rfl (by kernel_rfl) V 4 rfl rfl rfl) 4 rfl rfl rfl rfl ?_)
     intro w58 V
     refine ⟨(V.partD (.cons_cons _ (.cons_cons _ (.cons_cons _ (.cons _ (.cons _ .slnil))))) 0 rfl (.refl _)), ?_⟩
     refine qt (by kernel_rfl) (zp (us := [.int .u8 (((sgB (reD r l) : Nat) : Int)), .string (bsL (tpD r (reD r l))), .string (bsL (boD r (reD r l)))]) A V 15 rfl rfl rfl (qi rfl rfl rfl (by kernel_rfl) V 3 rfl rfl rfl) 3 rfl rfl rfl rfl ?_)
     intro w59 V
     refine ⟨(V.partD (.cons_cons _ (.cons_cons _ (.cons_cons _ (.cons _ (.cons _ .slnil))))) 0 rfl (.refl _)), ?_⟩
     refine qh A 16 rfl rfl rfl rfl hP (V.partD (.cons_cons _ (.cons_cons _ (.cons_cons _ (.cons _ (.cons _ .slnil))))) 0 rfl (.refl _)) (fun w1 V => zh rfl) λa A↦?_
     refine zn (by kernel_rfl) ?_
     refine hK44 _ _ (wp_ret (hret _ _ (en3 A rfl (qx V RxD_isS_88 rfl 4 rfl (cs := [.int .u8 (((sgB l : Nat) : Int)), .string (bsL (tpD r l)), .string (bsL (boD r l))]) rfl rfl) (qx V RxD_isS_88 rfl 3 rfl (cs := [.int .u8 (((sgB (reD r l) : Nat) : Int)), .string (bsL (tpD r (reD r l))), .string (bsL (boD r (reD r l)))]) rfl rfl) (qj rfl) ?_)))
     rw [qoa] at hb48
     have e1 : reP r l = nlD r l := by unfold reP; rw [if_neg hb18', hb27]; rfl
     have e2 : imP r l = nlD r (reD r l) := by unfold imP; rw [if_neg hb18', hb27]; rfl
     have e3 : okP r l = false := by unfold okP; simp [hb18', hb27, hb45', hb48]
     rw [e1, e2, e3]
     exact ⟨rfl, V.bel⟩
theorem vq {w : World} {r : Nat} {l : List UInt8} (hr : RadN r) (hl : l.length ≤ 9223372036854775807) : Calls Tryz.prog 133 #[.string (bsL l), .int .i64 ((r : Nat) : Int)] w (Ans w (rdN r l)) := by
 have V : St w w [] [] [] := St.start w
 refine qy (l := [(0, .string (bsL l)), (1, .int .i64 (((r : Nat) : Int)))]) Tryz.func133 rfl Tryz.ntmps133 rfl rfl ?_
 intro Q hret hnorm hP a A
 refine wsk fun K1 hK1 => wrl ?_
 iterate 2 refine sda A λa A↦?_
 refine qa (hK1 _ _ (wsk fun K2 hK2 => wsk fun K3 hK3 => wrl (mv A rfl rfl rfl λa A↦?_)))
 rcases tf (decide (l = ([] : List UInt8))) with hb4 | hb4
 ·
  have hb4' := of_decide_eq_true hb4
  have hb4n : (l).length = 0 := by rw [hb4']; rfl
  refine sdo (v := .bool true) A (qe rfl rfl (fun w => (zu (a := l) (b := []) Tryz.underlying9 w).trans (by rw [hb4]; try rfl))) λa A↦?_
  refine qa (hK3 _ _ (wp_cond_true (A.ev rfl) ?_))
  refine wsk fun K5 hK5 => wrl (qg A rfl rfl rfl (qb  rfl rfl (fun w => by kernel_rfl)) (zbh _) ?_)
  rintro _ w10 ⟨ro6, rc7, rfl, ho8, hb9⟩
  replace V := V.call hb9
  replace V := V.addR ho8.rd
  refine ⟨_, rfl, ?_⟩
  intro a A
  iterate 2 refine sda A λa A↦?_
  refine qa (hK5 _ _ (wp_ret (hret _ _ (en2 A rfl (qj rfl) (qj rfl) ?_))))
  rw [show rdN r l = ([1], 0) from by unfold rdN; rw [if_pos hb4']]
  exact ⟨_, _, rfl, ho8, V.bel⟩
 ·
  have hb4' := of_decide_eq_false hb4
  have hb4n : ¬ (l).length = 0 := fun k => hb4' (List.length_eq_zero_iff.1 k)
  refine sdo (v := .bool false) A (qe rfl rfl (fun w => (zu (a := l) (b := []) Tryz.underlying9 w).trans (by rw [hb4]; try rfl))) λa A↦?_
  refine qa (hK3 _ _ (wp_cond_false (A.ev rfl) ?_))
  refine wp_skip (hK2 _ _ (wsk fun K11 hK11 => wrl ?_))
  iterate 2 refine sdm A λa A↦?_
  refine qg A rfl rfl rfl (qb  rfl rfl (fun w => by kernel_rfl)) (read_any (bsL l) ((r : Nat) : Int) _ (by rw [xj]; exact hl) (by omega) (by rcases hr with h | h | h | h <;> subst h <;> decide)) ?_
  rintro _ w16 ⟨ro12, rc13, rfl, ho14, hb15⟩
  replace V := V.call hb15
  replace V := V.addR ho14.rd
  refine ⟨_, rfl, ?_⟩
  intro a A
  iterate 2 refine sdo A (qm (vs := [.slice ro12 (((readS (bsL l) (r : Int)).1).length) rc13, .int .i64 ((readS (bsL l) (r : Int)).2)]) rfl rfl) λa A↦?_
  iterate 2 refine sda A λa A↦?_
  refine qa (hK11 _ _ (wp_ret (hret _ _ (en2 A rfl (qj rfl) (qj rfl) ?_))))
  rw [show rdN r l = readS (bsL l) (r : Int) from by unfold rdN; rw [if_neg hb4']]
  exact ⟨_, _, rfl, ho14, V.bel⟩
theorem uq {w : World} {r : Nat} {n : Nl} (hr : RadN r) (hl1 : n.2.1.length ≤ 9223372036854775807) (hl2 : n.2.2.length ≤ 9223372036854775807) (h1 : rdE r n.2.1 = 0) (h2 : rdE r n.2.2 = 0) : Calls Tryz.prog 95 #[.agg #[.int .u8 (((n.1 : Nat) : Int)), .string (bsL n.2.1), .string (bsL n.2.2)], .int .i64 ((r : Nat) : Int)] w fun e w' => ∃ o c o' c', e = .returned (.tuple #[.agg #[.bool (rb (sgn (decide (n.1 = 45)) (zi r n.2.1))), .slice o (words (sgn (decide (n.1 = 45)) (zi r n.2.1)).natAbs).length c], .slice o' (words (zi r n.2.2)).length c', .int .i64 0]) ∧ Sc w' o c (words (sgn (decide (n.1 = 45)) (zi r n.2.1)).natAbs) ∧ Sc w' o' c' (words (zi r n.2.2)) ∧ Below w.heap.size w w' := by
 have V : St w w [] [] [] := St.start w
 refine qy (l := [(0, .agg #[.int .u8 (((n.1 : Nat) : Int)), .string (bsL n.2.1), .string (bsL n.2.2)]), (1, .int .i64 (((r : Nat) : Int)))]) Tryz.func95 rfl Tryz.ntmps95 rfl rfl ?_
 intro Q hret hnorm hP a A
 refine wsk fun K1 hK1 => wrl (qn A V rfl rfl rfl pg (qw rfl rfl) rfl ?_)
 intro g2 w3 V a A
 refine qn (vs := [.bool false, .slice none 0 0]) (t := 132) A V rfl rfl rfl pg (ql (z := .agg #[.bool false, .slice none 0 0]) (by kernel_rfl) rfl) rfl ?_
 intro g4 w5 V a A
 iterate 2 refine sda A λa A↦?_
 refine qa (hK1 _ _ (wsk fun K6 hK6 => wrl (sdo (v := .pointer (some ⟨g2, 1, none⟩)) A (qf RxD_fld_88_1 rfl rfl) λa A↦?_)))
 refine sdo A (qs V RxD_is1_9 rfl 1 rfl rfl) λa A↦?_
 refine sdm A λa A↦?_
 refine qg A rfl rfl rfl (qb  rfl rfl (fun w => by kernel_rfl)) ((by have h := vq (w := w5) (r := r) (l := n.2.1) hr hl1; rw [(qge h1).1] at h; exact h)) ?_
 rintro _ w11 ⟨ro7, rc8, rfl, ho9, hb10⟩
 replace V := V.call hb10
 replace V := V.addR ho9.rd
 refine ⟨_, rfl, ?_⟩
 intro a A
 refine sdm A λa A↦?_
 iterate 2 refine sdo A (qm (vs := [.slice ro7 ((words (zi r n.2.1)).length) rc8, .int .i64 0]) rfl rfl) λa A↦?_
 iterate 2 refine sda A λa A↦?_
 refine qa (hK6 _ _ (wsk fun K12 hK12 => wsk fun K13 hK13 => wrl (mv A rfl rfl rfl λa A↦?_)))
 refine sdo (v := .bool false) A (qe rfl rfl (fun w => by kernel_rfl)) λa A↦?_
 refine qa (hK13 _ _ (wp_cond_false (A.ev rfl) ?_))
 refine wp_skip (hK12 _ _ (wsk fun K14 hK14 => wrl (sdo (v := .pointer (some ⟨g2, 2, none⟩)) A (qf RxD_fld_88_2 rfl rfl) λa A↦?_)))
 refine sdo A (qs V RxD_is1_9 rfl 1 rfl rfl) λa A↦?_
 refine sdm A λa A↦?_
 refine qg A rfl rfl rfl (qb  rfl rfl (fun w => by kernel_rfl)) ((by have h := vq (w := w11) (r := r) (l := n.2.2) hr hl2; rw [(qge h2).1] at h; exact h)) ?_
 rintro _ w19 ⟨ro15, rc16, rfl, ho17, hb18⟩
 replace V := V.call hb18
 replace V := V.addR ho17.rd
 refine ⟨_, rfl, ?_⟩
 intro a A
 refine sdm A λa A↦?_
 iterate 2 refine sdo A (qm (vs := [.slice ro15 ((words (zi r n.2.2)).length) rc16, .int .i64 0]) rfl rfl) λa A↦?_
 iterate 2 refine sda A λa A↦?_
 refine qa (hK14 _ _ (wsk fun K20 hK20 => wsk fun K21 hK21 => wrl (mv A rfl rfl rfl λa A↦?_)))
 refine sdo (v := .bool false) A (qe rfl rfl (fun w => by kernel_rfl)) λa A↦?_
 refine qa (hK21 _ _ (wp_cond_false (A.ev rfl) ?_))
 refine wp_skip (hK20 _ _ (wsk fun K22 hK22 => wrl (sdo (v := .pointer (some ⟨g2, 0, none⟩)) A (qf RxD_fld_88_0 rfl rfl) λa A↦?_)))
 refine sdo A (qs V RxD_is1_5 rfl 1 rfl rfl) λa A↦?_
 refine sdo (v := .bool ((((n.1 : Nat) : Int) == 45))) A (qe rfl rfl zl) λa A↦?_
 refine sdm A λa A↦?_
 refine qg A rfl rfl rfl (qb  rfl rfl (fun w => by kernel_rfl)) (xy (b := (((n.1 : Nat) : Int) == 45)) (n := zi r n.2.1) (z := sgn (decide (n.1 = 45)) (zi r n.2.1)) ⟨(V.rd 1 rfl), ho9.nocap, ho9.caps⟩ (by rw [beq45])) ?_
 rintro _ w27 ⟨zo23, zc24, rfl, hs25, hb26⟩
 replace V := V.call hb26
 replace V := V.addR hs25.rd
 refine ⟨_, rfl, ?_⟩
 intro a A
 refine sdm A λa A↦?_
 refine qr (us := [.bool ((rb (sgn (decide (n.1 = 45)) (zi r n.2.1)))), .slice zo23 ((words (sgn (decide (n.1 = 45)) (zi r n.2.1)).natAbs).length) zc24]) A V rfl rfl (qi rfl rfl rfl (by kernel_rfl) V 0 rfl rfl rfl) 0 rfl rfl rfl rfl ?_
 intro w28 V
 iterate 2 refine sda A λa A↦?_
 refine qa (hK22 _ _ (wp_ret (hret _ _ (en3 A rfl (qx V RxD_isS_132 rfl 0 rfl (cs := [.bool ((rb (sgn (decide (n.1 = 45)) (zi r n.2.1)))), .slice zo23 ((words (sgn (decide (n.1 = 45)) (zi r n.2.1)).natAbs).length) zc24]) rfl rfl) (qj rfl) (qj rfl) ?_))))
 exact ⟨_, _, _, _, rfl, ⟨(V.rd 0 rfl), hs25.nil, hs25.cap⟩, ⟨(V.rd 1 rfl), ho17.nocap, ho17.caps⟩, V.bel⟩
theorem zeb {w : World} {r : Nat} {n : Nl} (hr : RadN r) (hl1 : n.2.1.length ≤ 9223372036854775807) (hl2 : n.2.2.length ≤ 9223372036854775807) (h1 : rdE r n.2.1 ≠ 0) : Calls Tryz.prog 95 #[.agg #[.int .u8 (((n.1 : Nat) : Int)), .string (bsL n.2.1), .string (bsL n.2.2)], .int .i64 ((r : Nat) : Int)] w fun e w' => e = .returned (.tuple #[.agg #[.bool false, .slice none 0 0], .slice none 0 0, .int .i64 (rdE r n.2.1)]) ∧ Below w.heap.size w w' := by
 have V : St w w [] [] [] := St.start w
 refine qy (l := [(0, .agg #[.int .u8 (((n.1 : Nat) : Int)), .string (bsL n.2.1), .string (bsL n.2.2)]), (1, .int .i64 (((r : Nat) : Int)))]) Tryz.func95 rfl Tryz.ntmps95 rfl rfl ?_
 intro Q hret hnorm hP a A
 refine wsk fun K1 hK1 => wrl (qn A V rfl rfl rfl pg (qw rfl rfl) rfl ?_)
 intro g2 w3 V a A
 refine qn (vs := [.bool false, .slice none 0 0]) (t := 132) A V rfl rfl rfl pg (ql (z := .agg #[.bool false, .slice none 0 0]) (by kernel_rfl) rfl) rfl ?_
 intro g4 w5 V a A
 iterate 2 refine sda A λa A↦?_
 refine qa (hK1 _ _ (wsk fun K6 hK6 => wrl (sdo (v := .pointer (some ⟨g2, 1, none⟩)) A (qf RxD_fld_88_1 rfl rfl) λa A↦?_)))
 refine sdo A (qs V RxD_is1_9 rfl 1 rfl rfl) λa A↦?_
 refine sdm A λa A↦?_
 refine qg A rfl rfl rfl (qb  rfl rfl (fun w => by kernel_rfl)) ((by have h := vq (w := w5) (r := r) (l := n.2.1) hr hl1; rw [zhd h1] at h; exact h)) ?_
 rintro _ w11 ⟨ro7, rc8, rfl, ho9, hb10⟩
 replace V := V.call hb10
 replace V := V.addR ho9.rd
 refine ⟨_, rfl, ?_⟩
 intro a A
 refine sdm A λa A↦?_
 iterate 2 refine sdo A (qm (vs := [.slice ro7 0 rc8, .int .i64 ((rdE r n.2.1))]) rfl rfl) λa A↦?_
 iterate 2 refine sda A λa A↦?_
 refine qa (hK6 _ _ (wsk fun K12 hK12 => wsk fun K13 hK13 => wrl (mv A rfl rfl rfl λa A↦?_)))
 refine sdo (v := .bool true) A (qe rfl rfl (fun w => (jd w).trans (by rw [show (((rdE r n.2.1) != 0)) = true from (bne_iff_ne.2 h1)]))) λa A↦?_
 refine qa (hK13 _ _ (wp_cond_true (A.ev rfl) ?_))
 refine wsk fun K14 hK14 => wrl (sdo (v := .agg #[.bool false, .slice none 0 0]) A (za rfl (fun w => by kernel_rfl)) λa A↦?_)
 refine sdm A λa A↦?_
 refine qr (us := [.bool false, .slice none 0 0]) A V rfl rfl (qi rfl rfl rfl (by kernel_rfl) V 0 rfl rfl rfl) 0 rfl rfl rfl rfl ?_
 intro w15 V
 iterate 2 refine sda A λa A↦?_
 refine qa (hK14 _ _ (wp_ret (hret _ _ (en3 A rfl (qx V RxD_isS_132 rfl 0 rfl (cs := [.bool false, .slice none 0 0]) rfl rfl) (qj rfl) (qj rfl) ?_))))
 exact ⟨rfl, V.bel⟩
theorem zec {w : World} {r : Nat} {n : Nl} (hr : RadN r) (hl1 : n.2.1.length ≤ 9223372036854775807) (hl2 : n.2.2.length ≤ 9223372036854775807) (h1 : rdE r n.2.1 = 0) (h2 : rdE r n.2.2 ≠ 0) : Calls Tryz.prog 95 #[.agg #[.int .u8 (((n.1 : Nat) : Int)), .string (bsL n.2.1), .string (bsL n.2.2)], .int .i64 ((r : Nat) : Int)] w fun e w' => e = .returned (.tuple #[.agg #[.bool false, .slice none 0 0], .slice none 0 0, .int .i64 (rdE r n.2.2)]) ∧ Below w.heap.size w w' := by
 have V : St w w [] [] [] := St.start w
 refine qy (l := [(0, .agg #[.int .u8 (((n.1 : Nat) : Int)), .string (bsL n.2.1), .string (bsL n.2.2)]), (1, .int .i64 (((r : Nat) : Int)))]) Tryz.func95 rfl Tryz.ntmps95 rfl rfl ?_
 intro Q hret hnorm hP a A
 refine wsk fun K1 hK1 => wrl (qn A V rfl rfl rfl pg (qw rfl rfl) rfl ?_)
 intro g2 w3 V a A
 refine qn (vs := [.bool false, .slice none 0 0]) (t := 132) A V rfl rfl rfl pg (ql (z := .agg #[.bool false, .slice none 0 0]) (by kernel_rfl) rfl) rfl ?_
 intro g4 w5 V a A
 iterate 2 refine sda A λa A↦?_
 refine qa (hK1 _ _ (wsk fun K6 hK6 => wrl (sdo (v := .pointer (some ⟨g2, 1, none⟩)) A (qf RxD_fld_88_1 rfl rfl) λa A↦?_)))
 refine sdo A (qs V RxD_is1_9 rfl 1 rfl rfl) λa A↦?_
 refine sdm A λa A↦?_
 refine qg A rfl rfl rfl (qb  rfl rfl (fun w => by kernel_rfl)) ((by have h := vq (w := w5) (r := r) (l := n.2.1) hr hl1; rw [(qge h1).1] at h; exact h)) ?_
 rintro _ w11 ⟨ro7, rc8, rfl, ho9, hb10⟩
 replace V := V.call hb10
 replace V := V.addR ho9.rd
 refine ⟨_, rfl, ?_⟩
 intro a A
 refine sdm A λa A↦?_
 iterate 2 refine sdo A (qm (vs := [.slice ro7 ((words (zi r n.2.1)).length) rc8, .int .i64 0]) rfl rfl) λa A↦?_
 iterate 2 refine sda A λa A↦?_
 refine qa (hK6 _ _ (wsk fun K12 hK12 => wsk fun K13 hK13 => wrl (mv A rfl rfl rfl λa A↦?_)))
 refine sdo (v := .bool false) A (qe rfl rfl (fun w => by kernel_rfl)) λa A↦?_
 refine qa (hK13 _ _ (wp_cond_false (A.ev rfl) ?_))
 refine wp_skip (hK12 _ _ (wsk fun K14 hK14 => wrl (sdo (v := .pointer (some ⟨g2, 2, none⟩)) A (qf RxD_fld_88_2 rfl rfl) λa A↦?_)))
 refine sdo A (qs V RxD_is1_9 rfl 1 rfl rfl) λa A↦?_
 refine sdm A λa A↦?_
 refine qg A rfl rfl rfl (qb  rfl rfl (fun w => by kernel_rfl)) ((by have h := vq (w := w11) (r := r) (l := n.2.2) hr hl2; rw [zhd h2] at h; exact h)) ?_
 rintro _ w19 ⟨ro15, rc16, rfl, ho17, hb18⟩
 replace V := V.call hb18
 replace V := V.addR ho17.rd
 refine ⟨_, rfl, ?_⟩
 intro a A
 refine sdm A λa A↦?_
 iterate 2 refine sdo A (qm (vs := [.slice ro15 0 rc16, .int .i64 ((rdE r n.2.2))]) rfl rfl) λa A↦?_
 iterate 2 refine sda A λa A↦?_
 refine qa (hK14 _ _ (wsk fun K20 hK20 => wsk fun K21 hK21 => wrl (mv A rfl rfl rfl λa A↦?_)))
 refine sdo (v := .bool true) A (qe rfl rfl (fun w => (jd w).trans (by rw [show (((rdE r n.2.2) != 0)) = true from (bne_iff_ne.2 h2)]))) λa A↦?_
 refine qa (hK21 _ _ (wp_cond_true (A.ev rfl) ?_))
 refine wsk fun K22 hK22 => wrl (sdo (v := .agg #[.bool false, .slice none 0 0]) A (za rfl (fun w => by kernel_rfl)) λa A↦?_)
 refine sdm A λa A↦?_
 refine qr (us := [.bool false, .slice none 0 0]) A V rfl rfl (qi rfl rfl rfl (by kernel_rfl) V 0 rfl rfl rfl) 0 rfl rfl rfl rfl ?_
 intro w23 V
 iterate 2 refine sda A λa A↦?_
 refine qa (hK22 _ _ (wp_ret (hret _ _ (en3 A rfl (qx V RxD_isS_132 rfl 0 rfl (cs := [.bool false, .slice none 0 0]) rfl rfl) (qj rfl) (qj rfl) ?_))))
 exact ⟨rfl, V.bel⟩
theorem qeh {w : World} {r : Nat} {n : Nl} (hr : RadN r) (hl1 : n.2.1.length ≤ 9223372036854775807) (hl2 : n.2.2.length ≤ 9223372036854775807) (h : xw r n ≠ 0) : Calls Tryz.prog 95 #[.agg #[.int .u8 (((n.1 : Nat) : Int)), .string (bsL n.2.1), .string (bsL n.2.2)], .int .i64 ((r : Nat) : Int)] w fun e w' => e = .returned (.tuple #[.agg #[.bool false, .slice none 0 0], .slice none 0 0, .int .i64 (xw r n)]) ∧ Below w.heap.size w w' := by
 unfold xw at h ⊢
 by_cases h1 : rdE r n.2.1 = 0
 ·
  rw [if_neg (by simpa using h1)] at h ⊢
  exact zec hr hl1 hl2 h1 h
 ·
  rw [if_pos h1]
  exact zeb hr hl1 hl2 h1
end Go.Proofs.YtjkpfnghiooblaaGreatDoor
