/- Walk of the document's quotient, bit by bit. Fractions in lowest terms, as the document makes them. Walks of the document's functions over fractions. Walks of the document's sums of fractions. The document's -a - 1, and shifts of numbers. Walks of the document's -a - 1, and of shifts. How long numbers are in bits, and their opposites less one. -/
import Derived.Test.YteghiinbafbokaaPb
import Derived.Test.YteghiinbafbokaaPa
namespace Go.Proofs.Yteghiinbafbokaa
open Go.RowKit
set_option linter.unusedVariables false
set_option linter.unusedSimpArgs false

theorem or_one_bit (d m : Nat) (h : d / 2 ^ m % 2 = 0) : d ||| 2 ^ m = d + 2 ^ m := by
  have p : 0 < 2 ^ m := Nat.pow_pos (by omega)
  obtain ⟨hi, hhi⟩ : ∃ hi, d / 2 ^ m = 2 * hi := ⟨d / 2 ^ m / 2, by generalize d / 2 ^ m = z at *; omega⟩
  obtain ⟨lo, hlo⟩ : ∃ lo, d % 2 ^ m = lo := ⟨_, rfl⟩
  have hl : lo < 2 ^ m := by rw [← hlo]; exact Nat.mod_lt _ p
  have e : d = hi * 2 ^ (m + 1) + lo := by
    have h1 := Nat.div_add_mod d (2 ^ m)
    rw [hhi, hlo] at h1
    rw [Nat.pow_succ, ← Nat.mul_assoc, Nat.mul_comm (hi * 2 ^ m) 2, ← h1]
    congr 1
    rw [Nat.mul_left_comm, Nat.mul_comm hi (2 ^ m)]
  have hp1 : lo < 2 ^ (m + 1) := by rw [Nat.pow_succ]; omega
  have hp2 : 2 ^ m + lo < 2 ^ (m + 1) := by rw [Nat.pow_succ]; omega
  have o1 : 2 ^ m ||| lo = 2 ^ m + lo := by
    have := or_add 1 lo m hl
    rw [Nat.one_mul] at this
    exact this
  rw [e, ← or_add hi lo (m + 1) hp1, Nat.or_assoc, Nat.or_comm lo, o1, or_add hi _ (m + 1) hp2, or_add hi lo (m + 1) hp1]
  omega
theorem val_getD {l : List Nat} (hd : Dig l) (p : Nat) : l.getD p 0 = val l / pw p % 4294967296 := by
  induction l generalizing p with
  | nil => simp [val]
  | cons d l ih =>
    have h1 := dig_cons.1 hd
    cases p with
    | zero =>
      rw [pw_zero, Nat.div_one, val_cons]
      simp
      omega
    | succ p =>
      rw [List.getD_cons_succ, ih h1.2, pw_succ, ← Nat.div_div_eq_div_mul]
      congr 2
      rw [val_cons]
      omega
theorem bit_clear {l : List Nat} {Q j : Nat} (hd : Dig l) (h : val l = Q * 2 ^ (j + 1)) : l.getD (j / 32) 0 / 2 ^ (j % 32) % 2 = 0 := by
  rw [val_getD hd, bit_word, h, Nat.pow_succ, ← Nat.mul_assoc, Nat.mul_comm Q, Nat.mul_assoc, Nat.mul_div_cancel_left _ (Nat.pow_pos (by omega))]
  omega
theorem over_half (x j : Nat) : x / 2 ^ j = 2 * (x / 2 ^ (j + 1)) + x / 2 ^ j % 2 := by
  rw [Nat.pow_succ, ← Nat.div_div_eq_div_mul]
  generalize x / 2 ^ j = z
  omega
theorem over_yes {x y Q r j : Nat} (h : x / 2 ^ (j + 1) = Q * y + r) (hge : y ≤ 2 * r + x / 2 ^ j % 2) : x / 2 ^ j = (2 * Q + 1) * y + (2 * r + x / 2 ^ j % 2 - y) := by
  have h1 := over_half x j
  rw [h] at h1
  rw [Nat.add_mul, Nat.one_mul, Nat.mul_assoc]
  rw [Nat.mul_add] at h1
  generalize x / 2 ^ j = z at *
  omega
theorem over_no {x y Q r j : Nat} (h : x / 2 ^ (j + 1) = Q * y + r) : x / 2 ^ j = 2 * Q * y + (2 * r + x / 2 ^ j % 2) := by
  have h1 := over_half x j
  rw [h] at h1
  rw [Nat.mul_assoc]
  rw [Nat.mul_add] at h1
  generalize x / 2 ^ j = z at *
  omega

set_option maxHeartbeats 2000000 in
set_option maxRecDepth 1000000 in
theorem over_any {w : World} {ao bo : Option Addr} {x y : Nat} (ca cb : Nat) (ha : Rd w ao (words x)) (hb : Rd w bo (words y)) (hx : (words x).length ≤ 9000) (hy : (words y).length ≤ 9000) (hy0 : y ≠ 0) :
    Calls Try.prog 97 #[.slice ao (words x).length ca, .slice bo (words y).length cb] w (Row2 w (words (x / y)) (words (x % y))) := by
  obtain ⟨n, HX⟩ : ∃ n, Hid ((words x).length = n) := ⟨_, rfl⟩
  obtain ⟨m, HY⟩ : ∃ n, Hid ((words y).length = n) := ⟨_, rfl⟩
  have hbl := bl_len (Nat.le_of_eq HX.out)
  have HY0 : Hid (0 < y) := Nat.pos_of_ne_zero hy0
  rw [HX.out] at hx
  rw [HY.out] at hy
  rw [HX.out, HY.out]
  clear hy0
  have hmk := run_make_row' (P := Try.prog) 22 41 (.int .u32 0) 4 Try.underlying22 infoU rfl .i64 .i64 n (by omega) (by omega)
  have b1 : Below w.heap.size w ((w.alloc (.cells (madeCells #[.int .u32 0] n) 41)).alloc (.cells #[] 41)) := ((Below.refl _ _).alloc (Nat.le_refl _) _).alloc (by simp) _
  have oq : Own w.heap.size ((w.alloc (.cells (madeCells #[.int .u32 0] n) 41)).alloc (.cells #[] 41)) (some ⟨w.heap.size, 0, none⟩) n (List.replicate n 0) := (Own.made w n (by omega)).alloc _
  have zs : (w.alloc (.cells (madeCells #[.int .u32 0] n) 41)).heap.size = w.heap.size + 1 := by simp
  have or0 : Own (w.heap.size + 1) ((w.alloc (.cells (madeCells #[.int .u32 0] n) 41)).alloc (.cells #[] 41)) (some ⟨w.heap.size + 1, 0, none⟩) 0 [] := by
    have := World.ownsRow_made (e := 41) (size := 1) (base := w.heap.size + 1) (w.alloc (.cells (madeCells #[.int .u32 0] n) 41)) #[] 0 (by rw [zs]; exact Nat.le_refl _) (by decide) rfl
    rw [zs] at this
    exact ⟨dig_nil, this⟩
  have c1 := size_any ca (ha.below b1) (by rw [HX.out]; omega)
  rw [HX.out] at c1
  have HA : Hid _ := ha
  have HRB : Hid _ := hb
  have HC1 : Hid _ := c1
  have HB1 : Hid _ := b1
  have HOQ : Hid _ := oq
  have HOR : Hid _ := or0
  have HBL : Hid (x < 2 ^ bl x) := lt_bl x
  obtain ⟨bx, hbx⟩ : ∃ b, bl x = b := ⟨_, rfl⟩
  rw [hbx] at HC1 hbl HBL
  clear ha hb c1 b1 oq or0 zs hbx
  go_enter Try.func97, Try.ntmps97
  go_wp2_with fail
  refine Calls.mono HC1.out ?_
  rintro e w' ⟨rfl, hw'⟩
  have hw' := hw'.symm
  subst hw'
  clear HC1
  go_wp2
  go_loopw [7, 8] (fun v7 v8 wr => ∃ (kk r Q : Nat) (LQ : List Nat) (ro : Option Addr) (rc : Nat), kk ≤ bx ∧ v8 = .int .i64 ((kk : Int) - 1) ∧ v7 = .slice ro (words r).length rc ∧ LQ.length = n ∧ Own w.heap.size wr (some ⟨w.heap.size, 0, none⟩) n LQ ∧ Own (w.heap.size + 1) wr ro rc (words r) ∧ Below w.heap.size w wr ∧ val LQ = Q * 2 ^ kk ∧ x / 2 ^ kk = Q * y + r ∧ r < y) (fun _ v8 _ => (intOf v8 + 1).toNat)
  case atStart =>
    refine ⟨bx, 0, 0, List.replicate n 0, some ⟨w.heap.size + 1, 0, none⟩, 0, Nat.le_refl _, rfl, by rw [words_zero]; rfl, by simp, HOQ.out, by rw [words_zero]; exact HOR.out, HB1.out, by rw [val_replicate, Nat.zero_mul], ?_, HY0.out⟩
    rw [Nat.div_eq_of_lt HBL.out, Nat.zero_mul]
  case round =>
    obtain ⟨kk, r, Q, LQ, ro, rc, hkk, rfl, rfl, hLQ, hoq, hor, hbw, hval, hdiv, hr⟩ := hrel
    have HLQ : Hid _ := hLQ
    have HVAL : Hid _ := hval
    have HDIV : Hid _ := hdiv
    have HRY : Hid _ := hr
    clear hLQ hval hdiv hr
    by_cases hk0 : kk = 0
    · subst hk0
      have hfin : val LQ = x / y ∧ r = x % y := by
        have h1 := HVAL.out
        have h2 := HDIV.out
        rw [Nat.pow_zero, Nat.mul_one] at h1
        rw [Nat.pow_zero, Nat.div_one] at h2
        have h3 := Nat.div_mod_unique (a := x) (b := y) (c := r) (d := Q) HY0.out
        have h4 := h3.2 ⟨by rw [Nat.mul_comm]; omega, HRY.out⟩
        exact ⟨h1.trans h4.1.symm, h4.2.symm⟩
      have c1 := norm_any n hoq.rd (by rw [HLQ.out]; omega) hoq.caps (by simp)
      rw [hfin.1, HLQ.out] at c1
      have HC1 : Hid _ := c1
      have HOR2 : Hid _ := hor
      have HBW : Hid _ := hbw
      have HFin : Hid _ := hfin.2
      clear c1 hfin hoq hor hbw
      go_wp2_with fail
      refine Calls.mono HC1.out ?_
      rintro e w2 ⟨so, sc, rfl, ho, b2⟩
      have HO2 : Hid _ := ho.lower HBW.out.size
      have HOR3 : Hid _ := (HOR2.out.below b2).lower (Nat.le_succ w.heap.size)
      have HB2 : Hid _ := chain2 HBW.out b2
      clear ho b2 HC1
      go_wp2
      go_ret2
      have e := HFin.out
      subst e
      exact ⟨_, _, _, _, rfl, HO2.out, HOR3.out, HB2.out⟩
    · obtain ⟨j, rfl⟩ : ∃ j, kk = j + 1 := ⟨kk - 1, by omega⟩
      have e1 : (((j + 1 : Nat) : Int) - 1) = (j : Int) := by omega
      simp only [e1]
      have c1 := bit_any ca j (HA.out.below hbw) (by omega)
      rw [HX.out] at c1
      have hrl : (words r).length ≤ 9000 := by
        have := words_mono (Nat.le_of_lt HRY.out)
        rw [HY.out] at this
        omega
      have hb1 : x / 2 ^ j % 2 ≤ 1 := by omega
      have c2 := double_any (b := x / 2 ^ j % 2) rc hor.rd (by omega) hb1
      have HYES : Hid _ := @over_yes x y Q r j HDIV.out
      have HNO : Hid _ := @over_no x y Q r j HDIV.out
      obtain ⟨bt, hbt⟩ : ∃ b, x / 2 ^ j % 2 = b := ⟨_, rfl⟩
      rw [hbt] at c1 c2 hb1 HYES HNO
      have HC1 : Hid _ := c1
      have HC2 : Hid _ := c2
      have HOQ2 : Hid _ := hoq
      have HBW : Hid _ := hbw
      have HRL : Hid _ := hrl
      have hsz : w.heap.size + 1 ≤ wr.heap.size := Nat.succ_le_of_lt (hoq.lt _ rfl).2
      clear c1 c2 hoq hor hbw hbt hrl
      go_wp2_with fail
      refine Calls.mono HC1.out ?_
      rintro e w' ⟨rfl, hw'⟩
      have hw' := hw'.symm
      subst hw'
      clear HC1
      go_wp2_with fail
      refine Calls.mono HC2.out ?_
      rintro e w2 ⟨do_, dc, rfl, od, b2⟩
      have hdl : (words (2 * r + bt)).length ≤ 9001 := by
        apply words_length_le
        have h1 := words_length_iff.1 HRL.out
        have e : pw 9001 = 4294967296 * pw 9000 := pw_succ 9000
        generalize pw 9000 = Z at *
        omega
      have HOD : Hid _ := od.lower hsz
      have HOQ3 : Hid _ := HOQ2.out.below b2
      have HBW2 : Hid _ := chain2 HBW.out b2
      have hsz2 : w.heap.size + 1 ≤ w2.heap.size := Nat.le_trans hsz b2.size
      have c3 := rorder_any dc cb od.rd (HRB.out.below HBW2.out) (by omega) (by rw [HY.out]; omega)
      rw [HY.out] at c3
      clear od b2 HC2
      by_cases hcmp : 2 * r + bt < y
      · rw [cmp_lt hcmp] at c3
        have HC3 : Hid _ := c3
        have HCMP : Hid _ := hcmp
        clear c3 hcmp
        go_wp2_with fail
        refine Calls.mono HC3.out ?_
        rintro e w3 ⟨rfl, b3⟩
        have HOD3 : Hid _ := HOD.out.below b3
        have HOQ4 : Hid _ := HOQ3.out.below b3
        have HBW3 : Hid _ := chain2 HBW2.out b3
        clear b3 HC3
        go_wp2
        go_roundw
        case rel =>
          refine ⟨j, 2 * r + bt, 2 * Q, LQ, do_, dc, by omega, by go_num, rfl, HLQ.out, HOQ4.out, HOD3.out, HBW3.out, ?_, HNO.out, HCMP.out⟩
          rw [HVAL.out, Nat.pow_succ, ← Nat.mul_assoc, Nat.mul_comm (Q * 2 ^ j) 2, Nat.mul_assoc]
        case measure => simp only [intOf]; omega
      · have hge := cmp_ge' hcmp
        obtain ⟨kc, hkc⟩ : ∃ k, cmpN (2 * r + bt) y = k := ⟨_, rfl⟩
        rw [hkc] at c3 hge
        have hge2 : (0 : Int) ≤ kc := by omega
        have HC3 : Hid _ := c3
        have hyle : y ≤ 2 * r + bt := Nat.le_of_not_lt hcmp
        have HCMP : Hid _ := hyle
        clear c3 hcmp hkc hge hyle
        go_wp2_with fail
        refine Calls.mono HC3.out ?_
        rintro e w3 ⟨rfl, b3⟩
        have c4 := rless_any dc cb (HOD.out.rd.below b3) (HRB.out.below (chain2 HBW2.out b3)) (by omega) HCMP.out
        rw [HY.out] at c4
        have HC4 : Hid _ := c4
        have HOQ4 : Hid _ := HOQ3.out.below b3
        have HBW3 : Hid _ := chain2 HBW2.out b3
        have hsz3 : w.heap.size + 1 ≤ w3.heap.size := Nat.le_trans hsz2 b3.size
        clear b3 c4 HC3
        go_wp2_with fail
        refine Calls.mono HC4.out ?_
        rintro e w4 ⟨so, sc, rfl, os, b4⟩
        have HOS : Hid _ := os.lower hsz3
        have hoq5 := HOQ4.out.below b4
        have HBW4 : Hid _ := chain2 HBW3.out b4
        have k1 := hoq5.cell (j / 32) (by rw [HLQ.out]; omega)
        have k2 := hoq5.frozen (j / 32)
        have d1 := hoq5.dig.getD (j / 32)
        have HCL : Hid _ := bit_clear hoq5.dig HVAL.out
        have HVS : Hid _ := val_set LQ (j / 32) (LQ.getD (j / 32) 0 + 2 ^ (j % 32)) (by rw [HLQ.out]; omega)
        obtain ⟨d, hd⟩ : ∃ d, LQ.getD (j / 32) 0 = d := ⟨_, rfl⟩
        rw [hd] at k1 d1 HCL HVS
        have hp2 : 2 ^ (j % 32) < 4294967296 := by
          have := Nat.pow_lt_pow_right (show 1 < 2 by omega) (Nat.mod_lt j (show 0 < 32 by omega))
          exact this
        have horb := or_one_bit d (j % 32) HCL.out
        have hsum : d + 2 ^ (j % 32) < 4294967296 := by
          rw [← horb]
          exact Nat.or_lt_two_pow (n := 32) d1 hp2
        have hor : bits BinOp.or IntKind.u32 (d : Int) (2 ^ (j % 32) % 4294967296) = ((d + 2 ^ (j % 32) : Nat) : Int) := by
          have e : ((2 : Int) ^ (j % 32) % 4294967296) = ((2 ^ (j % 32) : Nat) : Int) := by
            have e2 : ((2 : Int) ^ (j % 32)) = ((2 ^ (j % 32) : Nat) : Int) := by rw [Int.natCast_pow]; rfl
            rw [e2]
            generalize 2 ^ (j % 32) = z at *
            omega
          rw [e, or_u32 _ _ d1 hp2, horb]
        have hset := hoq5.set (j / 32) (d + 2 ^ (j % 32)) hsum
        have hgs := hoq5.setG (j / 32) (d + 2 ^ (j % 32))
        rw [← hor] at hset hgs
        have HSet : Hid _ := hset
        have HOS5 : Hid _ := HOS.out.kept hgs (fun a ha e => by have h1 := (HOS.out.lt a ha).1; simp only [Option.some.injEq] at e; omega)
        have HBW5 : Hid _ := HBW4.out.setCell (p := ⟨w.heap.size, j / 32, none⟩) (Nat.le_refl _) (.int .u32 (bits BinOp.or IntKind.u32 (d : Int) (2 ^ (j % 32) % 4294967296)))
        have HPW : Hid (pw (j / 32) * 2 ^ (j % 32) = 2 ^ j) := by
          show pw (j / 32) * 2 ^ (j % 32) = 2 ^ j
          rw [pw_two, ← Nat.pow_add]
          congr 1
          omega
        clear os b4 hoq5 hd HC4 hset hgs hor hsum horb
        go_wp2
        go_region
        all_goals
          go_wp2
          go_roundw
          case rel =>
            refine ⟨j, 2 * r + bt - y, 2 * Q + 1, LQ.set (j / 32) (d + 2 ^ (j % 32)), so, sc, by omega, by go_num, rfl, by rw [List.length_set]; exact HLQ.out, HSet.out.drew, HOS5.out.drew, HBW5.out.drew, ?_, HYES.out HCMP.out, ?_⟩
            · have h1 := HVS.out
              rw [Nat.mul_add, HPW.out, HVAL.out, Nat.pow_succ, ← Nat.mul_assoc] at h1
              rw [Nat.add_mul, Nat.one_mul, Nat.mul_assoc]
              generalize Q * 2 ^ j = A at *
              omega
            · have h1 := HRY.out
              have h2 := HCMP.out
              omega
          case measure => simp only [intOf]; omega
end Go.Proofs.Yteghiinbafbokaa
namespace Go.Proofs.Yteghiinbafbokaa
open Go.RowKit
set_option linter.unusedVariables false
set_option linter.unusedSimpArgs false

theorem dig_one : Dig [1] := by intro x hx; simp at hx; omega
theorem rsoundB_any {w : World} {ao : Option Addr} {l : List Nat} (cap : Nat) (h : Rd w ao l) (hl : l.length ≤ 9223372036854775807) {r : Bool} (hr : sound l = r) :
    Calls Try.prog 90 #[.slice ao l.length cap] w fun e w' => e = .returned (.bool r) ∧ w' = w := by
  subst hr
  exact rsound_any cap h hl
theorem rsameB_any {w : World} {ao bo : Option Addr} {l1 l2 : List Nat} (ca cb : Nat) (ha : Rd w ao l1) (hb : Rd w bo l2) (h1 : l1.length ≤ 9223372036854775807) (h2 : l2.length ≤ 9223372036854775807) {r : Bool} (hr : decide (l1 = l2) = r) :
    Calls Try.prog 61 #[.slice ao l1.length ca, .slice bo l2.length cb] w fun e w' => e = .returned (.bool r) ∧ Below w.heap.size w w' := by
  subst hr
  exact rsame_any ca cb ha hb h1 h2
theorem fracS_words {b : Bool} {x y : Nat} (hx : (words x).length ≤ 512) (hy : (words y).length ≤ 512) : fracS b (words x) (words y) = (!(decide ((words y).length = 0) || (decide ((words x).length = 0) && b)) && decide (words (Nat.gcd x y) = [1])) := by
  unfold fracS gcdS
  simp only [sound_of_words hx, sound_of_words hy, val_words, Bool.and_self, if_true, decide_true, Bool.true_and]
theorem fracS_bad {b : Bool} {t q : List Nat} (h : (sound t && sound q) = false) : fracS b t q = false := by
  unfold fracS gcdS
  rw [if_neg (by rw [h]; simp)]
  simp
/-- z over d, in lowest terms. -/
def rb (z : Int) : Bool := decide (z < 0)
def rt (z : Int) (d : Nat) : Nat := z.natAbs / Nat.gcd z.natAbs d
def rq (z : Int) (d : Nat) : Nat := d / Nat.gcd z.natAbs d
def AnsF (w : World) (b : Bool) (t q : List Nat) (e : Ending) (w' : World) : Prop := ∃ o1 c1 o2 c2, e = .returned (.agg #[.bool b, .slice o1 t.length c1, .slice o2 q.length c2]) ∧ Sc w' o1 c1 t ∧ Sc w' o2 c2 q ∧ Below w.heap.size w w'
theorem gcd_ne {x d : Nat} (h : d ≠ 0) : Nat.gcd x d ≠ 0 := fun e => h (Nat.eq_zero_of_gcd_eq_zero_right e)
theorem div_len {x g k : Nat} (h : (words x).length ≤ k) : (words (x / g)).length ≤ k := Nat.le_trans (words_mono (Nat.div_le_self x g)) h
theorem gcd_len {x d k : Nat} (hd : d ≠ 0) (h : (words d).length ≤ k) : (words (Nat.gcd x d)).length ≤ k := Nat.le_trans (words_mono (Nat.gcd_le_right x (by omega))) h
theorem words_len_pos {x : Nat} : 0 < (words x).length ↔ x ≠ 0 := by
  rw [List.length_pos_iff]
  exact not_congr words_eq_nil
/-- The sign and size of a sum of two fractions over one bottom. -/
theorem sum_same (b : Bool) (x y : Nat) : sgn b x + sgn b y = sgn b (x + y) := by cases b <;> simp [sgn] <;> omega
theorem sum_more (b : Bool) {x y : Nat} (h : y ≤ x) : sgn b x + sgn (!b) y = sgn b (x - y) := by cases b <;> simp [sgn] <;> omega
theorem sgn_scale (b : Bool) (x d : Nat) : sgn b x * (d : Int) = sgn b (x * d) := by cases b <;> simp [sgn, Int.neg_mul]
theorem rb_sgn (b : Bool) (x d : Nat) (hd : d ≠ 0) : rb (sgn b x) = (b && decide (0 < rt (sgn b x) d)) := by
  unfold rb rt
  rw [sgn_neg, sgn_abs]
  by_cases h : x = 0
  · subst h; simp
  · have : 0 < x / Nat.gcd x d := Nat.div_pos (Nat.gcd_le_left d (by omega)) (by have := gcd_ne (x := x) hd; omega)
    simp [this]
    intro _
    omega
end Go.Proofs.Yteghiinbafbokaa
namespace Go.Proofs.Yteghiinbafbokaa
open Go.RowKit
set_option linter.unusedVariables false
set_option linter.unusedSimpArgs false
set_option maxRecDepth 100000
theorem fld_26_1 : FieldAt Try.prog 26 1 3 := ⟨_, _, Try.underlying26, rfl, rfl, by kernel_rfl⟩
theorem isS_24 : IsS Try.prog 24 3 := ⟨⟨_, Try.underlying24⟩, by kernel_rfl⟩
theorem ratSoundW_any {w : World} {b : Bool} {x y : Nat} {a1 a2 : Option Addr} {ac1 ac2 : Nat} (ha1 : Sc w a1 ac1 (words x)) (ha2 : Sc w a2 ac2 (words y)) (hx : (words x).length ≤ 512) (hy : (words y).length ≤ 512) {r : Bool} (hr : fracS b (words x) (words y) = r) :
    Calls Try.prog 72 #[.agg #[.bool b, .slice a1 (words x).length ac1, .slice a2 (words y).length ac2]] w fun e w' => e = .returned (.bool r) ∧ Below w.heap.size w w' := by
  have hg9 : (words (Nat.gcd x y)).length ≤ 9223372036854775807 := by
    by_cases h : x = 0
    · subst h; rw [Nat.gcd_zero_left]; omega
    · have := words_mono (Nat.gcd_le_left y (Nat.pos_of_ne_zero h)); omega
  cases b
  · have hS : St w w [] [(a2, words y), (a1, words x)] [] := ((St.start w).addR ha1.rd).addR ha2.rd
    refine walk_of (l := [(0, .agg #[.bool false, .slice a1 ((words x).length) ac1, .slice a2 ((words y).length) ac2])]) Try.func72 rfl Try.ntmps72 rfl rfl ?_
    intro Q hret hnorm hP a hA
    refine wp_seq_k (fun K1 hK1 => ?_)
    refine wp_region_lit ?_
    refine seq_new (vs := [.bool false, .slice a1 ((words x).length) ac1, .slice a2 ((words y).length) ac2]) (t := 24) hA hS rfl rfl rfl (fun g => .pointer (some ⟨g, 0, none⟩)) (does_box rfl rfl) rfl ?_
    intro g2 w3 hS a hA
    refine seq_do hA rfl rfl rfl (does_assign rfl) ?_
    intro a hA
    refine seq_end ?_
    refine hK1 _ _ ?_
    refine wp_seq_k (fun K4 hK4 => ?_)
    refine wp_seq_k (fun K5 hK5 => ?_)
    refine wp_region_lit ?_
    refine seq_do (v := .pointer (some ⟨g2, 1, none⟩)) hA rfl rfl rfl (does_field fld_24_1 rfl rfl) ?_
    intro a hA
    refine seq_do hA rfl rfl rfl (does_load1 hS is1_22 rfl 0 rfl rfl) ?_
    intro a hA
    refine seq_call hA rfl rfl rfl (enters_func  rfl rfl (fun w => by kernel_rfl)) (rsoundB_any _ (hS.rd 1 rfl) (by omega) (sound_of_words hx)) ?_
    rintro _ w7 ⟨rfl, hb6⟩
    replace hb6 := below_eq hb6
    replace hS := hS.call hb6
    refine ⟨_, rfl, ?_⟩
    intro a hA
    refine seq_do (v := .bool false) hA rfl rfl rfl (does_un rfl un_not) ?_
    intro a hA
    refine seq_do hA rfl rfl rfl (does_move rfl) ?_
    intro a hA
    refine seq_do (v := .pointer (some ⟨g2, 2, none⟩)) hA rfl rfl rfl (does_field fld_24_2 rfl rfl) ?_
    intro a hA
    refine seq_do hA rfl rfl rfl (does_load1 hS is1_22 rfl 0 rfl rfl) ?_
    intro a hA
    refine seq_call hA rfl rfl rfl (enters_func  rfl rfl (fun w => by kernel_rfl)) (rsoundB_any _ (hS.rd 0 rfl) (by omega) (sound_of_words hy)) ?_
    rintro _ w9 ⟨rfl, hb8⟩
    replace hb8 := below_eq hb8
    replace hS := hS.call hb8
    refine ⟨_, rfl, ?_⟩
    intro a hA
    refine seq_do (v := .bool false) hA rfl rfl rfl (does_un rfl un_not) ?_
    intro a hA
    refine seq_do (v := .bool false) hA rfl rfl rfl (does_pick rfl rfl rfl rfl) ?_
    intro a hA
    refine seq_do hA rfl rfl rfl (does_move rfl) ?_
    intro a hA
    refine seq_do (v := .pointer (some ⟨g2, 2, none⟩)) hA rfl rfl rfl (does_field fld_24_2 rfl rfl) ?_
    intro a hA
    refine seq_do hA rfl rfl rfl (does_load1 hS is1_22 rfl 0 rfl rfl) ?_
    intro a hA
    refine seq_do (v := .int .i64 ((((words y).length : Nat) : Int))) hA rfl rfl rfl (does_len Try.underlying22 rfl) ?_
    intro a hA
    rcases Bool.eq_false_or_eq_true (((((words y).length : Nat) : Int) == 0)) with hb10 | hb10
    · have hb10' := eq_of_beq hb10
      refine seq_do (v := .bool true) hA rfl rfl rfl (does_bin rfl rfl (fun w => (bin_eql w).trans (by rw [hb10]))) ?_
      intro a hA
      refine seq_do (v := .bool true) hA rfl rfl rfl (does_pick rfl rfl rfl rfl) ?_
      intro a hA
      refine seq_end ?_
      refine hK5 _ _ ?_
      refine wp_cond_true (hA.ev rfl) ?_
      refine wp_seq_k (fun K11 hK11 => ?_)
      refine wp_region_lit ?_
      refine seq_do hA rfl rfl rfl (does_assign rfl) ?_
      intro a hA
      refine seq_end ?_
      refine hK11 _ _ ?_
      refine wp_ret ?_
      refine hret _ _ ?_
      refine ends (v := .bool false) hA rfl (.cons (res_tmp rfl) .nil) rfl ?_
      subst hr
      have ey : decide ((words y).length = 0) = true := decide_eq_true (by omega)
      exact ⟨by rw [fracS_words hx hy, ey]; simp, hS.bel⟩
    · have hb10' := ne_of_beq_false hb10
      refine seq_do (v := .bool false) hA rfl rfl rfl (does_bin rfl rfl (fun w => (bin_eql w).trans (by rw [hb10]))) ?_
      intro a hA
      refine seq_do (v := .bool false) hA rfl rfl rfl (does_pick rfl rfl rfl rfl) ?_
      intro a hA
      refine seq_end ?_
      refine hK5 _ _ ?_
      refine wp_cond_false (hA.ev rfl) ?_
      refine wp_skip ?_
      refine hK4 _ _ ?_
      refine wp_seq_k (fun K12 hK12 => ?_)
      refine wp_seq_k (fun K13 hK13 => ?_)
      refine wp_region_lit ?_
      refine seq_do (v := .pointer (some ⟨g2, 1, none⟩)) hA rfl rfl rfl (does_field fld_24_1 rfl rfl) ?_
      intro a hA
      refine seq_do hA rfl rfl rfl (does_load1 hS is1_22 rfl 0 rfl rfl) ?_
      intro a hA
      refine seq_do (v := .int .i64 ((((words x).length : Nat) : Int))) hA rfl rfl rfl (does_len Try.underlying22 rfl) ?_
      intro a hA
      rcases Bool.eq_false_or_eq_true (((((words x).length : Nat) : Int) == 0)) with hb14 | hb14
      · have hb14' := eq_of_beq hb14
        refine seq_do (v := .bool true) hA rfl rfl rfl (does_bin rfl rfl (fun w => (bin_eql w).trans (by rw [hb14]))) ?_
        intro a hA
        refine seq_do hA rfl rfl rfl (does_move rfl) ?_
        intro a hA
        refine seq_do (v := .pointer (some ⟨g2, 0, none⟩)) hA rfl rfl rfl (does_field fld_24_0 rfl rfl) ?_
        intro a hA
        refine seq_do hA rfl rfl rfl (does_load1 hS is1_4 rfl 0 rfl rfl) ?_
        intro a hA
        refine seq_do (v := .bool false) hA rfl rfl rfl (does_pick rfl rfl rfl rfl) ?_
        intro a hA
        refine seq_end ?_
        refine hK13 _ _ ?_
        refine wp_cond_false (hA.ev rfl) ?_
        refine wp_skip ?_
        refine hK12 _ _ ?_
        refine wp_seq_k (fun K15 hK15 => ?_)
        refine wp_region_lit ?_
        refine seq_do (v := .pointer (some ⟨g2, 1, none⟩)) hA rfl rfl rfl (does_field fld_24_1 rfl rfl) ?_
        intro a hA
        refine seq_do hA rfl rfl rfl (does_load1 hS is1_22 rfl 0 rfl rfl) ?_
        intro a hA
        refine seq_do (v := .pointer (some ⟨g2, 2, none⟩)) hA rfl rfl rfl (does_field fld_24_2 rfl rfl) ?_
        intro a hA
        refine seq_do hA rfl rfl rfl (does_load1 hS is1_22 rfl 0 rfl rfl) ?_
        intro a hA
        refine seq_call hA rfl rfl rfl (enters_func  rfl rfl (fun w => by kernel_rfl)) (rdivisor_any ac1 ac2 (hS.rd 1 rfl) (hS.rd 0 rfl) (by omega) (by omega) ha1.cap ha2.cap ha1.nil ha2.nil) ?_
        rintro _ w20 ⟨ro16, rc17, rfl, ho18, hb19⟩
        replace hS := hS.call hb19
        replace hS := hS.addR ho18.rd
        refine ⟨_, rfl, ?_⟩
        intro a hA
        refine seq_newU (us := [1]) (t := 41) (m := 1) hA hS rfl rfl rfl (does_buildSlice rfl (by kernel_rfl)) (by first | (simp [Dig]; done) | (intro z hz; simp only [List.mem_singleton] at hz; omega)) ?_
        intro g21 w22 hS a hA
        rcases Bool.eq_false_or_eq_true (decide (words (Nat.gcd x y) = [1])) with hb23 | hb23
        · have hb23' := of_decide_eq_true hb23
          refine seq_call hA rfl rfl rfl (enters_func  rfl rfl (fun w => by kernel_rfl)) (rsameB_any _ _ (hS.rd 1 rfl) (hS.rd 0 rfl) (by first | assumption | exact hg9 | decide) (by first | assumption | decide) hb23) ?_
          rintro _ w25 ⟨rfl, hb24⟩
          replace hS := hS.call hb24
          refine ⟨_, rfl, ?_⟩
          intro a hA
          refine seq_do hA rfl rfl rfl (does_assign rfl) ?_
          intro a hA
          refine seq_end ?_
          refine hK15 _ _ ?_
          refine wp_ret ?_
          refine hret _ _ ?_
          refine ends (v := .bool true) hA rfl (.cons (res_tmp rfl) .nil) rfl ?_
          subst hr
          have ey : decide ((words y).length = 0) = false := decide_eq_false (by omega)
          have ex : decide ((words x).length = 0) = true := decide_eq_true (by omega)
          exact ⟨by rw [fracS_words hx hy, ey, ex, hb23]; simp, hS.bel⟩
        · have hb23' := of_decide_eq_false hb23
          refine seq_call hA rfl rfl rfl (enters_func  rfl rfl (fun w => by kernel_rfl)) (rsameB_any _ _ (hS.rd 1 rfl) (hS.rd 0 rfl) (by first | assumption | exact hg9 | decide) (by first | assumption | decide) hb23) ?_
          rintro _ w27 ⟨rfl, hb26⟩
          replace hS := hS.call hb26
          refine ⟨_, rfl, ?_⟩
          intro a hA
          refine seq_do hA rfl rfl rfl (does_assign rfl) ?_
          intro a hA
          refine seq_end ?_
          refine hK15 _ _ ?_
          refine wp_ret ?_
          refine hret _ _ ?_
          refine ends (v := .bool false) hA rfl (.cons (res_tmp rfl) .nil) rfl ?_
          subst hr
          have ey : decide ((words y).length = 0) = false := decide_eq_false (by omega)
          have ex : decide ((words x).length = 0) = true := decide_eq_true (by omega)
          exact ⟨by rw [fracS_words hx hy, ey, ex, hb23]; simp, hS.bel⟩
      · have hb14' := ne_of_beq_false hb14
        refine seq_do (v := .bool false) hA rfl rfl rfl (does_bin rfl rfl (fun w => (bin_eql w).trans (by rw [hb14]))) ?_
        intro a hA
        refine seq_do hA rfl rfl rfl (does_move rfl) ?_
        intro a hA
        refine seq_skip hA rfl rfl rfl ?_
        intro a hA
        refine seq_skip hA rfl rfl rfl ?_
        intro a hA
        refine seq_do (v := .bool false) hA rfl rfl rfl (does_pick rfl rfl rfl rfl) ?_
        intro a hA
        refine seq_end ?_
        refine hK13 _ _ ?_
        refine wp_cond_false (hA.ev rfl) ?_
        refine wp_skip ?_
        refine hK12 _ _ ?_
        refine wp_seq_k (fun K28 hK28 => ?_)
        refine wp_region_lit ?_
        refine seq_do (v := .pointer (some ⟨g2, 1, none⟩)) hA rfl rfl rfl (does_field fld_24_1 rfl rfl) ?_
        intro a hA
        refine seq_do hA rfl rfl rfl (does_load1 hS is1_22 rfl 0 rfl rfl) ?_
        intro a hA
        refine seq_do (v := .pointer (some ⟨g2, 2, none⟩)) hA rfl rfl rfl (does_field fld_24_2 rfl rfl) ?_
        intro a hA
        refine seq_do hA rfl rfl rfl (does_load1 hS is1_22 rfl 0 rfl rfl) ?_
        intro a hA
        refine seq_call hA rfl rfl rfl (enters_func  rfl rfl (fun w => by kernel_rfl)) (rdivisor_any ac1 ac2 (hS.rd 1 rfl) (hS.rd 0 rfl) (by omega) (by omega) ha1.cap ha2.cap ha1.nil ha2.nil) ?_
        rintro _ w33 ⟨ro29, rc30, rfl, ho31, hb32⟩
        replace hS := hS.call hb32
        replace hS := hS.addR ho31.rd
        refine ⟨_, rfl, ?_⟩
        intro a hA
        refine seq_newU (us := [1]) (t := 41) (m := 1) hA hS rfl rfl rfl (does_buildSlice rfl (by kernel_rfl)) (by first | (simp [Dig]; done) | (intro z hz; simp only [List.mem_singleton] at hz; omega)) ?_
        intro g34 w35 hS a hA
        rcases Bool.eq_false_or_eq_true (decide (words (Nat.gcd x y) = [1])) with hb36 | hb36
        · have hb36' := of_decide_eq_true hb36
          refine seq_call hA rfl rfl rfl (enters_func  rfl rfl (fun w => by kernel_rfl)) (rsameB_any _ _ (hS.rd 1 rfl) (hS.rd 0 rfl) (by first | assumption | exact hg9 | decide) (by first | assumption | decide) hb36) ?_
          rintro _ w38 ⟨rfl, hb37⟩
          replace hS := hS.call hb37
          refine ⟨_, rfl, ?_⟩
          intro a hA
          refine seq_do hA rfl rfl rfl (does_assign rfl) ?_
          intro a hA
          refine seq_end ?_
          refine hK28 _ _ ?_
          refine wp_ret ?_
          refine hret _ _ ?_
          refine ends (v := .bool true) hA rfl (.cons (res_tmp rfl) .nil) rfl ?_
          subst hr
          have ey : decide ((words y).length = 0) = false := decide_eq_false (by omega)
          have ex : decide ((words x).length = 0) = false := decide_eq_false (by omega)
          exact ⟨by rw [fracS_words hx hy, ey, ex, hb36]; simp, hS.bel⟩
        · have hb36' := of_decide_eq_false hb36
          refine seq_call hA rfl rfl rfl (enters_func  rfl rfl (fun w => by kernel_rfl)) (rsameB_any _ _ (hS.rd 1 rfl) (hS.rd 0 rfl) (by first | assumption | exact hg9 | decide) (by first | assumption | decide) hb36) ?_
          rintro _ w40 ⟨rfl, hb39⟩
          replace hS := hS.call hb39
          refine ⟨_, rfl, ?_⟩
          intro a hA
          refine seq_do hA rfl rfl rfl (does_assign rfl) ?_
          intro a hA
          refine seq_end ?_
          refine hK28 _ _ ?_
          refine wp_ret ?_
          refine hret _ _ ?_
          refine ends (v := .bool false) hA rfl (.cons (res_tmp rfl) .nil) rfl ?_
          subst hr
          have ey : decide ((words y).length = 0) = false := decide_eq_false (by omega)
          have ex : decide ((words x).length = 0) = false := decide_eq_false (by omega)
          exact ⟨by rw [fracS_words hx hy, ey, ex, hb36]; simp, hS.bel⟩
  · have hS : St w w [] [(a2, words y), (a1, words x)] [] := ((St.start w).addR ha1.rd).addR ha2.rd
    refine walk_of (l := [(0, .agg #[.bool true, .slice a1 ((words x).length) ac1, .slice a2 ((words y).length) ac2])]) Try.func72 rfl Try.ntmps72 rfl rfl ?_
    intro Q hret hnorm hP a hA
    refine wp_seq_k (fun K1 hK1 => ?_)
    refine wp_region_lit ?_
    refine seq_new (vs := [.bool true, .slice a1 ((words x).length) ac1, .slice a2 ((words y).length) ac2]) (t := 24) hA hS rfl rfl rfl (fun g => .pointer (some ⟨g, 0, none⟩)) (does_box rfl rfl) rfl ?_
    intro g2 w3 hS a hA
    refine seq_do hA rfl rfl rfl (does_assign rfl) ?_
    intro a hA
    refine seq_end ?_
    refine hK1 _ _ ?_
    refine wp_seq_k (fun K4 hK4 => ?_)
    refine wp_seq_k (fun K5 hK5 => ?_)
    refine wp_region_lit ?_
    refine seq_do (v := .pointer (some ⟨g2, 1, none⟩)) hA rfl rfl rfl (does_field fld_24_1 rfl rfl) ?_
    intro a hA
    refine seq_do hA rfl rfl rfl (does_load1 hS is1_22 rfl 0 rfl rfl) ?_
    intro a hA
    refine seq_call hA rfl rfl rfl (enters_func  rfl rfl (fun w => by kernel_rfl)) (rsoundB_any _ (hS.rd 1 rfl) (by omega) (sound_of_words hx)) ?_
    rintro _ w7 ⟨rfl, hb6⟩
    replace hb6 := below_eq hb6
    replace hS := hS.call hb6
    refine ⟨_, rfl, ?_⟩
    intro a hA
    refine seq_do (v := .bool false) hA rfl rfl rfl (does_un rfl un_not) ?_
    intro a hA
    refine seq_do hA rfl rfl rfl (does_move rfl) ?_
    intro a hA
    refine seq_do (v := .pointer (some ⟨g2, 2, none⟩)) hA rfl rfl rfl (does_field fld_24_2 rfl rfl) ?_
    intro a hA
    refine seq_do hA rfl rfl rfl (does_load1 hS is1_22 rfl 0 rfl rfl) ?_
    intro a hA
    refine seq_call hA rfl rfl rfl (enters_func  rfl rfl (fun w => by kernel_rfl)) (rsoundB_any _ (hS.rd 0 rfl) (by omega) (sound_of_words hy)) ?_
    rintro _ w9 ⟨rfl, hb8⟩
    replace hb8 := below_eq hb8
    replace hS := hS.call hb8
    refine ⟨_, rfl, ?_⟩
    intro a hA
    refine seq_do (v := .bool false) hA rfl rfl rfl (does_un rfl un_not) ?_
    intro a hA
    refine seq_do (v := .bool false) hA rfl rfl rfl (does_pick rfl rfl rfl rfl) ?_
    intro a hA
    refine seq_do hA rfl rfl rfl (does_move rfl) ?_
    intro a hA
    refine seq_do (v := .pointer (some ⟨g2, 2, none⟩)) hA rfl rfl rfl (does_field fld_24_2 rfl rfl) ?_
    intro a hA
    refine seq_do hA rfl rfl rfl (does_load1 hS is1_22 rfl 0 rfl rfl) ?_
    intro a hA
    refine seq_do (v := .int .i64 ((((words y).length : Nat) : Int))) hA rfl rfl rfl (does_len Try.underlying22 rfl) ?_
    intro a hA
    rcases Bool.eq_false_or_eq_true (((((words y).length : Nat) : Int) == 0)) with hb10 | hb10
    · have hb10' := eq_of_beq hb10
      refine seq_do (v := .bool true) hA rfl rfl rfl (does_bin rfl rfl (fun w => (bin_eql w).trans (by rw [hb10]))) ?_
      intro a hA
      refine seq_do (v := .bool true) hA rfl rfl rfl (does_pick rfl rfl rfl rfl) ?_
      intro a hA
      refine seq_end ?_
      refine hK5 _ _ ?_
      refine wp_cond_true (hA.ev rfl) ?_
      refine wp_seq_k (fun K11 hK11 => ?_)
      refine wp_region_lit ?_
      refine seq_do hA rfl rfl rfl (does_assign rfl) ?_
      intro a hA
      refine seq_end ?_
      refine hK11 _ _ ?_
      refine wp_ret ?_
      refine hret _ _ ?_
      refine ends (v := .bool false) hA rfl (.cons (res_tmp rfl) .nil) rfl ?_
      subst hr
      have ey : decide ((words y).length = 0) = true := decide_eq_true (by omega)
      exact ⟨by rw [fracS_words hx hy, ey]; simp, hS.bel⟩
    · have hb10' := ne_of_beq_false hb10
      refine seq_do (v := .bool false) hA rfl rfl rfl (does_bin rfl rfl (fun w => (bin_eql w).trans (by rw [hb10]))) ?_
      intro a hA
      refine seq_do (v := .bool false) hA rfl rfl rfl (does_pick rfl rfl rfl rfl) ?_
      intro a hA
      refine seq_end ?_
      refine hK5 _ _ ?_
      refine wp_cond_false (hA.ev rfl) ?_
      refine wp_skip ?_
      refine hK4 _ _ ?_
      refine wp_seq_k (fun K12 hK12 => ?_)
      refine wp_seq_k (fun K13 hK13 => ?_)
      refine wp_region_lit ?_
      refine seq_do (v := .pointer (some ⟨g2, 1, none⟩)) hA rfl rfl rfl (does_field fld_24_1 rfl rfl) ?_
      intro a hA
      refine seq_do hA rfl rfl rfl (does_load1 hS is1_22 rfl 0 rfl rfl) ?_
      intro a hA
      refine seq_do (v := .int .i64 ((((words x).length : Nat) : Int))) hA rfl rfl rfl (does_len Try.underlying22 rfl) ?_
      intro a hA
      rcases Bool.eq_false_or_eq_true (((((words x).length : Nat) : Int) == 0)) with hb14 | hb14
      · have hb14' := eq_of_beq hb14
        refine seq_do (v := .bool true) hA rfl rfl rfl (does_bin rfl rfl (fun w => (bin_eql w).trans (by rw [hb14]))) ?_
        intro a hA
        refine seq_do hA rfl rfl rfl (does_move rfl) ?_
        intro a hA
        refine seq_do (v := .pointer (some ⟨g2, 0, none⟩)) hA rfl rfl rfl (does_field fld_24_0 rfl rfl) ?_
        intro a hA
        refine seq_do hA rfl rfl rfl (does_load1 hS is1_4 rfl 0 rfl rfl) ?_
        intro a hA
        refine seq_do (v := .bool true) hA rfl rfl rfl (does_pick rfl rfl rfl rfl) ?_
        intro a hA
        refine seq_end ?_
        refine hK13 _ _ ?_
        refine wp_cond_true (hA.ev rfl) ?_
        refine wp_seq_k (fun K15 hK15 => ?_)
        refine wp_region_lit ?_
        refine seq_do hA rfl rfl rfl (does_assign rfl) ?_
        intro a hA
        refine seq_end ?_
        refine hK15 _ _ ?_
        refine wp_ret ?_
        refine hret _ _ ?_
        refine ends (v := .bool false) hA rfl (.cons (res_tmp rfl) .nil) rfl ?_
        subst hr
        have ey : decide ((words y).length = 0) = false := decide_eq_false (by omega)
        have ex : decide ((words x).length = 0) = true := decide_eq_true (by omega)
        exact ⟨by rw [fracS_words hx hy, ey, ex]; simp, hS.bel⟩
      · have hb14' := ne_of_beq_false hb14
        refine seq_do (v := .bool false) hA rfl rfl rfl (does_bin rfl rfl (fun w => (bin_eql w).trans (by rw [hb14]))) ?_
        intro a hA
        refine seq_do hA rfl rfl rfl (does_move rfl) ?_
        intro a hA
        refine seq_skip hA rfl rfl rfl ?_
        intro a hA
        refine seq_skip hA rfl rfl rfl ?_
        intro a hA
        refine seq_do (v := .bool false) hA rfl rfl rfl (does_pick rfl rfl rfl rfl) ?_
        intro a hA
        refine seq_end ?_
        refine hK13 _ _ ?_
        refine wp_cond_false (hA.ev rfl) ?_
        refine wp_skip ?_
        refine hK12 _ _ ?_
        refine wp_seq_k (fun K16 hK16 => ?_)
        refine wp_region_lit ?_
        refine seq_do (v := .pointer (some ⟨g2, 1, none⟩)) hA rfl rfl rfl (does_field fld_24_1 rfl rfl) ?_
        intro a hA
        refine seq_do hA rfl rfl rfl (does_load1 hS is1_22 rfl 0 rfl rfl) ?_
        intro a hA
        refine seq_do (v := .pointer (some ⟨g2, 2, none⟩)) hA rfl rfl rfl (does_field fld_24_2 rfl rfl) ?_
        intro a hA
        refine seq_do hA rfl rfl rfl (does_load1 hS is1_22 rfl 0 rfl rfl) ?_
        intro a hA
        refine seq_call hA rfl rfl rfl (enters_func  rfl rfl (fun w => by kernel_rfl)) (rdivisor_any ac1 ac2 (hS.rd 1 rfl) (hS.rd 0 rfl) (by omega) (by omega) ha1.cap ha2.cap ha1.nil ha2.nil) ?_
        rintro _ w21 ⟨ro17, rc18, rfl, ho19, hb20⟩
        replace hS := hS.call hb20
        replace hS := hS.addR ho19.rd
        refine ⟨_, rfl, ?_⟩
        intro a hA
        refine seq_newU (us := [1]) (t := 41) (m := 1) hA hS rfl rfl rfl (does_buildSlice rfl (by kernel_rfl)) (by first | (simp [Dig]; done) | (intro z hz; simp only [List.mem_singleton] at hz; omega)) ?_
        intro g22 w23 hS a hA
        rcases Bool.eq_false_or_eq_true (decide (words (Nat.gcd x y) = [1])) with hb24 | hb24
        · have hb24' := of_decide_eq_true hb24
          refine seq_call hA rfl rfl rfl (enters_func  rfl rfl (fun w => by kernel_rfl)) (rsameB_any _ _ (hS.rd 1 rfl) (hS.rd 0 rfl) (by first | assumption | exact hg9 | decide) (by first | assumption | decide) hb24) ?_
          rintro _ w26 ⟨rfl, hb25⟩
          replace hS := hS.call hb25
          refine ⟨_, rfl, ?_⟩
          intro a hA
          refine seq_do hA rfl rfl rfl (does_assign rfl) ?_
          intro a hA
          refine seq_end ?_
          refine hK16 _ _ ?_
          refine wp_ret ?_
          refine hret _ _ ?_
          refine ends (v := .bool true) hA rfl (.cons (res_tmp rfl) .nil) rfl ?_
          subst hr
          have ey : decide ((words y).length = 0) = false := decide_eq_false (by omega)
          have ex : decide ((words x).length = 0) = false := decide_eq_false (by omega)
          exact ⟨by rw [fracS_words hx hy, ey, ex, hb24]; simp, hS.bel⟩
        · have hb24' := of_decide_eq_false hb24
          refine seq_call hA rfl rfl rfl (enters_func  rfl rfl (fun w => by kernel_rfl)) (rsameB_any _ _ (hS.rd 1 rfl) (hS.rd 0 rfl) (by first | assumption | exact hg9 | decide) (by first | assumption | decide) hb24) ?_
          rintro _ w28 ⟨rfl, hb27⟩
          replace hS := hS.call hb27
          refine ⟨_, rfl, ?_⟩
          intro a hA
          refine seq_do hA rfl rfl rfl (does_assign rfl) ?_
          intro a hA
          refine seq_end ?_
          refine hK16 _ _ ?_
          refine wp_ret ?_
          refine hret _ _ ?_
          refine ends (v := .bool false) hA rfl (.cons (res_tmp rfl) .nil) rfl ?_
          subst hr
          have ey : decide ((words y).length = 0) = false := decide_eq_false (by omega)
          have ex : decide ((words x).length = 0) = false := decide_eq_false (by omega)
          exact ⟨by rw [fracS_words hx hy, ey, ex, hb24]; simp, hS.bel⟩
theorem ratSoundA_any {w : World} {b : Bool} {t q : List Nat} {a1 a2 : Option Addr} {ac1 ac2 : Nat} (ha1 : Sc w a1 ac1 t) (ha2 : Sc w a2 ac2 q) (l1 : t.length ≤ 9223372036854775807) (l2 : q.length ≤ 9223372036854775807) (ht : sound t = false) :
    Calls Try.prog 72 #[.agg #[.bool b, .slice a1 t.length ac1, .slice a2 q.length ac2]] w fun e w' => e = .returned (.bool false) ∧ Below w.heap.size w w' := by
  have hS : St w w [] [(a2, q), (a1, t)] [] := ((St.start w).addR ha1.rd).addR ha2.rd
  refine walk_of (l := [(0, .agg #[.bool b, .slice a1 t.length ac1, .slice a2 q.length ac2])]) Try.func72 rfl Try.ntmps72 rfl rfl ?_
  intro Q hret hnorm hP a hA
  refine wp_seq_k (fun K1 hK1 => ?_)
  refine wp_region_lit ?_
  refine seq_new (vs := [.bool b, .slice a1 t.length ac1, .slice a2 q.length ac2]) (t := 24) hA hS rfl rfl rfl (fun g => .pointer (some ⟨g, 0, none⟩)) (does_box rfl rfl) rfl ?_
  intro g2 w3 hS a hA
  refine seq_do hA rfl rfl rfl (does_assign rfl) ?_
  intro a hA
  refine seq_end ?_
  refine hK1 _ _ ?_
  refine wp_seq_k (fun K4 hK4 => ?_)
  refine wp_seq_k (fun K5 hK5 => ?_)
  refine wp_region_lit ?_
  refine seq_do (v := .pointer (some ⟨g2, 1, none⟩)) hA rfl rfl rfl (does_field fld_24_1 rfl rfl) ?_
  intro a hA
  refine seq_do hA rfl rfl rfl (does_load1 hS is1_22 rfl 0 rfl rfl) ?_
  intro a hA
  refine seq_call hA rfl rfl rfl (enters_func  rfl rfl (fun w => by kernel_rfl)) (rsoundB_any _ (hS.rd 1 rfl) l1 ht) ?_
  rintro _ w7 ⟨rfl, hb6⟩
  replace hb6 := below_eq hb6
  replace hS := hS.call hb6
  refine ⟨_, rfl, ?_⟩
  intro a hA
  refine seq_do (v := .bool true) hA rfl rfl rfl (does_un rfl un_not) ?_
  intro a hA
  refine seq_do hA rfl rfl rfl (does_move rfl) ?_
  intro a hA
  refine seq_skip hA rfl rfl rfl ?_
  intro a hA
  refine seq_skip hA rfl rfl rfl ?_
  intro a hA
  refine seq_skip hA rfl rfl rfl ?_
  intro a hA
  refine seq_skip hA rfl rfl rfl ?_
  intro a hA
  refine seq_do (v := .bool true) hA rfl rfl rfl (does_pick rfl rfl rfl rfl) ?_
  intro a hA
  refine seq_do hA rfl rfl rfl (does_move rfl) ?_
  intro a hA
  refine seq_skip hA rfl rfl rfl ?_
  intro a hA
  refine seq_skip hA rfl rfl rfl ?_
  intro a hA
  refine seq_skip hA rfl rfl rfl ?_
  intro a hA
  refine seq_skip hA rfl rfl rfl ?_
  intro a hA
  refine seq_do (v := .bool true) hA rfl rfl rfl (does_pick rfl rfl rfl rfl) ?_
  intro a hA
  refine seq_end ?_
  refine hK5 _ _ ?_
  refine wp_cond_true (hA.ev rfl) ?_
  refine wp_seq_k (fun K8 hK8 => ?_)
  refine wp_region_lit ?_
  refine seq_do hA rfl rfl rfl (does_assign rfl) ?_
  intro a hA
  refine seq_end ?_
  refine hK8 _ _ ?_
  refine wp_ret ?_
  refine hret _ _ ?_
  refine ends (v := .bool false) hA rfl (.cons (res_tmp rfl) .nil) rfl ?_
  exact ⟨rfl, hS.bel⟩
theorem ratSoundB_any {w : World} {b : Bool} {t q : List Nat} {a1 a2 : Option Addr} {ac1 ac2 : Nat} (ha1 : Sc w a1 ac1 t) (ha2 : Sc w a2 ac2 q) (l1 : t.length ≤ 9223372036854775807) (l2 : q.length ≤ 9223372036854775807) (ht : sound t = true) (hq : sound q = false) :
    Calls Try.prog 72 #[.agg #[.bool b, .slice a1 t.length ac1, .slice a2 q.length ac2]] w fun e w' => e = .returned (.bool false) ∧ Below w.heap.size w w' := by
  have hS : St w w [] [(a2, q), (a1, t)] [] := ((St.start w).addR ha1.rd).addR ha2.rd
  refine walk_of (l := [(0, .agg #[.bool b, .slice a1 t.length ac1, .slice a2 q.length ac2])]) Try.func72 rfl Try.ntmps72 rfl rfl ?_
  intro Q hret hnorm hP a hA
  refine wp_seq_k (fun K1 hK1 => ?_)
  refine wp_region_lit ?_
  refine seq_new (vs := [.bool b, .slice a1 t.length ac1, .slice a2 q.length ac2]) (t := 24) hA hS rfl rfl rfl (fun g => .pointer (some ⟨g, 0, none⟩)) (does_box rfl rfl) rfl ?_
  intro g2 w3 hS a hA
  refine seq_do hA rfl rfl rfl (does_assign rfl) ?_
  intro a hA
  refine seq_end ?_
  refine hK1 _ _ ?_
  refine wp_seq_k (fun K4 hK4 => ?_)
  refine wp_seq_k (fun K5 hK5 => ?_)
  refine wp_region_lit ?_
  refine seq_do (v := .pointer (some ⟨g2, 1, none⟩)) hA rfl rfl rfl (does_field fld_24_1 rfl rfl) ?_
  intro a hA
  refine seq_do hA rfl rfl rfl (does_load1 hS is1_22 rfl 0 rfl rfl) ?_
  intro a hA
  refine seq_call hA rfl rfl rfl (enters_func  rfl rfl (fun w => by kernel_rfl)) (rsoundB_any _ (hS.rd 1 rfl) l1 ht) ?_
  rintro _ w7 ⟨rfl, hb6⟩
  replace hb6 := below_eq hb6
  replace hS := hS.call hb6
  refine ⟨_, rfl, ?_⟩
  intro a hA
  refine seq_do (v := .bool false) hA rfl rfl rfl (does_un rfl un_not) ?_
  intro a hA
  refine seq_do hA rfl rfl rfl (does_move rfl) ?_
  intro a hA
  refine seq_do (v := .pointer (some ⟨g2, 2, none⟩)) hA rfl rfl rfl (does_field fld_24_2 rfl rfl) ?_
  intro a hA
  refine seq_do hA rfl rfl rfl (does_load1 hS is1_22 rfl 0 rfl rfl) ?_
  intro a hA
  refine seq_call hA rfl rfl rfl (enters_func  rfl rfl (fun w => by kernel_rfl)) (rsoundB_any _ (hS.rd 0 rfl) l2 hq) ?_
  rintro _ w9 ⟨rfl, hb8⟩
  replace hb8 := below_eq hb8
  replace hS := hS.call hb8
  refine ⟨_, rfl, ?_⟩
  intro a hA
  refine seq_do (v := .bool true) hA rfl rfl rfl (does_un rfl un_not) ?_
  intro a hA
  refine seq_do (v := .bool true) hA rfl rfl rfl (does_pick rfl rfl rfl rfl) ?_
  intro a hA
  refine seq_do hA rfl rfl rfl (does_move rfl) ?_
  intro a hA
  refine seq_skip hA rfl rfl rfl ?_
  intro a hA
  refine seq_skip hA rfl rfl rfl ?_
  intro a hA
  refine seq_skip hA rfl rfl rfl ?_
  intro a hA
  refine seq_skip hA rfl rfl rfl ?_
  intro a hA
  refine seq_do (v := .bool true) hA rfl rfl rfl (does_pick rfl rfl rfl rfl) ?_
  intro a hA
  refine seq_end ?_
  refine hK5 _ _ ?_
  refine wp_cond_true (hA.ev rfl) ?_
  refine wp_seq_k (fun K10 hK10 => ?_)
  refine wp_region_lit ?_
  refine seq_do hA rfl rfl rfl (does_assign rfl) ?_
  intro a hA
  refine seq_end ?_
  refine hK10 _ _ ?_
  refine wp_ret ?_
  refine hret _ _ ?_
  refine ends (v := .bool false) hA rfl (.cons (res_tmp rfl) .nil) rfl ?_
  exact ⟨rfl, hS.bel⟩
theorem ratSound_any {w : World} {b : Bool} {t q : List Nat} {a1 a2 : Option Addr} {ac1 ac2 : Nat} (ha1 : Sc w a1 ac1 t) (ha2 : Sc w a2 ac2 q) (l1 : t.length ≤ 9223372036854775807) (l2 : q.length ≤ 9223372036854775807) {r : Bool} (hr : fracS b t q = r) :
    Calls Try.prog 72 #[.agg #[.bool b, .slice a1 t.length ac1, .slice a2 q.length ac2]] w fun e w' => e = .returned (.bool r) ∧ Below w.heap.size w w' := by
  cases ht : sound t with
  | false =>
    rw [fracS_bad (by rw [ht]; rfl)] at hr
    subst hr
    exact ratSoundA_any ha1 ha2 l1 l2 ht
  | true =>
    cases hq : sound q with
    | false =>
      rw [fracS_bad (by rw [ht, hq]; rfl)] at hr
      subst hr
      exact ratSoundB_any ha1 ha2 l1 l2 ht hq
    | true =>
      obtain ⟨e1, k1⟩ := sound_words ha1.rd.dig ht
      obtain ⟨e2, k2⟩ := sound_words ha2.rd.dig hq
      generalize val t = x at e1
      generalize val q = y at e2
      subst e1 e2
      exact ratSoundW_any ha1 ha2 k1 k2 hr
theorem rsoundQ_any {w : World} {q : Q6} {a1 a2 a3 a4 : Option Addr} {ac1 ac2 ac3 ac4 : Nat} (ha : Nm w q a1 ac1 a2 ac2 a3 ac3 a4 ac4) (hl : LenQ q) {r : Bool} (hr : soundQ q = r) : Calls Try.prog 49 #[numV q a1 ac1 a2 ac2 a3 ac3 a4 ac4] w fun e w' => e = .returned (.bool r) ∧ Below w.heap.size w w' := by
  have hS : St w w [] [(a4, q.q2), (a3, q.t2), (a2, q.q1), (a1, q.t1)] [] := ((((St.start w).addR ha.s1.rd).addR ha.s2.rd).addR ha.s3.rd).addR ha.s4.rd
  refine walk_of (l := [(0, .agg #[.bool q.b1, .slice a1 q.t1.length ac1, .slice a2 q.q1.length ac2, .bool q.b2, .slice a3 q.t2.length ac3, .slice a4 q.q2.length ac4])]) Try.func49 rfl Try.ntmps49 rfl rfl ?_
  intro Q hret hnorm hP a hA
  refine wp_seq_k (fun K1 hK1 => ?_)
  refine wp_region_lit ?_
  refine seq_new (vs := [.bool q.b1, .slice a1 q.t1.length ac1, .slice a2 q.q1.length ac2, .bool q.b2, .slice a3 q.t2.length ac3, .slice a4 q.q2.length ac4]) (t := 26) hA hS rfl rfl rfl (fun g => .pointer (some ⟨g, 0, none⟩)) (does_box rfl rfl) rfl ?_
  intro g2 w3 hS a hA
  refine seq_do hA rfl rfl rfl (does_assign rfl) ?_
  intro a hA
  refine seq_end ?_
  refine hK1 _ _ ?_
  refine wp_seq_k (fun K4 hK4 => ?_)
  refine wp_region_lit ?_
  refine seq_do (v := .pointer (some ⟨g2, 0, none⟩)) hA rfl rfl rfl (does_field fld_26_0 rfl rfl) ?_
  intro a hA
  refine seq_do (v := .agg #[.bool q.b1, .slice a1 q.t1.length ac1, .slice a2 q.q1.length ac2]) hA rfl rfl rfl (does_loadS hS isS_24 rfl 0 rfl (cs := [.bool q.b1, .slice a1 q.t1.length ac1, .slice a2 q.q1.length ac2]) rfl rfl) ?_
  intro a hA
  rcases Bool.eq_false_or_eq_true (fracS q.b1 q.t1 q.q1) with hb5 | hb5
  · refine seq_call hA rfl rfl rfl (enters_func  rfl rfl (fun w => by kernel_rfl)) (ratSound_any ⟨(hS.rd 3 rfl), ha.s1.nil, ha.s1.cap⟩ ⟨(hS.rd 2 rfl), ha.s2.nil, ha.s2.cap⟩ hl.l1 hl.l2 hb5) ?_
    rintro _ w7 ⟨rfl, hb6⟩
    replace hS := hS.call hb6
    refine ⟨_, rfl, ?_⟩
    intro a hA
    refine seq_do hA rfl rfl rfl (does_move rfl) ?_
    intro a hA
    refine seq_do (v := .pointer (some ⟨g2, 3, none⟩)) hA rfl rfl rfl (does_field fld_26_1 rfl rfl) ?_
    intro a hA
    refine seq_do (v := .agg #[.bool q.b2, .slice a3 q.t2.length ac3, .slice a4 q.q2.length ac4]) hA rfl rfl rfl (does_loadS hS isS_24 rfl 0 rfl (cs := [.bool q.b2, .slice a3 q.t2.length ac3, .slice a4 q.q2.length ac4]) rfl rfl) ?_
    intro a hA
    rcases Bool.eq_false_or_eq_true (fracS q.b2 q.t2 q.q2) with hb8 | hb8
    · refine seq_call hA rfl rfl rfl (enters_func  rfl rfl (fun w => by kernel_rfl)) (ratSound_any ⟨(hS.rd 1 rfl), ha.s3.nil, ha.s3.cap⟩ ⟨(hS.rd 0 rfl), ha.s4.nil, ha.s4.cap⟩ hl.l3 hl.l4 hb8) ?_
      rintro _ w10 ⟨rfl, hb9⟩
      replace hS := hS.call hb9
      refine ⟨_, rfl, ?_⟩
      intro a hA
      refine seq_do (v := .bool true) hA rfl rfl rfl (does_pick rfl rfl rfl rfl) ?_
      intro a hA
      refine seq_do hA rfl rfl rfl (does_assign rfl) ?_
      intro a hA
      refine seq_end ?_
      refine hK4 _ _ ?_
      refine wp_ret ?_
      refine hret _ _ ?_
      refine ends (v := .bool true) hA rfl (.cons (res_tmp rfl) .nil) rfl ?_
      subst hr
      exact ⟨by unfold soundQ soundN; rw [hb5, hb8]; try rfl, hS.bel⟩
    · refine seq_call hA rfl rfl rfl (enters_func  rfl rfl (fun w => by kernel_rfl)) (ratSound_any ⟨(hS.rd 1 rfl), ha.s3.nil, ha.s3.cap⟩ ⟨(hS.rd 0 rfl), ha.s4.nil, ha.s4.cap⟩ hl.l3 hl.l4 hb8) ?_
      rintro _ w12 ⟨rfl, hb11⟩
      replace hS := hS.call hb11
      refine ⟨_, rfl, ?_⟩
      intro a hA
      refine seq_do (v := .bool false) hA rfl rfl rfl (does_pick rfl rfl rfl rfl) ?_
      intro a hA
      refine seq_do hA rfl rfl rfl (does_assign rfl) ?_
      intro a hA
      refine seq_end ?_
      refine hK4 _ _ ?_
      refine wp_ret ?_
      refine hret _ _ ?_
      refine ends (v := .bool false) hA rfl (.cons (res_tmp rfl) .nil) rfl ?_
      subst hr
      exact ⟨by unfold soundQ soundN; rw [hb5, hb8]; try rfl, hS.bel⟩
  · refine seq_call hA rfl rfl rfl (enters_func  rfl rfl (fun w => by kernel_rfl)) (ratSound_any ⟨(hS.rd 3 rfl), ha.s1.nil, ha.s1.cap⟩ ⟨(hS.rd 2 rfl), ha.s2.nil, ha.s2.cap⟩ hl.l1 hl.l2 hb5) ?_
    rintro _ w14 ⟨rfl, hb13⟩
    replace hS := hS.call hb13
    refine ⟨_, rfl, ?_⟩
    intro a hA
    refine seq_do hA rfl rfl rfl (does_move rfl) ?_
    intro a hA
    refine seq_skip hA rfl rfl rfl ?_
    intro a hA
    refine seq_skip hA rfl rfl rfl ?_
    intro a hA
    refine seq_skip hA rfl rfl rfl ?_
    intro a hA
    refine seq_do (v := .bool false) hA rfl rfl rfl (does_pick rfl rfl rfl rfl) ?_
    intro a hA
    refine seq_do hA rfl rfl rfl (does_assign rfl) ?_
    intro a hA
    refine seq_end ?_
    refine hK4 _ _ ?_
    refine wp_ret ?_
    refine hret _ _ ?_
    refine ends (v := .bool false) hA rfl (.cons (res_tmp rfl) .nil) rfl ?_
    subst hr
    exact ⟨by unfold soundQ soundN; rw [hb5]; try rfl, hS.bel⟩
theorem rrealQ_any {w : World} {q : Q6} {a1 a2 a3 a4 : Option Addr} {ac1 ac2 ac3 ac4 : Nat} (ha : Nm w q a1 ac1 a2 ac2 a3 ac3 a4 ac4) (hl : LenQ q) {r : Bool} (hr : decide (q.t2.length = 0) = r) : Calls Try.prog 73 #[numV q a1 ac1 a2 ac2 a3 ac3 a4 ac4] w fun e w' => e = .returned (.bool r) ∧ Below w.heap.size w w' := by
  have hS : St w w [] [(a4, q.q2), (a3, q.t2), (a2, q.q1), (a1, q.t1)] [] := ((((St.start w).addR ha.s1.rd).addR ha.s2.rd).addR ha.s3.rd).addR ha.s4.rd
  refine walk_of (l := [(0, .agg #[.bool q.b1, .slice a1 q.t1.length ac1, .slice a2 q.q1.length ac2, .bool q.b2, .slice a3 q.t2.length ac3, .slice a4 q.q2.length ac4])]) Try.func73 rfl Try.ntmps73 rfl rfl ?_
  intro Q hret hnorm hP a hA
  refine wp_seq_k (fun K1 hK1 => ?_)
  refine wp_region_lit ?_
  refine seq_new (vs := [.bool q.b1, .slice a1 q.t1.length ac1, .slice a2 q.q1.length ac2, .bool q.b2, .slice a3 q.t2.length ac3, .slice a4 q.q2.length ac4]) (t := 26) hA hS rfl rfl rfl (fun g => .pointer (some ⟨g, 0, none⟩)) (does_box rfl rfl) rfl ?_
  intro g2 w3 hS a hA
  refine seq_do hA rfl rfl rfl (does_assign rfl) ?_
  intro a hA
  refine seq_end ?_
  refine hK1 _ _ ?_
  refine wp_seq_k (fun K4 hK4 => ?_)
  refine wp_region_lit ?_
  refine seq_do (v := .pointer (some ⟨g2, 3, none⟩)) hA rfl rfl rfl (does_field fld_26_1 rfl rfl) ?_
  intro a hA
  refine seq_do (v := .pointer (some ⟨g2, 4, none⟩)) hA rfl rfl rfl (does_field fld_24_1 rfl rfl) ?_
  intro a hA
  refine seq_do hA rfl rfl rfl (does_load1 hS is1_22 rfl 0 rfl rfl) ?_
  intro a hA
  refine seq_do (v := .int .i64 (((q.t2.length : Nat) : Int))) hA rfl rfl rfl (does_len Try.underlying22 rfl) ?_
  intro a hA
  rcases Bool.eq_false_or_eq_true ((((q.t2.length : Nat) : Int) == 0)) with hb5 | hb5
  · have hb5' := eq_of_beq hb5
    refine seq_do (v := .bool true) hA rfl rfl rfl (does_bin rfl rfl (fun w => (bin_eql w).trans (by rw [hb5]))) ?_
    intro a hA
    refine seq_do hA rfl rfl rfl (does_assign rfl) ?_
    intro a hA
    refine seq_end ?_
    refine hK4 _ _ ?_
    refine wp_ret ?_
    refine hret _ _ ?_
    refine ends (v := .bool true) hA rfl (.cons (res_tmp rfl) .nil) rfl ?_
    subst hr
    exact ⟨by rw [show decide (q.t2.length = 0) = true from decide_eq_true (by omega)], hS.bel⟩
  · have hb5' := ne_of_beq_false hb5
    refine seq_do (v := .bool false) hA rfl rfl rfl (does_bin rfl rfl (fun w => (bin_eql w).trans (by rw [hb5]))) ?_
    intro a hA
    refine seq_do hA rfl rfl rfl (does_assign rfl) ?_
    intro a hA
    refine seq_end ?_
    refine hK4 _ _ ?_
    refine wp_ret ?_
    refine hret _ _ ?_
    refine ends (v := .bool false) hA rfl (.cons (res_tmp rfl) .nil) rfl ?_
    subst hr
    exact ⟨by rw [show decide (q.t2.length = 0) = false from decide_eq_false (by omega)], hS.bel⟩
theorem rwholeQ_any {w : World} {q : Q6} {a1 a2 a3 a4 : Option Addr} {ac1 ac2 ac3 ac4 : Nat} (ha : Nm w q a1 ac1 a2 ac2 a3 ac3 a4 ac4) (hl : LenQ q) {r : Bool} (hr : wholeQ q = r) : Calls Try.prog 50 #[numV q a1 ac1 a2 ac2 a3 ac3 a4 ac4] w fun e w' => e = .returned (.bool r) ∧ Below w.heap.size w w' := by
  have hS : St w w [] [(a4, q.q2), (a3, q.t2), (a2, q.q1), (a1, q.t1)] [] := ((((St.start w).addR ha.s1.rd).addR ha.s2.rd).addR ha.s3.rd).addR ha.s4.rd
  refine walk_of (l := [(0, .agg #[.bool q.b1, .slice a1 q.t1.length ac1, .slice a2 q.q1.length ac2, .bool q.b2, .slice a3 q.t2.length ac3, .slice a4 q.q2.length ac4])]) Try.func50 rfl Try.ntmps50 rfl rfl ?_
  intro Q hret hnorm hP a hA
  refine wp_seq_k (fun K1 hK1 => ?_)
  refine wp_region_lit ?_
  refine seq_new (vs := [.bool q.b1, .slice a1 q.t1.length ac1, .slice a2 q.q1.length ac2, .bool q.b2, .slice a3 q.t2.length ac3, .slice a4 q.q2.length ac4]) (t := 26) hA hS rfl rfl rfl (fun g => .pointer (some ⟨g, 0, none⟩)) (does_box rfl rfl) rfl ?_
  intro g2 w3 hS a hA
  refine seq_do hA rfl rfl rfl (does_assign rfl) ?_
  intro a hA
  refine seq_end ?_
  refine hK1 _ _ ?_
  refine wp_seq_k (fun K4 hK4 => ?_)
  refine wp_region_lit ?_
  refine seq_do (v := .agg #[.bool q.b1, .slice a1 q.t1.length ac1, .slice a2 q.q1.length ac2, .bool q.b2, .slice a3 q.t2.length ac3, .slice a4 q.q2.length ac4]) hA rfl rfl rfl (does_loadS hS isS_26 rfl 0 rfl (cs := [.bool q.b1, .slice a1 q.t1.length ac1, .slice a2 q.q1.length ac2, .bool q.b2, .slice a3 q.t2.length ac3, .slice a4 q.q2.length ac4]) rfl rfl) ?_
  intro a hA
  rcases Bool.eq_false_or_eq_true (soundQ q) with hb5 | hb5
  · refine seq_call hA rfl rfl rfl (enters_func  rfl rfl (fun w => by kernel_rfl)) (rsoundQ_any (show Nm _ _ a1 ac1 a2 ac2 a3 ac3 a4 ac4 from ⟨⟨(hS.rd 3 rfl), ha.s1.nil, ha.s1.cap⟩, ⟨(hS.rd 2 rfl), ha.s2.nil, ha.s2.cap⟩, ⟨(hS.rd 1 rfl), ha.s3.nil, ha.s3.cap⟩, ⟨(hS.rd 0 rfl), ha.s4.nil, ha.s4.cap⟩⟩) hl hb5) ?_
    rintro _ w7 ⟨rfl, hb6⟩
    replace hS := hS.call hb6
    refine ⟨_, rfl, ?_⟩
    intro a hA
    refine seq_do hA rfl rfl rfl (does_move rfl) ?_
    intro a hA
    refine seq_do (v := .agg #[.bool q.b1, .slice a1 q.t1.length ac1, .slice a2 q.q1.length ac2, .bool q.b2, .slice a3 q.t2.length ac3, .slice a4 q.q2.length ac4]) hA rfl rfl rfl (does_loadS hS isS_26 rfl 0 rfl (cs := [.bool q.b1, .slice a1 q.t1.length ac1, .slice a2 q.q1.length ac2, .bool q.b2, .slice a3 q.t2.length ac3, .slice a4 q.q2.length ac4]) rfl rfl) ?_
    intro a hA
    rcases Bool.eq_false_or_eq_true (decide (q.t2.length = 0)) with hb8 | hb8
    · have hb8' := of_decide_eq_true hb8
      refine seq_call hA rfl rfl rfl (enters_func  rfl rfl (fun w => by kernel_rfl)) (rrealQ_any (show Nm _ _ a1 ac1 a2 ac2 a3 ac3 a4 ac4 from ⟨⟨(hS.rd 3 rfl), ha.s1.nil, ha.s1.cap⟩, ⟨(hS.rd 2 rfl), ha.s2.nil, ha.s2.cap⟩, ⟨(hS.rd 1 rfl), ha.s3.nil, ha.s3.cap⟩, ⟨(hS.rd 0 rfl), ha.s4.nil, ha.s4.cap⟩⟩) hl hb8) ?_
      rintro _ w10 ⟨rfl, hb9⟩
      replace hS := hS.call hb9
      refine ⟨_, rfl, ?_⟩
      intro a hA
      refine seq_do (v := .bool true) hA rfl rfl rfl (does_pick rfl rfl rfl rfl) ?_
      intro a hA
      refine seq_do hA rfl rfl rfl (does_move rfl) ?_
      intro a hA
      refine seq_do (v := .pointer (some ⟨g2, 0, none⟩)) hA rfl rfl rfl (does_field fld_26_0 rfl rfl) ?_
      intro a hA
      refine seq_do (v := .pointer (some ⟨g2, 2, none⟩)) hA rfl rfl rfl (does_field fld_24_2 rfl rfl) ?_
      intro a hA
      refine seq_do hA rfl rfl rfl (does_load1 hS is1_22 rfl 0 rfl rfl) ?_
      intro a hA
      refine seq_newU (us := [1]) (t := 41) (m := 1) hA hS rfl rfl rfl (does_buildSlice rfl (by kernel_rfl)) (by first | (simp [Dig]; done) | (intro z hz; simp only [List.mem_singleton] at hz; omega)) ?_
      intro g11 w12 hS a hA
      rcases Bool.eq_false_or_eq_true (decide (q.q1 = [1])) with hb13 | hb13
      · have hb13' := of_decide_eq_true hb13
        refine seq_call hA rfl rfl rfl (enters_func  rfl rfl (fun w => by kernel_rfl)) (rsameB_any _ _ (hS.rd 3 rfl) (hS.rd 0 rfl) hl.l2 (by decide) hb13) ?_
        rintro _ w15 ⟨rfl, hb14⟩
        replace hS := hS.call hb14
        refine ⟨_, rfl, ?_⟩
        intro a hA
        refine seq_do (v := .bool true) hA rfl rfl rfl (does_pick rfl rfl rfl rfl) ?_
        intro a hA
        refine seq_do hA rfl rfl rfl (does_assign rfl) ?_
        intro a hA
        refine seq_end ?_
        refine hK4 _ _ ?_
        refine wp_ret ?_
        refine hret _ _ ?_
        refine ends (v := .bool true) hA rfl (.cons (res_tmp rfl) .nil) rfl ?_
        subst hr
        exact ⟨by unfold wholeQ; rw [hb5, hb8, hb13]; try rfl, hS.bel⟩
      · have hb13' := of_decide_eq_false hb13
        refine seq_call hA rfl rfl rfl (enters_func  rfl rfl (fun w => by kernel_rfl)) (rsameB_any _ _ (hS.rd 3 rfl) (hS.rd 0 rfl) hl.l2 (by decide) hb13) ?_
        rintro _ w17 ⟨rfl, hb16⟩
        replace hS := hS.call hb16
        refine ⟨_, rfl, ?_⟩
        intro a hA
        refine seq_do (v := .bool false) hA rfl rfl rfl (does_pick rfl rfl rfl rfl) ?_
        intro a hA
        refine seq_do hA rfl rfl rfl (does_assign rfl) ?_
        intro a hA
        refine seq_end ?_
        refine hK4 _ _ ?_
        refine wp_ret ?_
        refine hret _ _ ?_
        refine ends (v := .bool false) hA rfl (.cons (res_tmp rfl) .nil) rfl ?_
        subst hr
        exact ⟨by unfold wholeQ; rw [hb5, hb8, hb13]; try rfl, hS.bel⟩
    · have hb8' := of_decide_eq_false hb8
      refine seq_call hA rfl rfl rfl (enters_func  rfl rfl (fun w => by kernel_rfl)) (rrealQ_any (show Nm _ _ a1 ac1 a2 ac2 a3 ac3 a4 ac4 from ⟨⟨(hS.rd 3 rfl), ha.s1.nil, ha.s1.cap⟩, ⟨(hS.rd 2 rfl), ha.s2.nil, ha.s2.cap⟩, ⟨(hS.rd 1 rfl), ha.s3.nil, ha.s3.cap⟩, ⟨(hS.rd 0 rfl), ha.s4.nil, ha.s4.cap⟩⟩) hl hb8) ?_
      rintro _ w19 ⟨rfl, hb18⟩
      replace hS := hS.call hb18
      refine ⟨_, rfl, ?_⟩
      intro a hA
      refine seq_do (v := .bool false) hA rfl rfl rfl (does_pick rfl rfl rfl rfl) ?_
      intro a hA
      refine seq_do hA rfl rfl rfl (does_move rfl) ?_
      intro a hA
      refine seq_skip hA rfl rfl rfl ?_
      intro a hA
      refine seq_skip hA rfl rfl rfl ?_
      intro a hA
      refine seq_skip hA rfl rfl rfl ?_
      intro a hA
      refine seq_skip hA rfl rfl rfl ?_
      intro a hA
      refine seq_skip hA rfl rfl rfl ?_
      intro a hA
      refine seq_do (v := .bool false) hA rfl rfl rfl (does_pick rfl rfl rfl rfl) ?_
      intro a hA
      refine seq_do hA rfl rfl rfl (does_assign rfl) ?_
      intro a hA
      refine seq_end ?_
      refine hK4 _ _ ?_
      refine wp_ret ?_
      refine hret _ _ ?_
      refine ends (v := .bool false) hA rfl (.cons (res_tmp rfl) .nil) rfl ?_
      subst hr
      exact ⟨by unfold wholeQ; rw [hb5, hb8]; try rfl, hS.bel⟩
  · refine seq_call hA rfl rfl rfl (enters_func  rfl rfl (fun w => by kernel_rfl)) (rsoundQ_any (show Nm _ _ a1 ac1 a2 ac2 a3 ac3 a4 ac4 from ⟨⟨(hS.rd 3 rfl), ha.s1.nil, ha.s1.cap⟩, ⟨(hS.rd 2 rfl), ha.s2.nil, ha.s2.cap⟩, ⟨(hS.rd 1 rfl), ha.s3.nil, ha.s3.cap⟩, ⟨(hS.rd 0 rfl), ha.s4.nil, ha.s4.cap⟩⟩) hl hb5) ?_
    rintro _ w21 ⟨rfl, hb20⟩
    replace hS := hS.call hb20
    refine ⟨_, rfl, ?_⟩
    intro a hA
    refine seq_do hA rfl rfl rfl (does_move rfl) ?_
    intro a hA
    refine seq_skip hA rfl rfl rfl ?_
    intro a hA
    refine seq_skip hA rfl rfl rfl ?_
    intro a hA
    refine seq_do (v := .bool false) hA rfl rfl rfl (does_pick rfl rfl rfl rfl) ?_
    intro a hA
    refine seq_do hA rfl rfl rfl (does_move rfl) ?_
    intro a hA
    refine seq_skip hA rfl rfl rfl ?_
    intro a hA
    refine seq_skip hA rfl rfl rfl ?_
    intro a hA
    refine seq_skip hA rfl rfl rfl ?_
    intro a hA
    refine seq_skip hA rfl rfl rfl ?_
    intro a hA
    refine seq_skip hA rfl rfl rfl ?_
    intro a hA
    refine seq_do (v := .bool false) hA rfl rfl rfl (does_pick rfl rfl rfl rfl) ?_
    intro a hA
    refine seq_do hA rfl rfl rfl (does_assign rfl) ?_
    intro a hA
    refine seq_end ?_
    refine hK4 _ _ ?_
    refine wp_ret ?_
    refine hret _ _ ?_
    refine ends (v := .bool false) hA rfl (.cons (res_tmp rfl) .nil) rfl ?_
    subst hr
    exact ⟨by unfold wholeQ; rw [hb5]; try rfl, hS.bel⟩
theorem rcheck1_any {w : World} {q : Q6} {a1 a2 a3 a4 : Option Addr} {ac1 ac2 ac3 ac4 : Nat} (ha : Nm w q a1 ac1 a2 ac2 a3 ac3 a4 ac4) (hl : LenQ q) {g : Nat} (hg : Blk w g [.bool q.b1, .slice a1 q.t1.length ac1, .slice a2 q.q1.length ac2, .bool q.b2, .slice a3 q.t2.length ac3, .slice a4 q.q2.length ac4]) {r : Int} (hr : want1 q = r) : Calls Try.prog 24 #[.slice (some ⟨g, 0, none⟩) 1 1] w fun e w' => e = .returned (.int .i64 r) ∧ Below w.heap.size w w' := by
  have hS : St w w [] [(a4, q.q2), (a3, q.t2), (a2, q.q1), (a1, q.t1)] [] := ((((St.start w).addR ha.s1.rd).addR ha.s2.rd).addR ha.s3.rd).addR ha.s4.rd
  refine walk_of (l := [(0, .slice (some ⟨g, 0, none⟩) 1 1)]) Try.func24 rfl Try.ntmps24 rfl rfl ?_
  intro Q hret hnorm hP a hA
  refine wp_seq_k (fun K1 hK1 => ?_)
  refine wp_region_lit ?_
  refine seq_do hA rfl rfl rfl (does_assign rfl) ?_
  intro a hA
  refine seq_end ?_
  refine hK1 _ _ ?_
  refine wp_seq_k (fun K2 hK2 => ?_)
  refine wp_seq_k (fun K3 hK3 => ?_)
  refine wp_region_lit ?_
  refine seq_do hA rfl rfl rfl (does_assign rfl) ?_
  intro a hA
  refine seq_end ?_
  refine hK3 _ _ ?_
  refine wp_block ?_
  refine wp_loop_rounds 12 ?_
  refine rounds_k (fun K4 hK4 => ?_)
  refine wp_seq_k (fun K5 hK5 => ?_)
  refine wp_seq_k (fun K6 hK6 => ?_)
  refine wp_region_lit ?_
  refine seq_do hA rfl rfl rfl (does_move rfl) ?_
  intro a hA
  refine seq_do hA rfl rfl rfl (does_move rfl) ?_
  intro a hA
  refine seq_do (v := .int .i64 1) hA rfl rfl rfl (does_len Try.underlying44 rfl) ?_
  intro a hA
  refine seq_do (v := .bool true) hA rfl rfl rfl (does_bin rfl rfl (fun w => by kernel_rfl)) ?_
  intro a hA
  refine seq_end ?_
  refine hK6 _ _ ?_
  refine wp_cond_true (hA.ev rfl) ?_
  refine wp_skip ?_
  refine hK5 _ _ ?_
  refine wp_seq_k (fun K7 hK7 => ?_)
  refine wp_block ?_
  refine wp_seq_k (fun K8 hK8 => ?_)
  refine wp_region_lit ?_
  refine seq_do hA rfl rfl rfl (does_move rfl) ?_
  intro a hA
  refine seq_do hA rfl rfl rfl (does_move rfl) ?_
  intro a hA
  refine seq_do (v := .pointer (some ⟨g, 0, none⟩)) hA rfl rfl rfl (does_indexI rfl rfl (fun w => by kernel_rfl)) ?_
  intro a hA
  refine seq_do (v := .agg #[.bool q.b1, .slice a1 q.t1.length ac1, .slice a2 q.q1.length ac2, .bool q.b2, .slice a3 q.t2.length ac3, .slice a4 q.q2.length ac4]) hA rfl rfl rfl (does_loadSF hS hg isS_26 rfl (cs := [.bool q.b1, .slice a1 q.t1.length ac1, .slice a2 q.q1.length ac2, .bool q.b2, .slice a3 q.t2.length ac3, .slice a4 q.q2.length ac4]) rfl rfl) ?_
  intro a hA
  rcases Bool.eq_false_or_eq_true (soundQ q) with hb9 | hb9
  · refine seq_call hA rfl rfl rfl (enters_func  rfl rfl (fun w => by kernel_rfl)) (rsoundQ_any (show Nm _ _ a1 ac1 a2 ac2 a3 ac3 a4 ac4 from ⟨⟨(hS.rd 3 rfl), ha.s1.nil, ha.s1.cap⟩, ⟨(hS.rd 2 rfl), ha.s2.nil, ha.s2.cap⟩, ⟨(hS.rd 1 rfl), ha.s3.nil, ha.s3.cap⟩, ⟨(hS.rd 0 rfl), ha.s4.nil, ha.s4.cap⟩⟩) hl hb9) ?_
    rintro _ w11 ⟨rfl, hb10⟩
    replace hS := hS.call hb10
    refine ⟨_, rfl, ?_⟩
    intro a hA
    refine seq_do (v := .bool false) hA rfl rfl rfl (does_un rfl un_not) ?_
    intro a hA
    refine seq_end ?_
    refine hK8 _ _ ?_
    refine wp_cond_false (hA.ev rfl) ?_
    refine wp_skip ?_
    refine hK7 _ _ ?_
    refine wp_region_lit ?_
    refine seq_do hA rfl rfl rfl (does_move rfl) ?_
    intro a hA
    refine seq_do (v := .int .i64 1) hA rfl rfl rfl (does_bin rfl rfl (fun w => by kernel_rfl)) ?_
    intro a hA
    refine seq_do hA rfl rfl rfl (does_assign rfl) ?_
    intro a hA
    refine seq_end ?_
    refine hK4 _ _ ?_
    refine rounds_k (fun K12 hK12 => ?_)
    refine wp_seq_k (fun K13 hK13 => ?_)
    refine wp_seq_k (fun K14 hK14 => ?_)
    refine wp_region_lit ?_
    refine seq_do hA rfl rfl rfl (does_move rfl) ?_
    intro a hA
    refine seq_do hA rfl rfl rfl (does_move rfl) ?_
    intro a hA
    refine seq_do (v := .int .i64 1) hA rfl rfl rfl (does_len Try.underlying44 rfl) ?_
    intro a hA
    refine seq_do (v := .bool false) hA rfl rfl rfl (does_bin rfl rfl (fun w => by kernel_rfl)) ?_
    intro a hA
    refine seq_end ?_
    refine hK14 _ _ ?_
    refine wp_cond_false (hA.ev rfl) ?_
    refine wp_exit ?_
    refine hK2 _ _ ?_
    refine wp_seq_k (fun K15 hK15 => ?_)
    refine wp_seq_k (fun K16 hK16 => ?_)
    refine wp_region_lit ?_
    refine seq_do hA rfl rfl rfl (does_assign rfl) ?_
    intro a hA
    refine seq_end ?_
    refine hK16 _ _ ?_
    refine wp_block ?_
    refine wp_loop_rounds 12 ?_
    refine rounds_k (fun K17 hK17 => ?_)
    refine wp_seq_k (fun K18 hK18 => ?_)
    refine wp_seq_k (fun K19 hK19 => ?_)
    refine wp_region_lit ?_
    refine seq_do hA rfl rfl rfl (does_move rfl) ?_
    intro a hA
    refine seq_do hA rfl rfl rfl (does_move rfl) ?_
    intro a hA
    refine seq_do (v := .int .i64 1) hA rfl rfl rfl (does_len Try.underlying44 rfl) ?_
    intro a hA
    refine seq_do (v := .bool true) hA rfl rfl rfl (does_bin rfl rfl (fun w => by kernel_rfl)) ?_
    intro a hA
    refine seq_end ?_
    refine hK19 _ _ ?_
    refine wp_cond_true (hA.ev rfl) ?_
    refine wp_skip ?_
    refine hK18 _ _ ?_
    refine wp_seq_k (fun K20 hK20 => ?_)
    refine wp_block ?_
    refine wp_seq_k (fun K21 hK21 => ?_)
    refine wp_region_lit ?_
    refine seq_do hA rfl rfl rfl (does_move rfl) ?_
    intro a hA
    refine seq_do hA rfl rfl rfl (does_move rfl) ?_
    intro a hA
    refine seq_do (v := .pointer (some ⟨g, 0, none⟩)) hA rfl rfl rfl (does_indexI rfl rfl (fun w => by kernel_rfl)) ?_
    intro a hA
    refine seq_do (v := .agg #[.bool q.b1, .slice a1 q.t1.length ac1, .slice a2 q.q1.length ac2, .bool q.b2, .slice a3 q.t2.length ac3, .slice a4 q.q2.length ac4]) hA rfl rfl rfl (does_loadSF hS hg isS_26 rfl (cs := [.bool q.b1, .slice a1 q.t1.length ac1, .slice a2 q.q1.length ac2, .bool q.b2, .slice a3 q.t2.length ac3, .slice a4 q.q2.length ac4]) rfl rfl) ?_
    intro a hA
    rcases Bool.eq_false_or_eq_true (wholeQ q) with hb22 | hb22
    · refine seq_call hA rfl rfl rfl (enters_func  rfl rfl (fun w => by kernel_rfl)) (rwholeQ_any (show Nm _ _ a1 ac1 a2 ac2 a3 ac3 a4 ac4 from ⟨⟨(hS.rd 3 rfl), ha.s1.nil, ha.s1.cap⟩, ⟨(hS.rd 2 rfl), ha.s2.nil, ha.s2.cap⟩, ⟨(hS.rd 1 rfl), ha.s3.nil, ha.s3.cap⟩, ⟨(hS.rd 0 rfl), ha.s4.nil, ha.s4.cap⟩⟩) hl hb22) ?_
      rintro _ w24 ⟨rfl, hb23⟩
      replace hS := hS.call hb23
      refine ⟨_, rfl, ?_⟩
      intro a hA
      refine seq_do (v := .bool false) hA rfl rfl rfl (does_un rfl un_not) ?_
      intro a hA
      refine seq_end ?_
      refine hK21 _ _ ?_
      refine wp_cond_false (hA.ev rfl) ?_
      refine wp_skip ?_
      refine hK20 _ _ ?_
      refine wp_region_lit ?_
      refine seq_do hA rfl rfl rfl (does_move rfl) ?_
      intro a hA
      refine seq_do (v := .int .i64 1) hA rfl rfl rfl (does_bin rfl rfl (fun w => by kernel_rfl)) ?_
      intro a hA
      refine seq_do hA rfl rfl rfl (does_assign rfl) ?_
      intro a hA
      refine seq_end ?_
      refine hK17 _ _ ?_
      refine rounds_k (fun K25 hK25 => ?_)
      refine wp_seq_k (fun K26 hK26 => ?_)
      refine wp_seq_k (fun K27 hK27 => ?_)
      refine wp_region_lit ?_
      refine seq_do hA rfl rfl rfl (does_move rfl) ?_
      intro a hA
      refine seq_do hA rfl rfl rfl (does_move rfl) ?_
      intro a hA
      refine seq_do (v := .int .i64 1) hA rfl rfl rfl (does_len Try.underlying44 rfl) ?_
      intro a hA
      refine seq_do (v := .bool false) hA rfl rfl rfl (does_bin rfl rfl (fun w => by kernel_rfl)) ?_
      intro a hA
      refine seq_end ?_
      refine hK27 _ _ ?_
      refine wp_cond_false (hA.ev rfl) ?_
      refine wp_exit ?_
      refine hK15 _ _ ?_
      refine wp_seq_k (fun K28 hK28 => ?_)
      refine wp_region_lit ?_
      refine seq_do hA rfl rfl rfl (does_assign rfl) ?_
      intro a hA
      refine seq_end ?_
      refine hK28 _ _ ?_
      refine wp_ret ?_
      refine hret _ _ ?_
      refine ends (v := .int .i64 0) hA rfl (.cons (res_tmp rfl) .nil) rfl ?_
      subst hr
      exact ⟨by simp [want1, hb9, hb22], hS.bel⟩
    · refine seq_call hA rfl rfl rfl (enters_func  rfl rfl (fun w => by kernel_rfl)) (rwholeQ_any (show Nm _ _ a1 ac1 a2 ac2 a3 ac3 a4 ac4 from ⟨⟨(hS.rd 3 rfl), ha.s1.nil, ha.s1.cap⟩, ⟨(hS.rd 2 rfl), ha.s2.nil, ha.s2.cap⟩, ⟨(hS.rd 1 rfl), ha.s3.nil, ha.s3.cap⟩, ⟨(hS.rd 0 rfl), ha.s4.nil, ha.s4.cap⟩⟩) hl hb22) ?_
      rintro _ w30 ⟨rfl, hb29⟩
      replace hS := hS.call hb29
      refine ⟨_, rfl, ?_⟩
      intro a hA
      refine seq_do (v := .bool true) hA rfl rfl rfl (does_un rfl un_not) ?_
      intro a hA
      refine seq_end ?_
      refine hK21 _ _ ?_
      refine wp_cond_true (hA.ev rfl) ?_
      refine wp_seq_k (fun K31 hK31 => ?_)
      refine wp_region_lit ?_
      refine seq_do hA rfl rfl rfl (does_assign rfl) ?_
      intro a hA
      refine seq_end ?_
      refine hK31 _ _ ?_
      refine wp_ret ?_
      refine hret _ _ ?_
      refine ends (v := .int .i64 10) hA rfl (.cons (res_tmp rfl) .nil) rfl ?_
      subst hr
      exact ⟨by simp [want1, hb9, hb22], hS.bel⟩
  · refine seq_call hA rfl rfl rfl (enters_func  rfl rfl (fun w => by kernel_rfl)) (rsoundQ_any (show Nm _ _ a1 ac1 a2 ac2 a3 ac3 a4 ac4 from ⟨⟨(hS.rd 3 rfl), ha.s1.nil, ha.s1.cap⟩, ⟨(hS.rd 2 rfl), ha.s2.nil, ha.s2.cap⟩, ⟨(hS.rd 1 rfl), ha.s3.nil, ha.s3.cap⟩, ⟨(hS.rd 0 rfl), ha.s4.nil, ha.s4.cap⟩⟩) hl hb9) ?_
    rintro _ w33 ⟨rfl, hb32⟩
    replace hS := hS.call hb32
    refine ⟨_, rfl, ?_⟩
    intro a hA
    refine seq_do (v := .bool true) hA rfl rfl rfl (does_un rfl un_not) ?_
    intro a hA
    refine seq_end ?_
    refine hK8 _ _ ?_
    refine wp_cond_true (hA.ev rfl) ?_
    refine wp_seq_k (fun K34 hK34 => ?_)
    refine wp_region_lit ?_
    refine seq_do hA rfl rfl rfl (does_assign rfl) ?_
    intro a hA
    refine seq_end ?_
    refine hK34 _ _ ?_
    refine wp_ret ?_
    refine hret _ _ ?_
    refine ends (v := .int .i64 2) hA rfl (.cons (res_tmp rfl) .nil) rfl ?_
    subst hr
    exact ⟨by simp [want1, hb9], hS.bel⟩
theorem rcheck2_any {w : World} {p : Q6} {a1 a2 a3 a4 : Option Addr} {ac1 ac2 ac3 ac4 : Nat} (ha : Nm w p a1 ac1 a2 ac2 a3 ac3 a4 ac4) (hl : LenQ p) {q : Q6} {b1 b2 b3 b4 : Option Addr} {bc1 bc2 bc3 bc4 : Nat} (hb : Nm w q b1 bc1 b2 bc2 b3 bc3 b4 bc4) (hm : LenQ q) {g : Nat} (hg : Blk w g [.bool p.b1, .slice a1 p.t1.length ac1, .slice a2 p.q1.length ac2, .bool p.b2, .slice a3 p.t2.length ac3, .slice a4 p.q2.length ac4, .bool q.b1, .slice b1 q.t1.length bc1, .slice b2 q.q1.length bc2, .bool q.b2, .slice b3 q.t2.length bc3, .slice b4 q.q2.length bc4]) {r : Int} (hr : want2 p q = r) : Calls Try.prog 24 #[.slice (some ⟨g, 0, none⟩) 2 2] w fun e w' => e = .returned (.int .i64 r) ∧ Below w.heap.size w w' := by
  have hS : St w w [] [(b4, q.q2), (b3, q.t2), (b2, q.q1), (b1, q.t1), (a4, p.q2), (a3, p.t2), (a2, p.q1), (a1, p.t1)] [] := ((((((((St.start w).addR ha.s1.rd).addR ha.s2.rd).addR ha.s3.rd).addR ha.s4.rd).addR hb.s1.rd).addR hb.s2.rd).addR hb.s3.rd).addR hb.s4.rd
  refine walk_of (l := [(0, .slice (some ⟨g, 0, none⟩) 2 2)]) Try.func24 rfl Try.ntmps24 rfl rfl ?_
  intro Q hret hnorm hP a hA
  refine wp_seq_k (fun K1 hK1 => ?_)
  refine wp_region_lit ?_
  refine seq_do hA rfl rfl rfl (does_assign rfl) ?_
  intro a hA
  refine seq_end ?_
  refine hK1 _ _ ?_
  refine wp_seq_k (fun K2 hK2 => ?_)
  refine wp_seq_k (fun K3 hK3 => ?_)
  refine wp_region_lit ?_
  refine seq_do hA rfl rfl rfl (does_assign rfl) ?_
  intro a hA
  refine seq_end ?_
  refine hK3 _ _ ?_
  refine wp_block ?_
  refine wp_loop_rounds 12 ?_
  refine rounds_k (fun K4 hK4 => ?_)
  refine wp_seq_k (fun K5 hK5 => ?_)
  refine wp_seq_k (fun K6 hK6 => ?_)
  refine wp_region_lit ?_
  refine seq_do hA rfl rfl rfl (does_move rfl) ?_
  intro a hA
  refine seq_do hA rfl rfl rfl (does_move rfl) ?_
  intro a hA
  refine seq_do (v := .int .i64 2) hA rfl rfl rfl (does_len Try.underlying44 rfl) ?_
  intro a hA
  refine seq_do (v := .bool true) hA rfl rfl rfl (does_bin rfl rfl (fun w => by kernel_rfl)) ?_
  intro a hA
  refine seq_end ?_
  refine hK6 _ _ ?_
  refine wp_cond_true (hA.ev rfl) ?_
  refine wp_skip ?_
  refine hK5 _ _ ?_
  refine wp_seq_k (fun K7 hK7 => ?_)
  refine wp_block ?_
  refine wp_seq_k (fun K8 hK8 => ?_)
  refine wp_region_lit ?_
  refine seq_do hA rfl rfl rfl (does_move rfl) ?_
  intro a hA
  refine seq_do hA rfl rfl rfl (does_move rfl) ?_
  intro a hA
  refine seq_do (v := .pointer (some ⟨g, 0, none⟩)) hA rfl rfl rfl (does_indexI rfl rfl (fun w => by kernel_rfl)) ?_
  intro a hA
  refine seq_do (v := .agg #[.bool p.b1, .slice a1 p.t1.length ac1, .slice a2 p.q1.length ac2, .bool p.b2, .slice a3 p.t2.length ac3, .slice a4 p.q2.length ac4]) hA rfl rfl rfl (does_loadSF hS hg isS_26 rfl (cs := [.bool p.b1, .slice a1 p.t1.length ac1, .slice a2 p.q1.length ac2, .bool p.b2, .slice a3 p.t2.length ac3, .slice a4 p.q2.length ac4]) rfl rfl) ?_
  intro a hA
  rcases Bool.eq_false_or_eq_true (soundQ p) with hb9 | hb9
  · refine seq_call hA rfl rfl rfl (enters_func  rfl rfl (fun w => by kernel_rfl)) (rsoundQ_any (show Nm _ _ a1 ac1 a2 ac2 a3 ac3 a4 ac4 from ⟨⟨(hS.rd 7 rfl), ha.s1.nil, ha.s1.cap⟩, ⟨(hS.rd 6 rfl), ha.s2.nil, ha.s2.cap⟩, ⟨(hS.rd 5 rfl), ha.s3.nil, ha.s3.cap⟩, ⟨(hS.rd 4 rfl), ha.s4.nil, ha.s4.cap⟩⟩) hl hb9) ?_
    rintro _ w11 ⟨rfl, hb10⟩
    replace hS := hS.call hb10
    refine ⟨_, rfl, ?_⟩
    intro a hA
    refine seq_do (v := .bool false) hA rfl rfl rfl (does_un rfl un_not) ?_
    intro a hA
    refine seq_end ?_
    refine hK8 _ _ ?_
    refine wp_cond_false (hA.ev rfl) ?_
    refine wp_skip ?_
    refine hK7 _ _ ?_
    refine wp_region_lit ?_
    refine seq_do hA rfl rfl rfl (does_move rfl) ?_
    intro a hA
    refine seq_do (v := .int .i64 1) hA rfl rfl rfl (does_bin rfl rfl (fun w => by kernel_rfl)) ?_
    intro a hA
    refine seq_do hA rfl rfl rfl (does_assign rfl) ?_
    intro a hA
    refine seq_end ?_
    refine hK4 _ _ ?_
    refine rounds_k (fun K12 hK12 => ?_)
    refine wp_seq_k (fun K13 hK13 => ?_)
    refine wp_seq_k (fun K14 hK14 => ?_)
    refine wp_region_lit ?_
    refine seq_do hA rfl rfl rfl (does_move rfl) ?_
    intro a hA
    refine seq_do hA rfl rfl rfl (does_move rfl) ?_
    intro a hA
    refine seq_do (v := .int .i64 2) hA rfl rfl rfl (does_len Try.underlying44 rfl) ?_
    intro a hA
    refine seq_do (v := .bool true) hA rfl rfl rfl (does_bin rfl rfl (fun w => by kernel_rfl)) ?_
    intro a hA
    refine seq_end ?_
    refine hK14 _ _ ?_
    refine wp_cond_true (hA.ev rfl) ?_
    refine wp_skip ?_
    refine hK13 _ _ ?_
    refine wp_seq_k (fun K15 hK15 => ?_)
    refine wp_block ?_
    refine wp_seq_k (fun K16 hK16 => ?_)
    refine wp_region_lit ?_
    refine seq_do hA rfl rfl rfl (does_move rfl) ?_
    intro a hA
    refine seq_do hA rfl rfl rfl (does_move rfl) ?_
    intro a hA
    refine seq_do (v := .pointer (some ⟨g, 6, none⟩)) hA rfl rfl rfl (does_indexI rfl rfl (fun w => by kernel_rfl)) ?_
    intro a hA
    refine seq_do (v := .agg #[.bool q.b1, .slice b1 q.t1.length bc1, .slice b2 q.q1.length bc2, .bool q.b2, .slice b3 q.t2.length bc3, .slice b4 q.q2.length bc4]) hA rfl rfl rfl (does_loadSF hS hg isS_26 rfl (cs := [.bool q.b1, .slice b1 q.t1.length bc1, .slice b2 q.q1.length bc2, .bool q.b2, .slice b3 q.t2.length bc3, .slice b4 q.q2.length bc4]) rfl rfl) ?_
    intro a hA
    rcases Bool.eq_false_or_eq_true (soundQ q) with hb17 | hb17
    · refine seq_call hA rfl rfl rfl (enters_func  rfl rfl (fun w => by kernel_rfl)) (rsoundQ_any (show Nm _ _ b1 bc1 b2 bc2 b3 bc3 b4 bc4 from ⟨⟨(hS.rd 3 rfl), hb.s1.nil, hb.s1.cap⟩, ⟨(hS.rd 2 rfl), hb.s2.nil, hb.s2.cap⟩, ⟨(hS.rd 1 rfl), hb.s3.nil, hb.s3.cap⟩, ⟨(hS.rd 0 rfl), hb.s4.nil, hb.s4.cap⟩⟩) hm hb17) ?_
      rintro _ w19 ⟨rfl, hb18⟩
      replace hS := hS.call hb18
      refine ⟨_, rfl, ?_⟩
      intro a hA
      refine seq_do (v := .bool false) hA rfl rfl rfl (does_un rfl un_not) ?_
      intro a hA
      refine seq_end ?_
      refine hK16 _ _ ?_
      refine wp_cond_false (hA.ev rfl) ?_
      refine wp_skip ?_
      refine hK15 _ _ ?_
      refine wp_region_lit ?_
      refine seq_do hA rfl rfl rfl (does_move rfl) ?_
      intro a hA
      refine seq_do (v := .int .i64 2) hA rfl rfl rfl (does_bin rfl rfl (fun w => by kernel_rfl)) ?_
      intro a hA
      refine seq_do hA rfl rfl rfl (does_assign rfl) ?_
      intro a hA
      refine seq_end ?_
      refine hK12 _ _ ?_
      refine rounds_k (fun K20 hK20 => ?_)
      refine wp_seq_k (fun K21 hK21 => ?_)
      refine wp_seq_k (fun K22 hK22 => ?_)
      refine wp_region_lit ?_
      refine seq_do hA rfl rfl rfl (does_move rfl) ?_
      intro a hA
      refine seq_do hA rfl rfl rfl (does_move rfl) ?_
      intro a hA
      refine seq_do (v := .int .i64 2) hA rfl rfl rfl (does_len Try.underlying44 rfl) ?_
      intro a hA
      refine seq_do (v := .bool false) hA rfl rfl rfl (does_bin rfl rfl (fun w => by kernel_rfl)) ?_
      intro a hA
      refine seq_end ?_
      refine hK22 _ _ ?_
      refine wp_cond_false (hA.ev rfl) ?_
      refine wp_exit ?_
      refine hK2 _ _ ?_
      refine wp_seq_k (fun K23 hK23 => ?_)
      refine wp_seq_k (fun K24 hK24 => ?_)
      refine wp_region_lit ?_
      refine seq_do hA rfl rfl rfl (does_assign rfl) ?_
      intro a hA
      refine seq_end ?_
      refine hK24 _ _ ?_
      refine wp_block ?_
      refine wp_loop_rounds 12 ?_
      refine rounds_k (fun K25 hK25 => ?_)
      refine wp_seq_k (fun K26 hK26 => ?_)
      refine wp_seq_k (fun K27 hK27 => ?_)
      refine wp_region_lit ?_
      refine seq_do hA rfl rfl rfl (does_move rfl) ?_
      intro a hA
      refine seq_do hA rfl rfl rfl (does_move rfl) ?_
      intro a hA
      refine seq_do (v := .int .i64 2) hA rfl rfl rfl (does_len Try.underlying44 rfl) ?_
      intro a hA
      refine seq_do (v := .bool true) hA rfl rfl rfl (does_bin rfl rfl (fun w => by kernel_rfl)) ?_
      intro a hA
      refine seq_end ?_
      refine hK27 _ _ ?_
      refine wp_cond_true (hA.ev rfl) ?_
      refine wp_skip ?_
      refine hK26 _ _ ?_
      refine wp_seq_k (fun K28 hK28 => ?_)
      refine wp_block ?_
      refine wp_seq_k (fun K29 hK29 => ?_)
      refine wp_region_lit ?_
      refine seq_do hA rfl rfl rfl (does_move rfl) ?_
      intro a hA
      refine seq_do hA rfl rfl rfl (does_move rfl) ?_
      intro a hA
      refine seq_do (v := .pointer (some ⟨g, 0, none⟩)) hA rfl rfl rfl (does_indexI rfl rfl (fun w => by kernel_rfl)) ?_
      intro a hA
      refine seq_do (v := .agg #[.bool p.b1, .slice a1 p.t1.length ac1, .slice a2 p.q1.length ac2, .bool p.b2, .slice a3 p.t2.length ac3, .slice a4 p.q2.length ac4]) hA rfl rfl rfl (does_loadSF hS hg isS_26 rfl (cs := [.bool p.b1, .slice a1 p.t1.length ac1, .slice a2 p.q1.length ac2, .bool p.b2, .slice a3 p.t2.length ac3, .slice a4 p.q2.length ac4]) rfl rfl) ?_
      intro a hA
      rcases Bool.eq_false_or_eq_true (wholeQ p) with hb30 | hb30
      · refine seq_call hA rfl rfl rfl (enters_func  rfl rfl (fun w => by kernel_rfl)) (rwholeQ_any (show Nm _ _ a1 ac1 a2 ac2 a3 ac3 a4 ac4 from ⟨⟨(hS.rd 7 rfl), ha.s1.nil, ha.s1.cap⟩, ⟨(hS.rd 6 rfl), ha.s2.nil, ha.s2.cap⟩, ⟨(hS.rd 5 rfl), ha.s3.nil, ha.s3.cap⟩, ⟨(hS.rd 4 rfl), ha.s4.nil, ha.s4.cap⟩⟩) hl hb30) ?_
        rintro _ w32 ⟨rfl, hb31⟩
        replace hS := hS.call hb31
        refine ⟨_, rfl, ?_⟩
        intro a hA
        refine seq_do (v := .bool false) hA rfl rfl rfl (does_un rfl un_not) ?_
        intro a hA
        refine seq_end ?_
        refine hK29 _ _ ?_
        refine wp_cond_false (hA.ev rfl) ?_
        refine wp_skip ?_
        refine hK28 _ _ ?_
        refine wp_region_lit ?_
        refine seq_do hA rfl rfl rfl (does_move rfl) ?_
        intro a hA
        refine seq_do (v := .int .i64 1) hA rfl rfl rfl (does_bin rfl rfl (fun w => by kernel_rfl)) ?_
        intro a hA
        refine seq_do hA rfl rfl rfl (does_assign rfl) ?_
        intro a hA
        refine seq_end ?_
        refine hK25 _ _ ?_
        refine rounds_k (fun K33 hK33 => ?_)
        refine wp_seq_k (fun K34 hK34 => ?_)
        refine wp_seq_k (fun K35 hK35 => ?_)
        refine wp_region_lit ?_
        refine seq_do hA rfl rfl rfl (does_move rfl) ?_
        intro a hA
        refine seq_do hA rfl rfl rfl (does_move rfl) ?_
        intro a hA
        refine seq_do (v := .int .i64 2) hA rfl rfl rfl (does_len Try.underlying44 rfl) ?_
        intro a hA
        refine seq_do (v := .bool true) hA rfl rfl rfl (does_bin rfl rfl (fun w => by kernel_rfl)) ?_
        intro a hA
        refine seq_end ?_
        refine hK35 _ _ ?_
        refine wp_cond_true (hA.ev rfl) ?_
        refine wp_skip ?_
        refine hK34 _ _ ?_
        refine wp_seq_k (fun K36 hK36 => ?_)
        refine wp_block ?_
        refine wp_seq_k (fun K37 hK37 => ?_)
        refine wp_region_lit ?_
        refine seq_do hA rfl rfl rfl (does_move rfl) ?_
        intro a hA
        refine seq_do hA rfl rfl rfl (does_move rfl) ?_
        intro a hA
        refine seq_do (v := .pointer (some ⟨g, 6, none⟩)) hA rfl rfl rfl (does_indexI rfl rfl (fun w => by kernel_rfl)) ?_
        intro a hA
        refine seq_do (v := .agg #[.bool q.b1, .slice b1 q.t1.length bc1, .slice b2 q.q1.length bc2, .bool q.b2, .slice b3 q.t2.length bc3, .slice b4 q.q2.length bc4]) hA rfl rfl rfl (does_loadSF hS hg isS_26 rfl (cs := [.bool q.b1, .slice b1 q.t1.length bc1, .slice b2 q.q1.length bc2, .bool q.b2, .slice b3 q.t2.length bc3, .slice b4 q.q2.length bc4]) rfl rfl) ?_
        intro a hA
        rcases Bool.eq_false_or_eq_true (wholeQ q) with hb38 | hb38
        · refine seq_call hA rfl rfl rfl (enters_func  rfl rfl (fun w => by kernel_rfl)) (rwholeQ_any (show Nm _ _ b1 bc1 b2 bc2 b3 bc3 b4 bc4 from ⟨⟨(hS.rd 3 rfl), hb.s1.nil, hb.s1.cap⟩, ⟨(hS.rd 2 rfl), hb.s2.nil, hb.s2.cap⟩, ⟨(hS.rd 1 rfl), hb.s3.nil, hb.s3.cap⟩, ⟨(hS.rd 0 rfl), hb.s4.nil, hb.s4.cap⟩⟩) hm hb38) ?_
          rintro _ w40 ⟨rfl, hb39⟩
          replace hS := hS.call hb39
          refine ⟨_, rfl, ?_⟩
          intro a hA
          refine seq_do (v := .bool false) hA rfl rfl rfl (does_un rfl un_not) ?_
          intro a hA
          refine seq_end ?_
          refine hK37 _ _ ?_
          refine wp_cond_false (hA.ev rfl) ?_
          refine wp_skip ?_
          refine hK36 _ _ ?_
          refine wp_region_lit ?_
          refine seq_do hA rfl rfl rfl (does_move rfl) ?_
          intro a hA
          refine seq_do (v := .int .i64 2) hA rfl rfl rfl (does_bin rfl rfl (fun w => by kernel_rfl)) ?_
          intro a hA
          refine seq_do hA rfl rfl rfl (does_assign rfl) ?_
          intro a hA
          refine seq_end ?_
          refine hK33 _ _ ?_
          refine rounds_k (fun K41 hK41 => ?_)
          refine wp_seq_k (fun K42 hK42 => ?_)
          refine wp_seq_k (fun K43 hK43 => ?_)
          refine wp_region_lit ?_
          refine seq_do hA rfl rfl rfl (does_move rfl) ?_
          intro a hA
          refine seq_do hA rfl rfl rfl (does_move rfl) ?_
          intro a hA
          refine seq_do (v := .int .i64 2) hA rfl rfl rfl (does_len Try.underlying44 rfl) ?_
          intro a hA
          refine seq_do (v := .bool false) hA rfl rfl rfl (does_bin rfl rfl (fun w => by kernel_rfl)) ?_
          intro a hA
          refine seq_end ?_
          refine hK43 _ _ ?_
          refine wp_cond_false (hA.ev rfl) ?_
          refine wp_exit ?_
          refine hK23 _ _ ?_
          refine wp_seq_k (fun K44 hK44 => ?_)
          refine wp_region_lit ?_
          refine seq_do hA rfl rfl rfl (does_assign rfl) ?_
          intro a hA
          refine seq_end ?_
          refine hK44 _ _ ?_
          refine wp_ret ?_
          refine hret _ _ ?_
          refine ends (v := .int .i64 0) hA rfl (.cons (res_tmp rfl) .nil) rfl ?_
          subst hr
          exact ⟨by simp [want2, hb9, hb17, hb30, hb38], hS.bel⟩
        · refine seq_call hA rfl rfl rfl (enters_func  rfl rfl (fun w => by kernel_rfl)) (rwholeQ_any (show Nm _ _ b1 bc1 b2 bc2 b3 bc3 b4 bc4 from ⟨⟨(hS.rd 3 rfl), hb.s1.nil, hb.s1.cap⟩, ⟨(hS.rd 2 rfl), hb.s2.nil, hb.s2.cap⟩, ⟨(hS.rd 1 rfl), hb.s3.nil, hb.s3.cap⟩, ⟨(hS.rd 0 rfl), hb.s4.nil, hb.s4.cap⟩⟩) hm hb38) ?_
          rintro _ w46 ⟨rfl, hb45⟩
          replace hS := hS.call hb45
          refine ⟨_, rfl, ?_⟩
          intro a hA
          refine seq_do (v := .bool true) hA rfl rfl rfl (does_un rfl un_not) ?_
          intro a hA
          refine seq_end ?_
          refine hK37 _ _ ?_
          refine wp_cond_true (hA.ev rfl) ?_
          refine wp_seq_k (fun K47 hK47 => ?_)
          refine wp_region_lit ?_
          refine seq_do hA rfl rfl rfl (does_assign rfl) ?_
          intro a hA
          refine seq_end ?_
          refine hK47 _ _ ?_
          refine wp_ret ?_
          refine hret _ _ ?_
          refine ends (v := .int .i64 10) hA rfl (.cons (res_tmp rfl) .nil) rfl ?_
          subst hr
          exact ⟨by simp [want2, hb9, hb17, hb30, hb38], hS.bel⟩
      · refine seq_call hA rfl rfl rfl (enters_func  rfl rfl (fun w => by kernel_rfl)) (rwholeQ_any (show Nm _ _ a1 ac1 a2 ac2 a3 ac3 a4 ac4 from ⟨⟨(hS.rd 7 rfl), ha.s1.nil, ha.s1.cap⟩, ⟨(hS.rd 6 rfl), ha.s2.nil, ha.s2.cap⟩, ⟨(hS.rd 5 rfl), ha.s3.nil, ha.s3.cap⟩, ⟨(hS.rd 4 rfl), ha.s4.nil, ha.s4.cap⟩⟩) hl hb30) ?_
        rintro _ w49 ⟨rfl, hb48⟩
        replace hS := hS.call hb48
        refine ⟨_, rfl, ?_⟩
        intro a hA
        refine seq_do (v := .bool true) hA rfl rfl rfl (does_un rfl un_not) ?_
        intro a hA
        refine seq_end ?_
        refine hK29 _ _ ?_
        refine wp_cond_true (hA.ev rfl) ?_
        refine wp_seq_k (fun K50 hK50 => ?_)
        refine wp_region_lit ?_
        refine seq_do hA rfl rfl rfl (does_assign rfl) ?_
        intro a hA
        refine seq_end ?_
        refine hK50 _ _ ?_
        refine wp_ret ?_
        refine hret _ _ ?_
        refine ends (v := .int .i64 10) hA rfl (.cons (res_tmp rfl) .nil) rfl ?_
        subst hr
        exact ⟨by simp [want2, hb9, hb17, hb30], hS.bel⟩
    · refine seq_call hA rfl rfl rfl (enters_func  rfl rfl (fun w => by kernel_rfl)) (rsoundQ_any (show Nm _ _ b1 bc1 b2 bc2 b3 bc3 b4 bc4 from ⟨⟨(hS.rd 3 rfl), hb.s1.nil, hb.s1.cap⟩, ⟨(hS.rd 2 rfl), hb.s2.nil, hb.s2.cap⟩, ⟨(hS.rd 1 rfl), hb.s3.nil, hb.s3.cap⟩, ⟨(hS.rd 0 rfl), hb.s4.nil, hb.s4.cap⟩⟩) hm hb17) ?_
      rintro _ w52 ⟨rfl, hb51⟩
      replace hS := hS.call hb51
      refine ⟨_, rfl, ?_⟩
      intro a hA
      refine seq_do (v := .bool true) hA rfl rfl rfl (does_un rfl un_not) ?_
      intro a hA
      refine seq_end ?_
      refine hK16 _ _ ?_
      refine wp_cond_true (hA.ev rfl) ?_
      refine wp_seq_k (fun K53 hK53 => ?_)
      refine wp_region_lit ?_
      refine seq_do hA rfl rfl rfl (does_assign rfl) ?_
      intro a hA
      refine seq_end ?_
      refine hK53 _ _ ?_
      refine wp_ret ?_
      refine hret _ _ ?_
      refine ends (v := .int .i64 2) hA rfl (.cons (res_tmp rfl) .nil) rfl ?_
      subst hr
      exact ⟨by simp [want2, hb9, hb17], hS.bel⟩
  · refine seq_call hA rfl rfl rfl (enters_func  rfl rfl (fun w => by kernel_rfl)) (rsoundQ_any (show Nm _ _ a1 ac1 a2 ac2 a3 ac3 a4 ac4 from ⟨⟨(hS.rd 7 rfl), ha.s1.nil, ha.s1.cap⟩, ⟨(hS.rd 6 rfl), ha.s2.nil, ha.s2.cap⟩, ⟨(hS.rd 5 rfl), ha.s3.nil, ha.s3.cap⟩, ⟨(hS.rd 4 rfl), ha.s4.nil, ha.s4.cap⟩⟩) hl hb9) ?_
    rintro _ w55 ⟨rfl, hb54⟩
    replace hS := hS.call hb54
    refine ⟨_, rfl, ?_⟩
    intro a hA
    refine seq_do (v := .bool true) hA rfl rfl rfl (does_un rfl un_not) ?_
    intro a hA
    refine seq_end ?_
    refine hK8 _ _ ?_
    refine wp_cond_true (hA.ev rfl) ?_
    refine wp_seq_k (fun K56 hK56 => ?_)
    refine wp_region_lit ?_
    refine seq_do hA rfl rfl rfl (does_assign rfl) ?_
    intro a hA
    refine seq_end ?_
    refine hK56 _ _ ?_
    refine wp_ret ?_
    refine hret _ _ ?_
    refine ends (v := .int .i64 2) hA rfl (.cons (res_tmp rfl) .nil) rfl ?_
    subst hr
    exact ⟨by simp [want2, hb9], hS.bel⟩
end Go.Proofs.Yteghiinbafbokaa
namespace Go.Proofs.Yteghiinbafbokaa
open Go.RowKit
set_option linter.unusedVariables false
set_option linter.unusedSimpArgs false
set_option maxRecDepth 100000

theorem rminus_any {w : World} {b : Bool} {n1 n2 : Nat} {a1 a2 : Option Addr} {ac1 ac2 : Nat} {r : Bool} (hr : (!b && decide (0 < n1)) = r) : Calls Try.prog 58 #[.agg #[.bool b, .slice a1 n1 ac1, .slice a2 n2 ac2]] w fun e w' => e = .returned (.agg #[.bool r, .slice a1 n1 ac1, .slice a2 n2 ac2]) ∧ Below w.heap.size w w' := by
  cases b
  · have hS : St w w [] [] [] := St.start w
    refine walk_of (l := [(0, .agg #[.bool false, .slice a1 n1 ac1, .slice a2 n2 ac2])]) Try.func58 rfl Try.ntmps58 rfl rfl ?_
    intro Q hret hnorm hP a hA
    refine wp_seq_k (fun K1 hK1 => ?_)
    refine wp_region_lit ?_
    refine seq_new (vs := [.bool false, .slice a1 n1 ac1, .slice a2 n2 ac2]) (t := 24) hA hS rfl rfl rfl (fun g => .pointer (some ⟨g, 0, none⟩)) (does_box rfl rfl) rfl ?_
    intro g2 w3 hS a hA
    refine seq_new (vs := [.bool false, .slice none 0 0, .slice none 0 0]) (t := 24) hA hS rfl rfl rfl (fun g => .pointer (some ⟨g, 0, none⟩)) (does_alloc (z := .agg #[.bool false, .slice none 0 0, .slice none 0 0]) (by kernel_rfl) rfl) rfl ?_
    intro g4 w5 hS a hA
    refine seq_end ?_
    refine hK1 _ _ ?_
    refine wp_seq_k (fun K6 hK6 => ?_)
    refine wp_region_lit ?_
    refine seq_do (v := .pointer (some ⟨g2, 0, none⟩)) hA rfl rfl rfl (does_field fld_24_0 rfl rfl) ?_
    intro a hA
    refine seq_do hA rfl rfl rfl (does_load1 hS is1_4 rfl 1 rfl rfl) ?_
    intro a hA
    refine seq_do (v := .bool true) hA rfl rfl rfl (does_un rfl un_not) ?_
    intro a hA
    refine seq_do hA rfl rfl rfl (does_move rfl) ?_
    intro a hA
    refine seq_do (v := .pointer (some ⟨g2, 1, none⟩)) hA rfl rfl rfl (does_field fld_24_1 rfl rfl) ?_
    intro a hA
    refine seq_do hA rfl rfl rfl (does_load1 hS is1_22 rfl 1 rfl rfl) ?_
    intro a hA
    refine seq_do (v := .int .i64 (((n1 : Nat) : Int))) hA rfl rfl rfl (does_len Try.underlying22 rfl) ?_
    intro a hA
    rcases Bool.eq_false_or_eq_true (decide (0 < ((n1 : Nat) : Int))) with hb7 | hb7
    · have hb7' := of_decide_eq_true hb7
      refine seq_do (v := .bool true) hA rfl rfl rfl (does_bin rfl rfl (fun w => (bin_gtr w).trans (by rw [hb7]))) ?_
      intro a hA
      refine seq_do (v := .bool true) hA rfl rfl rfl (does_pick rfl rfl rfl rfl) ?_
      intro a hA
      refine seq_do (v := .pointer (some ⟨g2, 1, none⟩)) hA rfl rfl rfl (does_field fld_24_1 rfl rfl) ?_
      intro a hA
      refine seq_do hA rfl rfl rfl (does_load1 hS is1_22 rfl 1 rfl rfl) ?_
      intro a hA
      refine seq_do (v := .pointer (some ⟨g2, 2, none⟩)) hA rfl rfl rfl (does_field fld_24_2 rfl rfl) ?_
      intro a hA
      refine seq_do hA rfl rfl rfl (does_load1 hS is1_22 rfl 1 rfl rfl) ?_
      intro a hA
      refine seq_do (v := .agg #[.bool true, .slice a1 n1 ac1, .slice a2 n2 ac2]) hA rfl rfl rfl (does_build rfl (fun w => by kernel_rfl)) ?_
      intro a hA
      refine seq_store (us := [.bool true, .slice a1 n1 ac1, .slice a2 n2 ac2]) hA hS rfl rfl (sets_store (cs := [.bool true, .slice a1 n1 ac1, .slice a2 n2 ac2]) rfl rfl rfl (by kernel_rfl) hS 0 rfl rfl rfl) 0 rfl rfl rfl rfl ?_
      intro w8 hS
      refine seq_end ?_
      refine hK6 _ _ ?_
      refine wp_ret ?_
      refine hret _ _ ?_
      refine ends (v := .agg #[.bool true, .slice a1 n1 ac1, .slice a2 n2 ac2]) hA rfl (.cons (res_cell hS isS_24 rfl 0 rfl (cs := [.bool true, .slice a1 n1 ac1, .slice a2 n2 ac2]) rfl rfl) .nil) rfl ?_
      subst hr
      exact ⟨by rw [show decide (0 < n1) = true from decide_eq_true (by omega)]; rfl, hS.bel⟩
    · have hb7' := of_decide_eq_false hb7
      refine seq_do (v := .bool false) hA rfl rfl rfl (does_bin rfl rfl (fun w => (bin_gtr w).trans (by rw [hb7]))) ?_
      intro a hA
      refine seq_do (v := .bool false) hA rfl rfl rfl (does_pick rfl rfl rfl rfl) ?_
      intro a hA
      refine seq_do (v := .pointer (some ⟨g2, 1, none⟩)) hA rfl rfl rfl (does_field fld_24_1 rfl rfl) ?_
      intro a hA
      refine seq_do hA rfl rfl rfl (does_load1 hS is1_22 rfl 1 rfl rfl) ?_
      intro a hA
      refine seq_do (v := .pointer (some ⟨g2, 2, none⟩)) hA rfl rfl rfl (does_field fld_24_2 rfl rfl) ?_
      intro a hA
      refine seq_do hA rfl rfl rfl (does_load1 hS is1_22 rfl 1 rfl rfl) ?_
      intro a hA
      refine seq_do (v := .agg #[.bool false, .slice a1 n1 ac1, .slice a2 n2 ac2]) hA rfl rfl rfl (does_build rfl (fun w => by kernel_rfl)) ?_
      intro a hA
      refine seq_store (us := [.bool false, .slice a1 n1 ac1, .slice a2 n2 ac2]) hA hS rfl rfl (sets_store (cs := [.bool false, .slice a1 n1 ac1, .slice a2 n2 ac2]) rfl rfl rfl (by kernel_rfl) hS 0 rfl rfl rfl) 0 rfl rfl rfl rfl ?_
      intro w9 hS
      refine seq_end ?_
      refine hK6 _ _ ?_
      refine wp_ret ?_
      refine hret _ _ ?_
      refine ends (v := .agg #[.bool false, .slice a1 n1 ac1, .slice a2 n2 ac2]) hA rfl (.cons (res_cell hS isS_24 rfl 0 rfl (cs := [.bool false, .slice a1 n1 ac1, .slice a2 n2 ac2]) rfl rfl) .nil) rfl ?_
      subst hr
      exact ⟨by rw [show decide (0 < n1) = false from decide_eq_false (by omega)]; rfl, hS.bel⟩
  · have hS : St w w [] [] [] := St.start w
    refine walk_of (l := [(0, .agg #[.bool true, .slice a1 n1 ac1, .slice a2 n2 ac2])]) Try.func58 rfl Try.ntmps58 rfl rfl ?_
    intro Q hret hnorm hP a hA
    refine wp_seq_k (fun K1 hK1 => ?_)
    refine wp_region_lit ?_
    refine seq_new (vs := [.bool true, .slice a1 n1 ac1, .slice a2 n2 ac2]) (t := 24) hA hS rfl rfl rfl (fun g => .pointer (some ⟨g, 0, none⟩)) (does_box rfl rfl) rfl ?_
    intro g2 w3 hS a hA
    refine seq_new (vs := [.bool false, .slice none 0 0, .slice none 0 0]) (t := 24) hA hS rfl rfl rfl (fun g => .pointer (some ⟨g, 0, none⟩)) (does_alloc (z := .agg #[.bool false, .slice none 0 0, .slice none 0 0]) (by kernel_rfl) rfl) rfl ?_
    intro g4 w5 hS a hA
    refine seq_end ?_
    refine hK1 _ _ ?_
    refine wp_seq_k (fun K6 hK6 => ?_)
    refine wp_region_lit ?_
    refine seq_do (v := .pointer (some ⟨g2, 0, none⟩)) hA rfl rfl rfl (does_field fld_24_0 rfl rfl) ?_
    intro a hA
    refine seq_do hA rfl rfl rfl (does_load1 hS is1_4 rfl 1 rfl rfl) ?_
    intro a hA
    refine seq_do (v := .bool false) hA rfl rfl rfl (does_un rfl un_not) ?_
    intro a hA
    refine seq_do hA rfl rfl rfl (does_move rfl) ?_
    intro a hA
    refine seq_skip hA rfl rfl rfl ?_
    intro a hA
    refine seq_skip hA rfl rfl rfl ?_
    intro a hA
    refine seq_skip hA rfl rfl rfl ?_
    intro a hA
    refine seq_skip hA rfl rfl rfl ?_
    intro a hA
    refine seq_do (v := .bool false) hA rfl rfl rfl (does_pick rfl rfl rfl rfl) ?_
    intro a hA
    refine seq_do (v := .pointer (some ⟨g2, 1, none⟩)) hA rfl rfl rfl (does_field fld_24_1 rfl rfl) ?_
    intro a hA
    refine seq_do hA rfl rfl rfl (does_load1 hS is1_22 rfl 1 rfl rfl) ?_
    intro a hA
    refine seq_do (v := .pointer (some ⟨g2, 2, none⟩)) hA rfl rfl rfl (does_field fld_24_2 rfl rfl) ?_
    intro a hA
    refine seq_do hA rfl rfl rfl (does_load1 hS is1_22 rfl 1 rfl rfl) ?_
    intro a hA
    refine seq_do (v := .agg #[.bool false, .slice a1 n1 ac1, .slice a2 n2 ac2]) hA rfl rfl rfl (does_build rfl (fun w => by kernel_rfl)) ?_
    intro a hA
    refine seq_store (us := [.bool false, .slice a1 n1 ac1, .slice a2 n2 ac2]) hA hS rfl rfl (sets_store (cs := [.bool false, .slice a1 n1 ac1, .slice a2 n2 ac2]) rfl rfl rfl (by kernel_rfl) hS 0 rfl rfl rfl) 0 rfl rfl rfl rfl ?_
    intro w7 hS
    refine seq_end ?_
    refine hK6 _ _ ?_
    refine wp_ret ?_
    refine hret _ _ ?_
    refine ends (v := .agg #[.bool false, .slice a1 n1 ac1, .slice a2 n2 ac2]) hA rfl (.cons (res_cell hS isS_24 rfl 0 rfl (cs := [.bool false, .slice a1 n1 ac1, .slice a2 n2 ac2]) rfl rfl) .nil) rfl ?_
    subst hr
    exact ⟨rfl, hS.bel⟩
theorem rrat_any {w : World} (b : Bool) {x d : Nat} {a1 a2 : Option Addr} {ac1 ac2 : Nat} (ha1 : Sc w a1 ac1 (words x)) (ha2 : Sc w a2 ac2 (words d)) (hx : (words x).length ≤ 9000) (hd : (words d).length ≤ 9000) (hd0 : d ≠ 0) : Calls Try.prog 81 #[.bool b, .slice a1 (words x).length ac1, .slice a2 (words d).length ac2] w (AnsF w (b && decide (0 < x / Nat.gcd x d)) (words (x / Nat.gcd x d)) (words (d / Nat.gcd x d))) := by
  cases b
  · have hS : St w w [] [(a2, words d), (a1, words x)] [] := ((St.start w).addR ha1.rd).addR ha2.rd
    refine walk_of (l := [(0, .bool false), (1, .slice a1 ((words x).length) ac1), (2, .slice a2 ((words d).length) ac2)]) Try.func81 rfl Try.ntmps81 rfl rfl ?_
    intro Q hret hnorm hP a hA
    refine wp_seq_k (fun K1 hK1 => ?_)
    refine wp_region_lit ?_
    refine seq_new (vs := [.bool false, .slice none 0 0, .slice none 0 0]) (t := 24) hA hS rfl rfl rfl (fun g => .pointer (some ⟨g, 0, none⟩)) (does_alloc (z := .agg #[.bool false, .slice none 0 0, .slice none 0 0]) (by kernel_rfl) rfl) rfl ?_
    intro g2 w3 hS a hA
    refine seq_end ?_
    refine hK1 _ _ ?_
    refine wp_seq_k (fun K4 hK4 => ?_)
    refine wp_region_lit ?_
    refine seq_do hA rfl rfl rfl (does_move rfl) ?_
    intro a hA
    refine seq_do hA rfl rfl rfl (does_move rfl) ?_
    intro a hA
    refine seq_call hA rfl rfl rfl (enters_func  rfl rfl (fun w => by kernel_rfl)) (rdivisor_any ac1 ac2 (hS.rd 1 rfl) (hS.rd 0 rfl) (by omega) (by omega) ha1.cap ha2.cap ha1.nil ha2.nil) ?_
    rintro _ w9 ⟨ro5, rc6, rfl, ho7, hb8⟩
    replace hS := hS.call hb8
    replace hS := hS.addR ho7.rd
    refine ⟨_, rfl, ?_⟩
    intro a hA
    refine seq_do hA rfl rfl rfl (does_assign rfl) ?_
    intro a hA
    refine seq_end ?_
    refine hK4 _ _ ?_
    refine wp_seq_k (fun K10 hK10 => ?_)
    refine wp_region_lit ?_
    refine seq_do hA rfl rfl rfl (does_move rfl) ?_
    intro a hA
    refine seq_do hA rfl rfl rfl (does_move rfl) ?_
    intro a hA
    refine seq_call hA rfl rfl rfl (enters_func  rfl rfl (fun w => by kernel_rfl)) (over_any (x := x) (y := Nat.gcd x d) _ _ (hS.rd 2 rfl) (hS.rd 0 rfl) hx (gcd_len hd0 hd) (gcd_ne hd0)) ?_
    rintro _ w18 ⟨ro11, rc12, uo13, uc14, rfl, ho15, hp16, hb17⟩
    replace hS := hS.call hb17
    replace hS := hS.addR ho15.rd
    replace hS := hS.addR hp16.rd
    refine ⟨_, rfl, ?_⟩
    intro a hA
    refine seq_do hA rfl rfl rfl (does_move rfl) ?_
    intro a hA
    refine seq_do (v := .slice ro11 ((words (x / (Nat.gcd x d))).length) rc12) hA rfl rfl rfl (does_extract (vs := [.slice ro11 ((words (x / (Nat.gcd x d))).length) rc12, .slice uo13 ((words (x % (Nat.gcd x d))).length) uc14]) rfl rfl) ?_
    intro a hA
    refine seq_do (v := .slice uo13 ((words (x % (Nat.gcd x d))).length) uc14) hA rfl rfl rfl (does_extract (vs := [.slice ro11 ((words (x / (Nat.gcd x d))).length) rc12, .slice uo13 ((words (x % (Nat.gcd x d))).length) uc14]) rfl rfl) ?_
    intro a hA
    refine seq_do hA rfl rfl rfl (does_assign rfl) ?_
    intro a hA
    refine seq_do hA rfl rfl rfl (does_assign rfl) ?_
    intro a hA
    refine seq_end ?_
    refine hK10 _ _ ?_
    refine wp_seq_k (fun K19 hK19 => ?_)
    refine wp_region_lit ?_
    refine seq_do hA rfl rfl rfl (does_move rfl) ?_
    intro a hA
    refine seq_do hA rfl rfl rfl (does_move rfl) ?_
    intro a hA
    refine seq_call hA rfl rfl rfl (enters_func  rfl rfl (fun w => by kernel_rfl)) (over_any (x := d) (y := Nat.gcd x d) _ _ (hS.rd 3 rfl) (hS.rd 2 rfl) hd (gcd_len hd0 hd) (gcd_ne hd0)) ?_
    rintro _ w27 ⟨ro20, rc21, uo22, uc23, rfl, ho24, hp25, hb26⟩
    replace hS := hS.call hb26
    replace hS := hS.addR ho24.rd
    replace hS := hS.addR hp25.rd
    refine ⟨_, rfl, ?_⟩
    intro a hA
    refine seq_do hA rfl rfl rfl (does_move rfl) ?_
    intro a hA
    refine seq_do (v := .slice ro20 ((words (d / (Nat.gcd x d))).length) rc21) hA rfl rfl rfl (does_extract (vs := [.slice ro20 ((words (d / (Nat.gcd x d))).length) rc21, .slice uo22 ((words (d % (Nat.gcd x d))).length) uc23]) rfl rfl) ?_
    intro a hA
    refine seq_do (v := .slice uo22 ((words (d % (Nat.gcd x d))).length) uc23) hA rfl rfl rfl (does_extract (vs := [.slice ro20 ((words (d / (Nat.gcd x d))).length) rc21, .slice uo22 ((words (d % (Nat.gcd x d))).length) uc23]) rfl rfl) ?_
    intro a hA
    refine seq_do hA rfl rfl rfl (does_assign rfl) ?_
    intro a hA
    refine seq_do hA rfl rfl rfl (does_assign rfl) ?_
    intro a hA
    refine seq_end ?_
    refine hK19 _ _ ?_
    refine wp_seq_k (fun K28 hK28 => ?_)
    refine wp_region_lit ?_
    refine seq_do hA rfl rfl rfl (does_move rfl) ?_
    intro a hA
    refine seq_do hA rfl rfl rfl (does_move rfl) ?_
    intro a hA
    refine seq_skip hA rfl rfl rfl ?_
    intro a hA
    refine seq_skip hA rfl rfl rfl ?_
    intro a hA
    refine seq_skip hA rfl rfl rfl ?_
    intro a hA
    refine seq_do (v := .bool false) hA rfl rfl rfl (does_pick rfl rfl rfl rfl) ?_
    intro a hA
    refine seq_do hA rfl rfl rfl (does_move rfl) ?_
    intro a hA
    refine seq_do hA rfl rfl rfl (does_move rfl) ?_
    intro a hA
    refine seq_do (v := .agg #[.bool false, .slice ro11 ((words (x / (Nat.gcd x d))).length) rc12, .slice ro20 ((words (d / (Nat.gcd x d))).length) rc21]) hA rfl rfl rfl (does_build rfl (fun w => by kernel_rfl)) ?_
    intro a hA
    refine seq_store (us := [.bool false, .slice ro11 ((words (x / (Nat.gcd x d))).length) rc12, .slice ro20 ((words (d / (Nat.gcd x d))).length) rc21]) hA hS rfl rfl (sets_store (cs := [.bool false, .slice ro11 ((words (x / (Nat.gcd x d))).length) rc12, .slice ro20 ((words (d / (Nat.gcd x d))).length) rc21]) rfl rfl rfl (by kernel_rfl) hS 0 rfl rfl rfl) 0 rfl rfl rfl rfl ?_
    intro w29 hS
    refine seq_end ?_
    refine hK28 _ _ ?_
    refine wp_ret ?_
    refine hret _ _ ?_
    refine ends (v := .agg #[.bool false, .slice ro11 ((words (x / (Nat.gcd x d))).length) rc12, .slice ro20 ((words (d / (Nat.gcd x d))).length) rc21]) hA rfl (.cons (res_cell hS isS_24 rfl 0 rfl (cs := [.bool false, .slice ro11 ((words (x / (Nat.gcd x d))).length) rc12, .slice ro20 ((words (d / (Nat.gcd x d))).length) rc21]) rfl rfl) .nil) rfl ?_
    exact ⟨ro11, rc12, ro20, rc21, rfl, ⟨(hS.rd 3 rfl), ho15.nocap, ho15.caps⟩, ⟨(hS.rd 1 rfl), ho24.nocap, ho24.caps⟩, hS.bel⟩
  · have hS : St w w [] [(a2, words d), (a1, words x)] [] := ((St.start w).addR ha1.rd).addR ha2.rd
    refine walk_of (l := [(0, .bool true), (1, .slice a1 ((words x).length) ac1), (2, .slice a2 ((words d).length) ac2)]) Try.func81 rfl Try.ntmps81 rfl rfl ?_
    intro Q hret hnorm hP a hA
    refine wp_seq_k (fun K1 hK1 => ?_)
    refine wp_region_lit ?_
    refine seq_new (vs := [.bool false, .slice none 0 0, .slice none 0 0]) (t := 24) hA hS rfl rfl rfl (fun g => .pointer (some ⟨g, 0, none⟩)) (does_alloc (z := .agg #[.bool false, .slice none 0 0, .slice none 0 0]) (by kernel_rfl) rfl) rfl ?_
    intro g2 w3 hS a hA
    refine seq_end ?_
    refine hK1 _ _ ?_
    refine wp_seq_k (fun K4 hK4 => ?_)
    refine wp_region_lit ?_
    refine seq_do hA rfl rfl rfl (does_move rfl) ?_
    intro a hA
    refine seq_do hA rfl rfl rfl (does_move rfl) ?_
    intro a hA
    refine seq_call hA rfl rfl rfl (enters_func  rfl rfl (fun w => by kernel_rfl)) (rdivisor_any ac1 ac2 (hS.rd 1 rfl) (hS.rd 0 rfl) (by omega) (by omega) ha1.cap ha2.cap ha1.nil ha2.nil) ?_
    rintro _ w9 ⟨ro5, rc6, rfl, ho7, hb8⟩
    replace hS := hS.call hb8
    replace hS := hS.addR ho7.rd
    refine ⟨_, rfl, ?_⟩
    intro a hA
    refine seq_do hA rfl rfl rfl (does_assign rfl) ?_
    intro a hA
    refine seq_end ?_
    refine hK4 _ _ ?_
    refine wp_seq_k (fun K10 hK10 => ?_)
    refine wp_region_lit ?_
    refine seq_do hA rfl rfl rfl (does_move rfl) ?_
    intro a hA
    refine seq_do hA rfl rfl rfl (does_move rfl) ?_
    intro a hA
    refine seq_call hA rfl rfl rfl (enters_func  rfl rfl (fun w => by kernel_rfl)) (over_any (x := x) (y := Nat.gcd x d) _ _ (hS.rd 2 rfl) (hS.rd 0 rfl) hx (gcd_len hd0 hd) (gcd_ne hd0)) ?_
    rintro _ w18 ⟨ro11, rc12, uo13, uc14, rfl, ho15, hp16, hb17⟩
    replace hS := hS.call hb17
    replace hS := hS.addR ho15.rd
    replace hS := hS.addR hp16.rd
    refine ⟨_, rfl, ?_⟩
    intro a hA
    refine seq_do hA rfl rfl rfl (does_move rfl) ?_
    intro a hA
    refine seq_do (v := .slice ro11 ((words (x / (Nat.gcd x d))).length) rc12) hA rfl rfl rfl (does_extract (vs := [.slice ro11 ((words (x / (Nat.gcd x d))).length) rc12, .slice uo13 ((words (x % (Nat.gcd x d))).length) uc14]) rfl rfl) ?_
    intro a hA
    refine seq_do (v := .slice uo13 ((words (x % (Nat.gcd x d))).length) uc14) hA rfl rfl rfl (does_extract (vs := [.slice ro11 ((words (x / (Nat.gcd x d))).length) rc12, .slice uo13 ((words (x % (Nat.gcd x d))).length) uc14]) rfl rfl) ?_
    intro a hA
    refine seq_do hA rfl rfl rfl (does_assign rfl) ?_
    intro a hA
    refine seq_do hA rfl rfl rfl (does_assign rfl) ?_
    intro a hA
    refine seq_end ?_
    refine hK10 _ _ ?_
    refine wp_seq_k (fun K19 hK19 => ?_)
    refine wp_region_lit ?_
    refine seq_do hA rfl rfl rfl (does_move rfl) ?_
    intro a hA
    refine seq_do hA rfl rfl rfl (does_move rfl) ?_
    intro a hA
    refine seq_call hA rfl rfl rfl (enters_func  rfl rfl (fun w => by kernel_rfl)) (over_any (x := d) (y := Nat.gcd x d) _ _ (hS.rd 3 rfl) (hS.rd 2 rfl) hd (gcd_len hd0 hd) (gcd_ne hd0)) ?_
    rintro _ w27 ⟨ro20, rc21, uo22, uc23, rfl, ho24, hp25, hb26⟩
    replace hS := hS.call hb26
    replace hS := hS.addR ho24.rd
    replace hS := hS.addR hp25.rd
    refine ⟨_, rfl, ?_⟩
    intro a hA
    refine seq_do hA rfl rfl rfl (does_move rfl) ?_
    intro a hA
    refine seq_do (v := .slice ro20 ((words (d / (Nat.gcd x d))).length) rc21) hA rfl rfl rfl (does_extract (vs := [.slice ro20 ((words (d / (Nat.gcd x d))).length) rc21, .slice uo22 ((words (d % (Nat.gcd x d))).length) uc23]) rfl rfl) ?_
    intro a hA
    refine seq_do (v := .slice uo22 ((words (d % (Nat.gcd x d))).length) uc23) hA rfl rfl rfl (does_extract (vs := [.slice ro20 ((words (d / (Nat.gcd x d))).length) rc21, .slice uo22 ((words (d % (Nat.gcd x d))).length) uc23]) rfl rfl) ?_
    intro a hA
    refine seq_do hA rfl rfl rfl (does_assign rfl) ?_
    intro a hA
    refine seq_do hA rfl rfl rfl (does_assign rfl) ?_
    intro a hA
    refine seq_end ?_
    refine hK19 _ _ ?_
    refine wp_seq_k (fun K28 hK28 => ?_)
    refine wp_region_lit ?_
    refine seq_do hA rfl rfl rfl (does_move rfl) ?_
    intro a hA
    refine seq_do hA rfl rfl rfl (does_move rfl) ?_
    intro a hA
    refine seq_do hA rfl rfl rfl (does_move rfl) ?_
    intro a hA
    refine seq_do (v := .int .i64 ((((words (x / (Nat.gcd x d))).length : Nat) : Int))) hA rfl rfl rfl (does_len Try.underlying22 rfl) ?_
    intro a hA
    rcases Bool.eq_false_or_eq_true (decide (0 < (((words (x / (Nat.gcd x d))).length : Nat) : Int))) with hb29 | hb29
    · have hb29' := of_decide_eq_true hb29
      refine seq_do (v := .bool true) hA rfl rfl rfl (does_bin rfl rfl (fun w => (bin_gtr w).trans (by rw [hb29]))) ?_
      intro a hA
      refine seq_do (v := .bool true) hA rfl rfl rfl (does_pick rfl rfl rfl rfl) ?_
      intro a hA
      refine seq_do hA rfl rfl rfl (does_move rfl) ?_
      intro a hA
      refine seq_do hA rfl rfl rfl (does_move rfl) ?_
      intro a hA
      refine seq_do (v := .agg #[.bool true, .slice ro11 ((words (x / (Nat.gcd x d))).length) rc12, .slice ro20 ((words (d / (Nat.gcd x d))).length) rc21]) hA rfl rfl rfl (does_build rfl (fun w => by kernel_rfl)) ?_
      intro a hA
      refine seq_store (us := [.bool true, .slice ro11 ((words (x / (Nat.gcd x d))).length) rc12, .slice ro20 ((words (d / (Nat.gcd x d))).length) rc21]) hA hS rfl rfl (sets_store (cs := [.bool true, .slice ro11 ((words (x / (Nat.gcd x d))).length) rc12, .slice ro20 ((words (d / (Nat.gcd x d))).length) rc21]) rfl rfl rfl (by kernel_rfl) hS 0 rfl rfl rfl) 0 rfl rfl rfl rfl ?_
      intro w30 hS
      refine seq_end ?_
      refine hK28 _ _ ?_
      refine wp_ret ?_
      refine hret _ _ ?_
      refine ends (v := .agg #[.bool true, .slice ro11 ((words (x / (Nat.gcd x d))).length) rc12, .slice ro20 ((words (d / (Nat.gcd x d))).length) rc21]) hA rfl (.cons (res_cell hS isS_24 rfl 0 rfl (cs := [.bool true, .slice ro11 ((words (x / (Nat.gcd x d))).length) rc12, .slice ro20 ((words (d / (Nat.gcd x d))).length) rc21]) rfl rfl) .nil) rfl ?_
      rw [show decide (0 < x / Nat.gcd x d) = true from decide_eq_true (by have := words_pos_len (x / Nat.gcd x d); omega)]
      exact ⟨ro11, rc12, ro20, rc21, rfl, ⟨(hS.rd 3 rfl), ho15.nocap, ho15.caps⟩, ⟨(hS.rd 1 rfl), ho24.nocap, ho24.caps⟩, hS.bel⟩
    · have hb29' := of_decide_eq_false hb29
      refine seq_do (v := .bool false) hA rfl rfl rfl (does_bin rfl rfl (fun w => (bin_gtr w).trans (by rw [hb29]))) ?_
      intro a hA
      refine seq_do (v := .bool false) hA rfl rfl rfl (does_pick rfl rfl rfl rfl) ?_
      intro a hA
      refine seq_do hA rfl rfl rfl (does_move rfl) ?_
      intro a hA
      refine seq_do hA rfl rfl rfl (does_move rfl) ?_
      intro a hA
      refine seq_do (v := .agg #[.bool false, .slice ro11 ((words (x / (Nat.gcd x d))).length) rc12, .slice ro20 ((words (d / (Nat.gcd x d))).length) rc21]) hA rfl rfl rfl (does_build rfl (fun w => by kernel_rfl)) ?_
      intro a hA
      refine seq_store (us := [.bool false, .slice ro11 ((words (x / (Nat.gcd x d))).length) rc12, .slice ro20 ((words (d / (Nat.gcd x d))).length) rc21]) hA hS rfl rfl (sets_store (cs := [.bool false, .slice ro11 ((words (x / (Nat.gcd x d))).length) rc12, .slice ro20 ((words (d / (Nat.gcd x d))).length) rc21]) rfl rfl rfl (by kernel_rfl) hS 0 rfl rfl rfl) 0 rfl rfl rfl rfl ?_
      intro w31 hS
      refine seq_end ?_
      refine hK28 _ _ ?_
      refine wp_ret ?_
      refine hret _ _ ?_
      refine ends (v := .agg #[.bool false, .slice ro11 ((words (x / (Nat.gcd x d))).length) rc12, .slice ro20 ((words (d / (Nat.gcd x d))).length) rc21]) hA rfl (.cons (res_cell hS isS_24 rfl 0 rfl (cs := [.bool false, .slice ro11 ((words (x / (Nat.gcd x d))).length) rc12, .slice ro20 ((words (d / (Nat.gcd x d))).length) rc21]) rfl rfl) .nil) rfl ?_
      rw [show decide (0 < x / Nat.gcd x d) = false from decide_eq_false (by have := words_pos_len (x / Nat.gcd x d); omega)]
      exact ⟨ro11, rc12, ro20, rc21, rfl, ⟨(hS.rd 3 rfl), ho15.nocap, ho15.caps⟩, ⟨(hS.rd 1 rfl), ho24.nocap, ho24.caps⟩, hS.bel⟩
theorem rratI_any {w : World} (b : Bool) {x d : Nat} {a1 a2 : Option Addr} {ac1 ac2 : Nat} (ha1 : Sc w a1 ac1 (words x)) (ha2 : Sc w a2 ac2 (words d)) (hx : (words x).length ≤ 9000) (hd : (words d).length ≤ 9000) (hd0 : d ≠ 0) {z : Int} (hz : z = sgn b x) : Calls Try.prog 81 #[.bool b, .slice a1 (words x).length ac1, .slice a2 (words d).length ac2] w (AnsF w (rb z) (words (rt z d)) (words (rq z d))) := by
  subst hz
  have h := rrat_any b ha1 ha2 hx hd hd0
  rw [rb_sgn b x d hd0]
  unfold rt rq
  rw [sgn_abs]
  exact h
theorem rsum_any {w : World} {b1 b2 : Bool} {x1 y1 x2 y2 : Nat} {a1 a2 : Option Addr} {ac1 ac2 : Nat} (ha1 : Sc w a1 ac1 (words x1)) (ha2 : Sc w a2 ac2 (words y1)) {u1 u2 : Option Addr} {uc1 uc2 : Nat} (hu1 : Sc w u1 uc1 (words x2)) (hu2 : Sc w u2 uc2 (words y2)) (hx1 : (words x1).length ≤ 3000) (hy1 : (words y1).length ≤ 3000) (hx2 : (words x2).length ≤ 3000) (hy2 : (words y2).length ≤ 3000) (h01 : y1 ≠ 0) (h02 : y2 ≠ 0) :
    Calls Try.prog 57 #[.agg #[.bool b1, .slice a1 (words x1).length ac1, .slice a2 (words y1).length ac2], .agg #[.bool b2, .slice u1 (words x2).length uc1, .slice u2 (words y2).length uc2]] w (AnsF w (rb (sgn b1 x1 * (y2 : Int) + sgn b2 x2 * (y1 : Int))) (words (rt (sgn b1 x1 * (y2 : Int) + sgn b2 x2 * (y1 : Int)) (y1 * y2))) (words (rq (sgn b1 x1 * (y2 : Int) + sgn b2 x2 * (y1 : Int)) (y1 * y2)))) := by
  have k1 := words_mul_length (x := x1) (y := y2) (k := 3000) (m := 3000) hx1 hy2
  have k2 := words_mul_length (x := x2) (y := y1) (k := 3000) (m := 3000) hx2 hy1
  have k3 := words_mul_length (x := y1) (y := y2) (k := 3000) (m := 3000) hy1 hy2
  have k4 := words_add_length (x := x1 * y2) (y := x2 * y1) (k := 6000) k1 k2
  have k5 := words_mono (Nat.sub_le (x1 * y2) (x2 * y1))
  have k6 := words_mono (Nat.sub_le (x2 * y1) (x1 * y2))
  have hd0 : y1 * y2 ≠ 0 := Nat.mul_ne_zero h01 h02
  generalize hZ : sgn b1 x1 * (y2 : Int) + sgn b2 x2 * (y1 : Int) = Z
  rw [sgn_scale, sgn_scale] at hZ
  cases b1 <;> cases b2
  · have hzS : Z = sgn false (x1 * y2 + x2 * y1) := by rw [← hZ]; exact sum_same false _ _
    have hS : St w w [] [(u2, words y2), (u1, words x2), (a2, words y1), (a1, words x1)] [] := ((((St.start w).addR ha1.rd).addR ha2.rd).addR hu1.rd).addR hu2.rd
    refine walk_of (l := [(0, .agg #[.bool false, .slice a1 ((words x1).length) ac1, .slice a2 ((words y1).length) ac2]), (1, .agg #[.bool false, .slice u1 ((words x2).length) uc1, .slice u2 ((words y2).length) uc2])]) Try.func57 rfl Try.ntmps57 rfl rfl ?_
    intro Q hret hnorm hP a hA
    refine wp_seq_k (fun K1 hK1 => ?_)
    refine wp_region_lit ?_
    refine seq_new (vs := [.bool false, .slice a1 ((words x1).length) ac1, .slice a2 ((words y1).length) ac2]) (t := 24) hA hS rfl rfl rfl (fun g => .pointer (some ⟨g, 0, none⟩)) (does_box rfl rfl) rfl ?_
    intro g2 w3 hS a hA
    refine seq_new (vs := [.bool false, .slice u1 ((words x2).length) uc1, .slice u2 ((words y2).length) uc2]) (t := 24) hA hS rfl rfl rfl (fun g => .pointer (some ⟨g, 0, none⟩)) (does_box rfl rfl) rfl ?_
    intro g4 w5 hS a hA
    refine seq_new (vs := [.bool false, .slice none 0 0, .slice none 0 0]) (t := 24) hA hS rfl rfl rfl (fun g => .pointer (some ⟨g, 0, none⟩)) (does_alloc (z := .agg #[.bool false, .slice none 0 0, .slice none 0 0]) (by kernel_rfl) rfl) rfl ?_
    intro g6 w7 hS a hA
    refine seq_end ?_
    refine hK1 _ _ ?_
    refine wp_seq_k (fun K8 hK8 => ?_)
    refine wp_draw (S := fun w1 => St w w1 [(g6, [.bool false, .slice none 0 0, .slice none 0 0]), (g4, [.bool false, .slice u1 ((words x2).length) uc1, .slice u2 ((words y2).length) uc2]), (g2, [.bool false, .slice a1 ((words x1).length) ac1, .slice a2 ((words y1).length) ac2])] [(u2, words y2), (u1, words x2), (a2, words y1), (a1, words x1)] []) (by kernel_rfl) ?_
    replace hS := hS.drew
    refine any_take (v := .pointer (some ⟨g2, 1, none⟩)) hA 0 rfl rfl rfl rfl (by kernel_rfl) (by kernel_rfl) (by kernel_rfl) (fun c a w h => hP c a _ _ w h) (hS.part (.cons_cons _ (.cons_cons _ (.cons_cons _ .slnil))) ⟨⟨0, rfl⟩, ⟨⟨1, rfl⟩, ⟨⟨2, rfl⟩, ⟨⟨3, rfl⟩, trivial⟩⟩⟩⟩ .slnil) (fun w1 hS => does_field fld_24_1 rfl rfl) ?_
    intro a hA
    refine any_take hA 1 rfl rfl rfl rfl (by kernel_rfl) (by kernel_rfl) (by kernel_rfl) (fun c a w h => hP c a _ _ w h) (hS.part (.cons_cons _ (.cons_cons _ (.cons_cons _ .slnil))) ⟨⟨0, rfl⟩, ⟨⟨1, rfl⟩, ⟨⟨2, rfl⟩, ⟨⟨3, rfl⟩, trivial⟩⟩⟩⟩ .slnil) (fun w1 hS => does_load1 hS is1_22 rfl 2 rfl rfl) ?_
    intro a hA
    refine any_take (v := .pointer (some ⟨g4, 2, none⟩)) hA 2 rfl rfl rfl rfl (by kernel_rfl) (by kernel_rfl) (by kernel_rfl) (fun c a w h => hP c a _ _ w h) (hS.part (.cons_cons _ (.cons_cons _ (.cons_cons _ .slnil))) ⟨⟨0, rfl⟩, ⟨⟨1, rfl⟩, ⟨⟨2, rfl⟩, ⟨⟨3, rfl⟩, trivial⟩⟩⟩⟩ .slnil) (fun w1 hS => does_field fld_24_2 rfl rfl) ?_
    intro a hA
    refine any_take hA 3 rfl rfl rfl rfl (by kernel_rfl) (by kernel_rfl) (by kernel_rfl) (fun c a w h => hP c a _ _ w h) (hS.part (.cons_cons _ (.cons_cons _ (.cons_cons _ .slnil))) ⟨⟨0, rfl⟩, ⟨⟨1, rfl⟩, ⟨⟨2, rfl⟩, ⟨⟨3, rfl⟩, trivial⟩⟩⟩⟩ .slnil) (fun w1 hS => does_load1 hS is1_22 rfl 1 rfl rfl) ?_
    intro a hA
    refine any_take (v := .pointer (some ⟨g4, 1, none⟩)) hA 5 rfl rfl rfl rfl (by kernel_rfl) (by kernel_rfl) (by kernel_rfl) (fun c a w h => hP c a _ _ w h) (hS.part (.cons_cons _ (.cons_cons _ (.cons_cons _ .slnil))) ⟨⟨0, rfl⟩, ⟨⟨1, rfl⟩, ⟨⟨2, rfl⟩, ⟨⟨3, rfl⟩, trivial⟩⟩⟩⟩ .slnil) (fun w1 hS => does_field fld_24_1 rfl rfl) ?_
    intro a hA
    refine any_take hA 6 rfl rfl rfl rfl (by kernel_rfl) (by kernel_rfl) (by kernel_rfl) (fun c a w h => hP c a _ _ w h) (hS.part (.cons_cons _ (.cons_cons _ (.cons_cons _ .slnil))) ⟨⟨0, rfl⟩, ⟨⟨1, rfl⟩, ⟨⟨2, rfl⟩, ⟨⟨3, rfl⟩, trivial⟩⟩⟩⟩ .slnil) (fun w1 hS => does_load1 hS is1_22 rfl 1 rfl rfl) ?_
    intro a hA
    refine any_take (v := .pointer (some ⟨g2, 2, none⟩)) hA 7 rfl rfl rfl rfl (by kernel_rfl) (by kernel_rfl) (by kernel_rfl) (fun c a w h => hP c a _ _ w h) (hS.part (.cons_cons _ (.cons_cons _ (.cons_cons _ .slnil))) ⟨⟨0, rfl⟩, ⟨⟨1, rfl⟩, ⟨⟨2, rfl⟩, ⟨⟨3, rfl⟩, trivial⟩⟩⟩⟩ .slnil) (fun w1 hS => does_field fld_24_2 rfl rfl) ?_
    intro a hA
    refine any_take hA 8 rfl rfl rfl rfl (by kernel_rfl) (by kernel_rfl) (by kernel_rfl) (fun c a w h => hP c a _ _ w h) (hS.part (.cons_cons _ (.cons_cons _ (.cons_cons _ .slnil))) ⟨⟨0, rfl⟩, ⟨⟨1, rfl⟩, ⟨⟨2, rfl⟩, ⟨⟨3, rfl⟩, trivial⟩⟩⟩⟩ .slnil) (fun w1 hS => does_load1 hS is1_22 rfl 2 rfl rfl) ?_
    intro a hA
    refine any_one (by kernel_rfl) (op_call hA 4 rfl rfl rfl rfl (enters_func  rfl rfl (fun w => by kernel_rfl)) (rtimes_any _ _ (hS.rd 3 rfl) (hS.rd 0 rfl) (by omega) (by omega)) ?_)
    rintro _ w13 ⟨ro9, rc10, rfl, ho11, hb12⟩
    replace hS := hS.call hb12
    replace hS := hS.addR ho11.rd
    refine ⟨_, rfl, (hS.part (.cons_cons _ (.cons_cons _ (.cons_cons _ .slnil))) ⟨⟨1, rfl⟩, ⟨⟨2, rfl⟩, ⟨⟨3, rfl⟩, ⟨⟨4, rfl⟩, trivial⟩⟩⟩⟩ .slnil), ?_⟩
    intro a hA
    refine any_one (by kernel_rfl) (op_call hA 9 rfl rfl rfl rfl (enters_func  rfl rfl (fun w => by kernel_rfl)) (rtimes_any _ _ (hS.rd 2 rfl) (hS.rd 3 rfl) (by omega) (by omega)) ?_)
    rintro _ w18 ⟨ro14, rc15, rfl, ho16, hb17⟩
    replace hS := hS.call hb17
    replace hS := hS.addR ho16.rd
    refine ⟨_, rfl, (hS.part (.cons_cons _ (.cons_cons _ (.cons_cons _ .slnil))) ⟨⟨2, rfl⟩, ⟨⟨3, rfl⟩, ⟨⟨4, rfl⟩, ⟨⟨5, rfl⟩, trivial⟩⟩⟩⟩ .slnil), ?_⟩
    intro a hA
    refine any_take hA 10 rfl rfl rfl rfl (by kernel_rfl) (by kernel_rfl) (by kernel_rfl) (fun c a w h => hP c a _ _ w h) (hS.part (.cons_cons _ (.cons_cons _ (.cons_cons _ .slnil))) ⟨⟨2, rfl⟩, ⟨⟨3, rfl⟩, ⟨⟨4, rfl⟩, ⟨⟨5, rfl⟩, trivial⟩⟩⟩⟩ .slnil) (fun w1 hS => does_assign rfl) ?_
    intro a hA
    refine any_take hA 11 rfl rfl rfl rfl (by kernel_rfl) (by kernel_rfl) (by kernel_rfl) (fun c a w h => hP c a _ _ w h) (hS.part (.cons_cons _ (.cons_cons _ (.cons_cons _ .slnil))) ⟨⟨2, rfl⟩, ⟨⟨3, rfl⟩, ⟨⟨4, rfl⟩, ⟨⟨5, rfl⟩, trivial⟩⟩⟩⟩ .slnil) (fun w1 hS => does_assign rfl) ?_
    intro a hA
    refine any_end (by kernel_rfl) ?_
    refine hK8 _ _ ?_
    refine wp_seq_k (fun K19 hK19 => ?_)
    refine wp_region_lit ?_
    refine seq_do (v := .pointer (some ⟨g2, 2, none⟩)) hA rfl rfl rfl (does_field fld_24_2 rfl rfl) ?_
    intro a hA
    refine seq_do hA rfl rfl rfl (does_load1 hS is1_22 rfl 2 rfl rfl) ?_
    intro a hA
    refine seq_do (v := .pointer (some ⟨g4, 2, none⟩)) hA rfl rfl rfl (does_field fld_24_2 rfl rfl) ?_
    intro a hA
    refine seq_do hA rfl rfl rfl (does_load1 hS is1_22 rfl 1 rfl rfl) ?_
    intro a hA
    refine seq_call hA rfl rfl rfl (enters_func  rfl rfl (fun w => by kernel_rfl)) (rtimes_any _ _ (hS.rd 4 rfl) (hS.rd 2 rfl) (by omega) (by omega)) ?_
    rintro _ w24 ⟨ro20, rc21, rfl, ho22, hb23⟩
    replace hS := hS.call hb23
    replace hS := hS.addR ho22.rd
    refine ⟨_, rfl, ?_⟩
    intro a hA
    refine seq_do hA rfl rfl rfl (does_assign rfl) ?_
    intro a hA
    refine seq_end ?_
    refine hK19 _ _ ?_
    refine wp_seq_k (fun K25 hK25 => ?_)
    refine wp_seq_k (fun K26 hK26 => ?_)
    refine wp_region_lit ?_
    refine seq_do (v := .pointer (some ⟨g2, 0, none⟩)) hA rfl rfl rfl (does_field fld_24_0 rfl rfl) ?_
    intro a hA
    refine seq_do hA rfl rfl rfl (does_load1 hS is1_4 rfl 2 rfl rfl) ?_
    intro a hA
    refine seq_do (v := .pointer (some ⟨g4, 0, none⟩)) hA rfl rfl rfl (does_field fld_24_0 rfl rfl) ?_
    intro a hA
    refine seq_do hA rfl rfl rfl (does_load1 hS is1_4 rfl 1 rfl rfl) ?_
    intro a hA
    refine seq_do (v := .bool true) hA rfl rfl rfl (does_bin rfl rfl (bin_eqlB Try.underlying4)) ?_
    intro a hA
    refine seq_end ?_
    refine hK26 _ _ ?_
    refine wp_cond_true (hA.ev rfl) ?_
    refine wp_seq_k (fun K27 hK27 => ?_)
    refine wp_draw (S := fun w1 => St w w1 [(g4, [.bool false, .slice u1 ((words x2).length) uc1, .slice u2 ((words y2).length) uc2]), (g2, [.bool false, .slice a1 ((words x1).length) ac1, .slice a2 ((words y1).length) ac2])] [(ro20, words (y1 * y2)), (ro14, words (x2 * y1)), (ro9, words (x1 * y2)), (u2, words y2), (u1, words x2), (a2, words y1), (a1, words x1)] []) (by kernel_rfl) ?_
    replace hS := hS.drew
    refine any_take (v := .pointer (some ⟨g2, 0, none⟩)) hA 0 rfl rfl rfl rfl (by kernel_rfl) (by kernel_rfl) (by kernel_rfl) (fun c a w h => hP c a _ _ w h) (hS.part (.cons _ (.cons_cons _ (.cons_cons _ .slnil))) ⟨⟨0, rfl⟩, ⟨⟨1, rfl⟩, ⟨⟨2, rfl⟩, ⟨⟨3, rfl⟩, ⟨⟨4, rfl⟩, ⟨⟨5, rfl⟩, ⟨⟨6, rfl⟩, trivial⟩⟩⟩⟩⟩⟩⟩ .slnil) (fun w1 hS => does_field fld_24_0 rfl rfl) ?_
    intro a hA
    refine any_take hA 1 rfl rfl rfl rfl (by kernel_rfl) (by kernel_rfl) (by kernel_rfl) (fun c a w h => hP c a _ _ w h) (hS.part (.cons _ (.cons_cons _ (.cons_cons _ .slnil))) ⟨⟨0, rfl⟩, ⟨⟨1, rfl⟩, ⟨⟨2, rfl⟩, ⟨⟨3, rfl⟩, ⟨⟨4, rfl⟩, ⟨⟨5, rfl⟩, ⟨⟨6, rfl⟩, trivial⟩⟩⟩⟩⟩⟩⟩ .slnil) (fun w1 hS => does_load1 hS is1_4 rfl 1 rfl rfl) ?_
    intro a hA
    refine any_take hA 2 rfl rfl rfl rfl (by kernel_rfl) (by kernel_rfl) (by kernel_rfl) (fun c a w h => hP c a _ _ w h) (hS.part (.cons _ (.cons_cons _ (.cons_cons _ .slnil))) ⟨⟨0, rfl⟩, ⟨⟨1, rfl⟩, ⟨⟨2, rfl⟩, ⟨⟨3, rfl⟩, ⟨⟨4, rfl⟩, ⟨⟨5, rfl⟩, ⟨⟨6, rfl⟩, trivial⟩⟩⟩⟩⟩⟩⟩ .slnil) (fun w1 hS => does_move rfl) ?_
    intro a hA
    refine any_take hA 3 rfl rfl rfl rfl (by kernel_rfl) (by kernel_rfl) (by kernel_rfl) (fun c a w h => hP c a _ _ w h) (hS.part (.cons _ (.cons_cons _ (.cons_cons _ .slnil))) ⟨⟨0, rfl⟩, ⟨⟨1, rfl⟩, ⟨⟨2, rfl⟩, ⟨⟨3, rfl⟩, ⟨⟨4, rfl⟩, ⟨⟨5, rfl⟩, ⟨⟨6, rfl⟩, trivial⟩⟩⟩⟩⟩⟩⟩ .slnil) (fun w1 hS => does_move rfl) ?_
    intro a hA
    refine any_take hA 5 rfl rfl rfl rfl (by kernel_rfl) (by kernel_rfl) (by kernel_rfl) (fun c a w h => hP c a _ _ w h) (hS.part (.cons _ (.cons_cons _ (.cons_cons _ .slnil))) ⟨⟨0, rfl⟩, ⟨⟨1, rfl⟩, ⟨⟨2, rfl⟩, ⟨⟨3, rfl⟩, ⟨⟨4, rfl⟩, ⟨⟨5, rfl⟩, ⟨⟨6, rfl⟩, trivial⟩⟩⟩⟩⟩⟩⟩ .slnil) (fun w1 hS => does_move rfl) ?_
    intro a hA
    refine any_one (by kernel_rfl) (op_call hA 4 rfl rfl rfl rfl (enters_func  rfl rfl (fun w => by kernel_rfl)) (plus_any _ _ (hS.rd 2 rfl) (hS.rd 1 rfl) (by omega) (by omega)) ?_)
    rintro _ w32 ⟨ro28, rc29, rfl, ho30, hb31⟩
    replace hS := hS.call hb31
    replace hS := hS.addR ho30.rd
    refine ⟨_, rfl, (hS.part (.cons _ (.cons_cons _ (.cons_cons _ .slnil))) ⟨⟨1, rfl⟩, ⟨⟨2, rfl⟩, ⟨⟨3, rfl⟩, ⟨⟨4, rfl⟩, ⟨⟨5, rfl⟩, ⟨⟨6, rfl⟩, ⟨⟨7, rfl⟩, trivial⟩⟩⟩⟩⟩⟩⟩ .slnil), ?_⟩
    intro a hA
    refine any_one (by kernel_rfl) (op_call hA 6 rfl rfl rfl rfl (enters_func  rfl rfl (fun w => by kernel_rfl)) (rratI_any false ⟨(hS.rd 0 rfl), ho30.nocap, ho30.caps⟩ ⟨(hS.rd 1 rfl), ho22.nocap, ho22.caps⟩ (by omega) (by omega) hd0 (z := Z) hzS) ?_)
    rintro _ w37 ⟨f33_1, f33_c1, f33_2, f33_c2, rfl, hs34, hs35, hb36⟩
    replace hS := hS.call hb36
    replace hS := hS.addR hs34.rd
    replace hS := hS.addR hs35.rd
    refine ⟨_, rfl, (hS.part (.cons _ (.cons_cons _ (.cons_cons _ .slnil))) ⟨⟨3, rfl⟩, ⟨⟨4, rfl⟩, ⟨⟨5, rfl⟩, ⟨⟨6, rfl⟩, ⟨⟨7, rfl⟩, ⟨⟨8, rfl⟩, ⟨⟨9, rfl⟩, trivial⟩⟩⟩⟩⟩⟩⟩ .slnil), ?_⟩
    intro a hA
    refine any_one (by kernel_rfl) (op_store (us := [.bool (rb Z), .slice f33_1 ((words (rt Z (y1 * y2))).length) f33_c1, .slice f33_2 ((words (rq Z (y1 * y2))).length) f33_c2]) hA hS 7 rfl rfl rfl (sets_store (cs := [.bool (rb Z), .slice f33_1 ((words (rt Z (y1 * y2))).length) f33_c1, .slice f33_2 ((words (rq Z (y1 * y2))).length) f33_c2]) rfl rfl rfl (by kernel_rfl) hS 0 rfl rfl rfl) 0 rfl rfl rfl rfl ?_)
    intro w38 hS
    refine ⟨(hS.part (.cons _ (.cons_cons _ (.cons_cons _ .slnil))) ⟨⟨3, rfl⟩, ⟨⟨4, rfl⟩, ⟨⟨5, rfl⟩, ⟨⟨6, rfl⟩, ⟨⟨7, rfl⟩, ⟨⟨8, rfl⟩, ⟨⟨9, rfl⟩, trivial⟩⟩⟩⟩⟩⟩⟩ .slnil), ?_⟩
    refine any_end (by kernel_rfl) ?_
    refine hK27 _ _ ?_
    refine wp_ret ?_
    refine hret _ _ ?_
    refine ends (v := .agg #[.bool (rb Z), .slice f33_1 ((words (rt Z (y1 * y2))).length) f33_c1, .slice f33_2 ((words (rq Z (y1 * y2))).length) f33_c2]) hA rfl (.cons (res_cell hS isS_24 rfl 0 rfl (cs := [.bool (rb Z), .slice f33_1 ((words (rt Z (y1 * y2))).length) f33_c1, .slice f33_2 ((words (rq Z (y1 * y2))).length) f33_c2]) rfl rfl) .nil) rfl ?_
    exact ⟨f33_1, f33_c1, f33_2, f33_c2, rfl, ⟨(hS.rd 1 rfl), hs34.nil, hs34.cap⟩, ⟨(hS.rd 0 rfl), hs35.nil, hs35.cap⟩, hS.bel⟩
  · have hzD1 : x2 * y1 ≤ x1 * y2 → Z = sgn false (x1 * y2 - x2 * y1) := fun h => by rw [← hZ]; exact sum_more false h
    have hzD2 : ¬ x2 * y1 ≤ x1 * y2 → Z = sgn true (x2 * y1 - x1 * y2) := fun h => by rw [← hZ, Int.add_comm]; exact sum_more true (by omega)
    have hS : St w w [] [(u2, words y2), (u1, words x2), (a2, words y1), (a1, words x1)] [] := ((((St.start w).addR ha1.rd).addR ha2.rd).addR hu1.rd).addR hu2.rd
    refine walk_of (l := [(0, .agg #[.bool false, .slice a1 ((words x1).length) ac1, .slice a2 ((words y1).length) ac2]), (1, .agg #[.bool true, .slice u1 ((words x2).length) uc1, .slice u2 ((words y2).length) uc2])]) Try.func57 rfl Try.ntmps57 rfl rfl ?_
    intro Q hret hnorm hP a hA
    refine wp_seq_k (fun K1 hK1 => ?_)
    refine wp_region_lit ?_
    refine seq_new (vs := [.bool false, .slice a1 ((words x1).length) ac1, .slice a2 ((words y1).length) ac2]) (t := 24) hA hS rfl rfl rfl (fun g => .pointer (some ⟨g, 0, none⟩)) (does_box rfl rfl) rfl ?_
    intro g2 w3 hS a hA
    refine seq_new (vs := [.bool true, .slice u1 ((words x2).length) uc1, .slice u2 ((words y2).length) uc2]) (t := 24) hA hS rfl rfl rfl (fun g => .pointer (some ⟨g, 0, none⟩)) (does_box rfl rfl) rfl ?_
    intro g4 w5 hS a hA
    refine seq_new (vs := [.bool false, .slice none 0 0, .slice none 0 0]) (t := 24) hA hS rfl rfl rfl (fun g => .pointer (some ⟨g, 0, none⟩)) (does_alloc (z := .agg #[.bool false, .slice none 0 0, .slice none 0 0]) (by kernel_rfl) rfl) rfl ?_
    intro g6 w7 hS a hA
    refine seq_end ?_
    refine hK1 _ _ ?_
    refine wp_seq_k (fun K8 hK8 => ?_)
    refine wp_draw (S := fun w1 => St w w1 [(g6, [.bool false, .slice none 0 0, .slice none 0 0]), (g4, [.bool true, .slice u1 ((words x2).length) uc1, .slice u2 ((words y2).length) uc2]), (g2, [.bool false, .slice a1 ((words x1).length) ac1, .slice a2 ((words y1).length) ac2])] [(u2, words y2), (u1, words x2), (a2, words y1), (a1, words x1)] []) (by kernel_rfl) ?_
    replace hS := hS.drew
    refine any_take (v := .pointer (some ⟨g2, 1, none⟩)) hA 0 rfl rfl rfl rfl (by kernel_rfl) (by kernel_rfl) (by kernel_rfl) (fun c a w h => hP c a _ _ w h) (hS.part (.cons_cons _ (.cons_cons _ (.cons_cons _ .slnil))) ⟨⟨0, rfl⟩, ⟨⟨1, rfl⟩, ⟨⟨2, rfl⟩, ⟨⟨3, rfl⟩, trivial⟩⟩⟩⟩ .slnil) (fun w1 hS => does_field fld_24_1 rfl rfl) ?_
    intro a hA
    refine any_take hA 1 rfl rfl rfl rfl (by kernel_rfl) (by kernel_rfl) (by kernel_rfl) (fun c a w h => hP c a _ _ w h) (hS.part (.cons_cons _ (.cons_cons _ (.cons_cons _ .slnil))) ⟨⟨0, rfl⟩, ⟨⟨1, rfl⟩, ⟨⟨2, rfl⟩, ⟨⟨3, rfl⟩, trivial⟩⟩⟩⟩ .slnil) (fun w1 hS => does_load1 hS is1_22 rfl 2 rfl rfl) ?_
    intro a hA
    refine any_take (v := .pointer (some ⟨g4, 2, none⟩)) hA 2 rfl rfl rfl rfl (by kernel_rfl) (by kernel_rfl) (by kernel_rfl) (fun c a w h => hP c a _ _ w h) (hS.part (.cons_cons _ (.cons_cons _ (.cons_cons _ .slnil))) ⟨⟨0, rfl⟩, ⟨⟨1, rfl⟩, ⟨⟨2, rfl⟩, ⟨⟨3, rfl⟩, trivial⟩⟩⟩⟩ .slnil) (fun w1 hS => does_field fld_24_2 rfl rfl) ?_
    intro a hA
    refine any_take hA 3 rfl rfl rfl rfl (by kernel_rfl) (by kernel_rfl) (by kernel_rfl) (fun c a w h => hP c a _ _ w h) (hS.part (.cons_cons _ (.cons_cons _ (.cons_cons _ .slnil))) ⟨⟨0, rfl⟩, ⟨⟨1, rfl⟩, ⟨⟨2, rfl⟩, ⟨⟨3, rfl⟩, trivial⟩⟩⟩⟩ .slnil) (fun w1 hS => does_load1 hS is1_22 rfl 1 rfl rfl) ?_
    intro a hA
    refine any_take (v := .pointer (some ⟨g4, 1, none⟩)) hA 5 rfl rfl rfl rfl (by kernel_rfl) (by kernel_rfl) (by kernel_rfl) (fun c a w h => hP c a _ _ w h) (hS.part (.cons_cons _ (.cons_cons _ (.cons_cons _ .slnil))) ⟨⟨0, rfl⟩, ⟨⟨1, rfl⟩, ⟨⟨2, rfl⟩, ⟨⟨3, rfl⟩, trivial⟩⟩⟩⟩ .slnil) (fun w1 hS => does_field fld_24_1 rfl rfl) ?_
    intro a hA
    refine any_take hA 6 rfl rfl rfl rfl (by kernel_rfl) (by kernel_rfl) (by kernel_rfl) (fun c a w h => hP c a _ _ w h) (hS.part (.cons_cons _ (.cons_cons _ (.cons_cons _ .slnil))) ⟨⟨0, rfl⟩, ⟨⟨1, rfl⟩, ⟨⟨2, rfl⟩, ⟨⟨3, rfl⟩, trivial⟩⟩⟩⟩ .slnil) (fun w1 hS => does_load1 hS is1_22 rfl 1 rfl rfl) ?_
    intro a hA
    refine any_take (v := .pointer (some ⟨g2, 2, none⟩)) hA 7 rfl rfl rfl rfl (by kernel_rfl) (by kernel_rfl) (by kernel_rfl) (fun c a w h => hP c a _ _ w h) (hS.part (.cons_cons _ (.cons_cons _ (.cons_cons _ .slnil))) ⟨⟨0, rfl⟩, ⟨⟨1, rfl⟩, ⟨⟨2, rfl⟩, ⟨⟨3, rfl⟩, trivial⟩⟩⟩⟩ .slnil) (fun w1 hS => does_field fld_24_2 rfl rfl) ?_
    intro a hA
    refine any_take hA 8 rfl rfl rfl rfl (by kernel_rfl) (by kernel_rfl) (by kernel_rfl) (fun c a w h => hP c a _ _ w h) (hS.part (.cons_cons _ (.cons_cons _ (.cons_cons _ .slnil))) ⟨⟨0, rfl⟩, ⟨⟨1, rfl⟩, ⟨⟨2, rfl⟩, ⟨⟨3, rfl⟩, trivial⟩⟩⟩⟩ .slnil) (fun w1 hS => does_load1 hS is1_22 rfl 2 rfl rfl) ?_
    intro a hA
    refine any_one (by kernel_rfl) (op_call hA 4 rfl rfl rfl rfl (enters_func  rfl rfl (fun w => by kernel_rfl)) (rtimes_any _ _ (hS.rd 3 rfl) (hS.rd 0 rfl) (by omega) (by omega)) ?_)
    rintro _ w13 ⟨ro9, rc10, rfl, ho11, hb12⟩
    replace hS := hS.call hb12
    replace hS := hS.addR ho11.rd
    refine ⟨_, rfl, (hS.part (.cons_cons _ (.cons_cons _ (.cons_cons _ .slnil))) ⟨⟨1, rfl⟩, ⟨⟨2, rfl⟩, ⟨⟨3, rfl⟩, ⟨⟨4, rfl⟩, trivial⟩⟩⟩⟩ .slnil), ?_⟩
    intro a hA
    refine any_one (by kernel_rfl) (op_call hA 9 rfl rfl rfl rfl (enters_func  rfl rfl (fun w => by kernel_rfl)) (rtimes_any _ _ (hS.rd 2 rfl) (hS.rd 3 rfl) (by omega) (by omega)) ?_)
    rintro _ w18 ⟨ro14, rc15, rfl, ho16, hb17⟩
    replace hS := hS.call hb17
    replace hS := hS.addR ho16.rd
    refine ⟨_, rfl, (hS.part (.cons_cons _ (.cons_cons _ (.cons_cons _ .slnil))) ⟨⟨2, rfl⟩, ⟨⟨3, rfl⟩, ⟨⟨4, rfl⟩, ⟨⟨5, rfl⟩, trivial⟩⟩⟩⟩ .slnil), ?_⟩
    intro a hA
    refine any_take hA 10 rfl rfl rfl rfl (by kernel_rfl) (by kernel_rfl) (by kernel_rfl) (fun c a w h => hP c a _ _ w h) (hS.part (.cons_cons _ (.cons_cons _ (.cons_cons _ .slnil))) ⟨⟨2, rfl⟩, ⟨⟨3, rfl⟩, ⟨⟨4, rfl⟩, ⟨⟨5, rfl⟩, trivial⟩⟩⟩⟩ .slnil) (fun w1 hS => does_assign rfl) ?_
    intro a hA
    refine any_take hA 11 rfl rfl rfl rfl (by kernel_rfl) (by kernel_rfl) (by kernel_rfl) (fun c a w h => hP c a _ _ w h) (hS.part (.cons_cons _ (.cons_cons _ (.cons_cons _ .slnil))) ⟨⟨2, rfl⟩, ⟨⟨3, rfl⟩, ⟨⟨4, rfl⟩, ⟨⟨5, rfl⟩, trivial⟩⟩⟩⟩ .slnil) (fun w1 hS => does_assign rfl) ?_
    intro a hA
    refine any_end (by kernel_rfl) ?_
    refine hK8 _ _ ?_
    refine wp_seq_k (fun K19 hK19 => ?_)
    refine wp_region_lit ?_
    refine seq_do (v := .pointer (some ⟨g2, 2, none⟩)) hA rfl rfl rfl (does_field fld_24_2 rfl rfl) ?_
    intro a hA
    refine seq_do hA rfl rfl rfl (does_load1 hS is1_22 rfl 2 rfl rfl) ?_
    intro a hA
    refine seq_do (v := .pointer (some ⟨g4, 2, none⟩)) hA rfl rfl rfl (does_field fld_24_2 rfl rfl) ?_
    intro a hA
    refine seq_do hA rfl rfl rfl (does_load1 hS is1_22 rfl 1 rfl rfl) ?_
    intro a hA
    refine seq_call hA rfl rfl rfl (enters_func  rfl rfl (fun w => by kernel_rfl)) (rtimes_any _ _ (hS.rd 4 rfl) (hS.rd 2 rfl) (by omega) (by omega)) ?_
    rintro _ w24 ⟨ro20, rc21, rfl, ho22, hb23⟩
    replace hS := hS.call hb23
    replace hS := hS.addR ho22.rd
    refine ⟨_, rfl, ?_⟩
    intro a hA
    refine seq_do hA rfl rfl rfl (does_assign rfl) ?_
    intro a hA
    refine seq_end ?_
    refine hK19 _ _ ?_
    refine wp_seq_k (fun K25 hK25 => ?_)
    refine wp_seq_k (fun K26 hK26 => ?_)
    refine wp_region_lit ?_
    refine seq_do (v := .pointer (some ⟨g2, 0, none⟩)) hA rfl rfl rfl (does_field fld_24_0 rfl rfl) ?_
    intro a hA
    refine seq_do hA rfl rfl rfl (does_load1 hS is1_4 rfl 2 rfl rfl) ?_
    intro a hA
    refine seq_do (v := .pointer (some ⟨g4, 0, none⟩)) hA rfl rfl rfl (does_field fld_24_0 rfl rfl) ?_
    intro a hA
    refine seq_do hA rfl rfl rfl (does_load1 hS is1_4 rfl 1 rfl rfl) ?_
    intro a hA
    refine seq_do (v := .bool false) hA rfl rfl rfl (does_bin rfl rfl (bin_eqlB Try.underlying4)) ?_
    intro a hA
    refine seq_end ?_
    refine hK26 _ _ ?_
    refine wp_cond_false (hA.ev rfl) ?_
    refine wp_skip ?_
    refine hK25 _ _ ?_
    refine wp_seq_k (fun K27 hK27 => ?_)
    refine wp_seq_k (fun K28 hK28 => ?_)
    refine wp_region_lit ?_
    refine seq_do hA rfl rfl rfl (does_move rfl) ?_
    intro a hA
    refine seq_do hA rfl rfl rfl (does_move rfl) ?_
    intro a hA
    rcases Bool.eq_false_or_eq_true (decide (x2 * y1 ≤ x1 * y2)) with hb29 | hb29
    · have hb29' := of_decide_eq_true hb29
      refine seq_call hA rfl rfl rfl (enters_func  rfl rfl (fun w => by kernel_rfl)) (rorder_any _ _ (hS.rd 2 rfl) (hS.rd 1 rfl) (by omega) (by omega)) ?_
      rintro _ w31 ⟨rfl, hb30⟩
      replace hS := hS.call hb30
      refine ⟨_, rfl, ?_⟩
      intro a hA
      refine seq_do (v := .bool true) hA rfl rfl rfl (does_bin rfl rfl (fun w => (bin_geq w).trans (by rw [show (decide (0 ≤ cmpN (x1 * y2) (x2 * y1))) = true from (by have h9 := of_decide_eq_true hb29; apply decide_eq_true; unfold cmpN; split <;> (try split) <;> omega)]))) ?_
      intro a hA
      refine seq_end ?_
      refine hK28 _ _ ?_
      refine wp_cond_true (hA.ev rfl) ?_
      refine wp_seq_k (fun K32 hK32 => ?_)
      refine wp_draw (S := fun w1 => St w w1 [(g4, [.bool true, .slice u1 ((words x2).length) uc1, .slice u2 ((words y2).length) uc2]), (g2, [.bool false, .slice a1 ((words x1).length) ac1, .slice a2 ((words y1).length) ac2])] [(ro20, words (y1 * y2)), (ro14, words (x2 * y1)), (ro9, words (x1 * y2)), (u2, words y2), (u1, words x2), (a2, words y1), (a1, words x1)] []) (by kernel_rfl) ?_
      replace hS := hS.drew
      refine any_take (v := .pointer (some ⟨g2, 0, none⟩)) hA 0 rfl rfl rfl rfl (by kernel_rfl) (by kernel_rfl) (by kernel_rfl) (fun c a w h => hP c a _ _ w h) (hS.part (.cons _ (.cons_cons _ (.cons_cons _ .slnil))) ⟨⟨0, rfl⟩, ⟨⟨1, rfl⟩, ⟨⟨2, rfl⟩, ⟨⟨3, rfl⟩, ⟨⟨4, rfl⟩, ⟨⟨5, rfl⟩, ⟨⟨6, rfl⟩, trivial⟩⟩⟩⟩⟩⟩⟩ .slnil) (fun w1 hS => does_field fld_24_0 rfl rfl) ?_
      intro a hA
      refine any_take hA 1 rfl rfl rfl rfl (by kernel_rfl) (by kernel_rfl) (by kernel_rfl) (fun c a w h => hP c a _ _ w h) (hS.part (.cons _ (.cons_cons _ (.cons_cons _ .slnil))) ⟨⟨0, rfl⟩, ⟨⟨1, rfl⟩, ⟨⟨2, rfl⟩, ⟨⟨3, rfl⟩, ⟨⟨4, rfl⟩, ⟨⟨5, rfl⟩, ⟨⟨6, rfl⟩, trivial⟩⟩⟩⟩⟩⟩⟩ .slnil) (fun w1 hS => does_load1 hS is1_4 rfl 1 rfl rfl) ?_
      intro a hA
      refine any_take hA 2 rfl rfl rfl rfl (by kernel_rfl) (by kernel_rfl) (by kernel_rfl) (fun c a w h => hP c a _ _ w h) (hS.part (.cons _ (.cons_cons _ (.cons_cons _ .slnil))) ⟨⟨0, rfl⟩, ⟨⟨1, rfl⟩, ⟨⟨2, rfl⟩, ⟨⟨3, rfl⟩, ⟨⟨4, rfl⟩, ⟨⟨5, rfl⟩, ⟨⟨6, rfl⟩, trivial⟩⟩⟩⟩⟩⟩⟩ .slnil) (fun w1 hS => does_move rfl) ?_
      intro a hA
      refine any_take hA 3 rfl rfl rfl rfl (by kernel_rfl) (by kernel_rfl) (by kernel_rfl) (fun c a w h => hP c a _ _ w h) (hS.part (.cons _ (.cons_cons _ (.cons_cons _ .slnil))) ⟨⟨0, rfl⟩, ⟨⟨1, rfl⟩, ⟨⟨2, rfl⟩, ⟨⟨3, rfl⟩, ⟨⟨4, rfl⟩, ⟨⟨5, rfl⟩, ⟨⟨6, rfl⟩, trivial⟩⟩⟩⟩⟩⟩⟩ .slnil) (fun w1 hS => does_move rfl) ?_
      intro a hA
      refine any_take hA 5 rfl rfl rfl rfl (by kernel_rfl) (by kernel_rfl) (by kernel_rfl) (fun c a w h => hP c a _ _ w h) (hS.part (.cons _ (.cons_cons _ (.cons_cons _ .slnil))) ⟨⟨0, rfl⟩, ⟨⟨1, rfl⟩, ⟨⟨2, rfl⟩, ⟨⟨3, rfl⟩, ⟨⟨4, rfl⟩, ⟨⟨5, rfl⟩, ⟨⟨6, rfl⟩, trivial⟩⟩⟩⟩⟩⟩⟩ .slnil) (fun w1 hS => does_move rfl) ?_
      intro a hA
      refine any_one (by kernel_rfl) (op_call hA 4 rfl rfl rfl rfl (enters_func  rfl rfl (fun w => by kernel_rfl)) (rless_any _ _ (hS.rd 2 rfl) (hS.rd 1 rfl) (by omega) (by omega)) ?_)
      rintro _ w37 ⟨ro33, rc34, rfl, ho35, hb36⟩
      replace hS := hS.call hb36
      replace hS := hS.addR ho35.rd
      refine ⟨_, rfl, (hS.part (.cons _ (.cons_cons _ (.cons_cons _ .slnil))) ⟨⟨1, rfl⟩, ⟨⟨2, rfl⟩, ⟨⟨3, rfl⟩, ⟨⟨4, rfl⟩, ⟨⟨5, rfl⟩, ⟨⟨6, rfl⟩, ⟨⟨7, rfl⟩, trivial⟩⟩⟩⟩⟩⟩⟩ .slnil), ?_⟩
      intro a hA
      refine any_one (by kernel_rfl) (op_call hA 6 rfl rfl rfl rfl (enters_func  rfl rfl (fun w => by kernel_rfl)) (rratI_any false ⟨(hS.rd 0 rfl), ho35.nocap, ho35.caps⟩ ⟨(hS.rd 1 rfl), ho22.nocap, ho22.caps⟩ (by omega) (by omega) hd0 (z := Z) (hzD1 (of_decide_eq_true hb29))) ?_)
      rintro _ w42 ⟨f38_1, f38_c1, f38_2, f38_c2, rfl, hs39, hs40, hb41⟩
      replace hS := hS.call hb41
      replace hS := hS.addR hs39.rd
      replace hS := hS.addR hs40.rd
      refine ⟨_, rfl, (hS.part (.cons _ (.cons_cons _ (.cons_cons _ .slnil))) ⟨⟨3, rfl⟩, ⟨⟨4, rfl⟩, ⟨⟨5, rfl⟩, ⟨⟨6, rfl⟩, ⟨⟨7, rfl⟩, ⟨⟨8, rfl⟩, ⟨⟨9, rfl⟩, trivial⟩⟩⟩⟩⟩⟩⟩ .slnil), ?_⟩
      intro a hA
      refine any_one (by kernel_rfl) (op_store (us := [.bool (rb Z), .slice f38_1 ((words (rt Z (y1 * y2))).length) f38_c1, .slice f38_2 ((words (rq Z (y1 * y2))).length) f38_c2]) hA hS 7 rfl rfl rfl (sets_store (cs := [.bool (rb Z), .slice f38_1 ((words (rt Z (y1 * y2))).length) f38_c1, .slice f38_2 ((words (rq Z (y1 * y2))).length) f38_c2]) rfl rfl rfl (by kernel_rfl) hS 0 rfl rfl rfl) 0 rfl rfl rfl rfl ?_)
      intro w43 hS
      refine ⟨(hS.part (.cons _ (.cons_cons _ (.cons_cons _ .slnil))) ⟨⟨3, rfl⟩, ⟨⟨4, rfl⟩, ⟨⟨5, rfl⟩, ⟨⟨6, rfl⟩, ⟨⟨7, rfl⟩, ⟨⟨8, rfl⟩, ⟨⟨9, rfl⟩, trivial⟩⟩⟩⟩⟩⟩⟩ .slnil), ?_⟩
      refine any_end (by kernel_rfl) ?_
      refine hK32 _ _ ?_
      refine wp_ret ?_
      refine hret _ _ ?_
      refine ends (v := .agg #[.bool (rb Z), .slice f38_1 ((words (rt Z (y1 * y2))).length) f38_c1, .slice f38_2 ((words (rq Z (y1 * y2))).length) f38_c2]) hA rfl (.cons (res_cell hS isS_24 rfl 0 rfl (cs := [.bool (rb Z), .slice f38_1 ((words (rt Z (y1 * y2))).length) f38_c1, .slice f38_2 ((words (rq Z (y1 * y2))).length) f38_c2]) rfl rfl) .nil) rfl ?_
      exact ⟨f38_1, f38_c1, f38_2, f38_c2, rfl, ⟨(hS.rd 1 rfl), hs39.nil, hs39.cap⟩, ⟨(hS.rd 0 rfl), hs40.nil, hs40.cap⟩, hS.bel⟩
    · have hb29' := of_decide_eq_false hb29
      refine seq_call hA rfl rfl rfl (enters_func  rfl rfl (fun w => by kernel_rfl)) (rorder_any _ _ (hS.rd 2 rfl) (hS.rd 1 rfl) (by omega) (by omega)) ?_
      rintro _ w45 ⟨rfl, hb44⟩
      replace hS := hS.call hb44
      refine ⟨_, rfl, ?_⟩
      intro a hA
      refine seq_do (v := .bool false) hA rfl rfl rfl (does_bin rfl rfl (fun w => (bin_geq w).trans (by rw [show (decide (0 ≤ cmpN (x1 * y2) (x2 * y1))) = false from (by have h9 := of_decide_eq_false hb29; apply decide_eq_false; unfold cmpN; split <;> (try split) <;> omega)]))) ?_
      intro a hA
      refine seq_end ?_
      refine hK28 _ _ ?_
      refine wp_cond_false (hA.ev rfl) ?_
      refine wp_skip ?_
      refine hK27 _ _ ?_
      refine wp_seq_k (fun K46 hK46 => ?_)
      refine wp_draw (S := fun w1 => St w w1 [(g4, [.bool true, .slice u1 ((words x2).length) uc1, .slice u2 ((words y2).length) uc2]), (g2, [.bool false, .slice a1 ((words x1).length) ac1, .slice a2 ((words y1).length) ac2])] [(ro20, words (y1 * y2)), (ro14, words (x2 * y1)), (ro9, words (x1 * y2)), (u2, words y2), (u1, words x2), (a2, words y1), (a1, words x1)] []) (by kernel_rfl) ?_
      replace hS := hS.drew
      refine any_take (v := .pointer (some ⟨g4, 0, none⟩)) hA 0 rfl rfl rfl rfl (by kernel_rfl) (by kernel_rfl) (by kernel_rfl) (fun c a w h => hP c a _ _ w h) (hS.part (.cons _ (.cons_cons _ (.cons_cons _ .slnil))) ⟨⟨0, rfl⟩, ⟨⟨1, rfl⟩, ⟨⟨2, rfl⟩, ⟨⟨3, rfl⟩, ⟨⟨4, rfl⟩, ⟨⟨5, rfl⟩, ⟨⟨6, rfl⟩, trivial⟩⟩⟩⟩⟩⟩⟩ .slnil) (fun w1 hS => does_field fld_24_0 rfl rfl) ?_
      intro a hA
      refine any_take hA 1 rfl rfl rfl rfl (by kernel_rfl) (by kernel_rfl) (by kernel_rfl) (fun c a w h => hP c a _ _ w h) (hS.part (.cons _ (.cons_cons _ (.cons_cons _ .slnil))) ⟨⟨0, rfl⟩, ⟨⟨1, rfl⟩, ⟨⟨2, rfl⟩, ⟨⟨3, rfl⟩, ⟨⟨4, rfl⟩, ⟨⟨5, rfl⟩, ⟨⟨6, rfl⟩, trivial⟩⟩⟩⟩⟩⟩⟩ .slnil) (fun w1 hS => does_load1 hS is1_4 rfl 0 rfl rfl) ?_
      intro a hA
      refine any_take hA 2 rfl rfl rfl rfl (by kernel_rfl) (by kernel_rfl) (by kernel_rfl) (fun c a w h => hP c a _ _ w h) (hS.part (.cons _ (.cons_cons _ (.cons_cons _ .slnil))) ⟨⟨0, rfl⟩, ⟨⟨1, rfl⟩, ⟨⟨2, rfl⟩, ⟨⟨3, rfl⟩, ⟨⟨4, rfl⟩, ⟨⟨5, rfl⟩, ⟨⟨6, rfl⟩, trivial⟩⟩⟩⟩⟩⟩⟩ .slnil) (fun w1 hS => does_move rfl) ?_
      intro a hA
      refine any_take hA 3 rfl rfl rfl rfl (by kernel_rfl) (by kernel_rfl) (by kernel_rfl) (fun c a w h => hP c a _ _ w h) (hS.part (.cons _ (.cons_cons _ (.cons_cons _ .slnil))) ⟨⟨0, rfl⟩, ⟨⟨1, rfl⟩, ⟨⟨2, rfl⟩, ⟨⟨3, rfl⟩, ⟨⟨4, rfl⟩, ⟨⟨5, rfl⟩, ⟨⟨6, rfl⟩, trivial⟩⟩⟩⟩⟩⟩⟩ .slnil) (fun w1 hS => does_move rfl) ?_
      intro a hA
      refine any_take hA 5 rfl rfl rfl rfl (by kernel_rfl) (by kernel_rfl) (by kernel_rfl) (fun c a w h => hP c a _ _ w h) (hS.part (.cons _ (.cons_cons _ (.cons_cons _ .slnil))) ⟨⟨0, rfl⟩, ⟨⟨1, rfl⟩, ⟨⟨2, rfl⟩, ⟨⟨3, rfl⟩, ⟨⟨4, rfl⟩, ⟨⟨5, rfl⟩, ⟨⟨6, rfl⟩, trivial⟩⟩⟩⟩⟩⟩⟩ .slnil) (fun w1 hS => does_move rfl) ?_
      intro a hA
      refine any_one (by kernel_rfl) (op_call hA 4 rfl rfl rfl rfl (enters_func  rfl rfl (fun w => by kernel_rfl)) (rless_any _ _ (hS.rd 1 rfl) (hS.rd 2 rfl) (by omega) (by omega)) ?_)
      rintro _ w51 ⟨ro47, rc48, rfl, ho49, hb50⟩
      replace hS := hS.call hb50
      replace hS := hS.addR ho49.rd
      refine ⟨_, rfl, (hS.part (.cons _ (.cons_cons _ (.cons_cons _ .slnil))) ⟨⟨1, rfl⟩, ⟨⟨2, rfl⟩, ⟨⟨3, rfl⟩, ⟨⟨4, rfl⟩, ⟨⟨5, rfl⟩, ⟨⟨6, rfl⟩, ⟨⟨7, rfl⟩, trivial⟩⟩⟩⟩⟩⟩⟩ .slnil), ?_⟩
      intro a hA
      refine any_one (by kernel_rfl) (op_call hA 6 rfl rfl rfl rfl (enters_func  rfl rfl (fun w => by kernel_rfl)) (rratI_any true ⟨(hS.rd 0 rfl), ho49.nocap, ho49.caps⟩ ⟨(hS.rd 1 rfl), ho22.nocap, ho22.caps⟩ (by omega) (by omega) hd0 (z := Z) (hzD2 (of_decide_eq_false hb29))) ?_)
      rintro _ w56 ⟨f52_1, f52_c1, f52_2, f52_c2, rfl, hs53, hs54, hb55⟩
      replace hS := hS.call hb55
      replace hS := hS.addR hs53.rd
      replace hS := hS.addR hs54.rd
      refine ⟨_, rfl, (hS.part (.cons _ (.cons_cons _ (.cons_cons _ .slnil))) ⟨⟨3, rfl⟩, ⟨⟨4, rfl⟩, ⟨⟨5, rfl⟩, ⟨⟨6, rfl⟩, ⟨⟨7, rfl⟩, ⟨⟨8, rfl⟩, ⟨⟨9, rfl⟩, trivial⟩⟩⟩⟩⟩⟩⟩ .slnil), ?_⟩
      intro a hA
      refine any_one (by kernel_rfl) (op_store (us := [.bool (rb Z), .slice f52_1 ((words (rt Z (y1 * y2))).length) f52_c1, .slice f52_2 ((words (rq Z (y1 * y2))).length) f52_c2]) hA hS 7 rfl rfl rfl (sets_store (cs := [.bool (rb Z), .slice f52_1 ((words (rt Z (y1 * y2))).length) f52_c1, .slice f52_2 ((words (rq Z (y1 * y2))).length) f52_c2]) rfl rfl rfl (by kernel_rfl) hS 0 rfl rfl rfl) 0 rfl rfl rfl rfl ?_)
      intro w57 hS
      refine ⟨(hS.part (.cons _ (.cons_cons _ (.cons_cons _ .slnil))) ⟨⟨3, rfl⟩, ⟨⟨4, rfl⟩, ⟨⟨5, rfl⟩, ⟨⟨6, rfl⟩, ⟨⟨7, rfl⟩, ⟨⟨8, rfl⟩, ⟨⟨9, rfl⟩, trivial⟩⟩⟩⟩⟩⟩⟩ .slnil), ?_⟩
      refine any_end (by kernel_rfl) ?_
      refine hK46 _ _ ?_
      refine wp_ret ?_
      refine hret _ _ ?_
      refine ends (v := .agg #[.bool (rb Z), .slice f52_1 ((words (rt Z (y1 * y2))).length) f52_c1, .slice f52_2 ((words (rq Z (y1 * y2))).length) f52_c2]) hA rfl (.cons (res_cell hS isS_24 rfl 0 rfl (cs := [.bool (rb Z), .slice f52_1 ((words (rt Z (y1 * y2))).length) f52_c1, .slice f52_2 ((words (rq Z (y1 * y2))).length) f52_c2]) rfl rfl) .nil) rfl ?_
      exact ⟨f52_1, f52_c1, f52_2, f52_c2, rfl, ⟨(hS.rd 1 rfl), hs53.nil, hs53.cap⟩, ⟨(hS.rd 0 rfl), hs54.nil, hs54.cap⟩, hS.bel⟩
  · have hzD1 : x2 * y1 ≤ x1 * y2 → Z = sgn true (x1 * y2 - x2 * y1) := fun h => by rw [← hZ]; exact sum_more true h
    have hzD2 : ¬ x2 * y1 ≤ x1 * y2 → Z = sgn false (x2 * y1 - x1 * y2) := fun h => by rw [← hZ, Int.add_comm]; exact sum_more false (by omega)
    have hS : St w w [] [(u2, words y2), (u1, words x2), (a2, words y1), (a1, words x1)] [] := ((((St.start w).addR ha1.rd).addR ha2.rd).addR hu1.rd).addR hu2.rd
    refine walk_of (l := [(0, .agg #[.bool true, .slice a1 ((words x1).length) ac1, .slice a2 ((words y1).length) ac2]), (1, .agg #[.bool false, .slice u1 ((words x2).length) uc1, .slice u2 ((words y2).length) uc2])]) Try.func57 rfl Try.ntmps57 rfl rfl ?_
    intro Q hret hnorm hP a hA
    refine wp_seq_k (fun K1 hK1 => ?_)
    refine wp_region_lit ?_
    refine seq_new (vs := [.bool true, .slice a1 ((words x1).length) ac1, .slice a2 ((words y1).length) ac2]) (t := 24) hA hS rfl rfl rfl (fun g => .pointer (some ⟨g, 0, none⟩)) (does_box rfl rfl) rfl ?_
    intro g2 w3 hS a hA
    refine seq_new (vs := [.bool false, .slice u1 ((words x2).length) uc1, .slice u2 ((words y2).length) uc2]) (t := 24) hA hS rfl rfl rfl (fun g => .pointer (some ⟨g, 0, none⟩)) (does_box rfl rfl) rfl ?_
    intro g4 w5 hS a hA
    refine seq_new (vs := [.bool false, .slice none 0 0, .slice none 0 0]) (t := 24) hA hS rfl rfl rfl (fun g => .pointer (some ⟨g, 0, none⟩)) (does_alloc (z := .agg #[.bool false, .slice none 0 0, .slice none 0 0]) (by kernel_rfl) rfl) rfl ?_
    intro g6 w7 hS a hA
    refine seq_end ?_
    refine hK1 _ _ ?_
    refine wp_seq_k (fun K8 hK8 => ?_)
    refine wp_draw (S := fun w1 => St w w1 [(g6, [.bool false, .slice none 0 0, .slice none 0 0]), (g4, [.bool false, .slice u1 ((words x2).length) uc1, .slice u2 ((words y2).length) uc2]), (g2, [.bool true, .slice a1 ((words x1).length) ac1, .slice a2 ((words y1).length) ac2])] [(u2, words y2), (u1, words x2), (a2, words y1), (a1, words x1)] []) (by kernel_rfl) ?_
    replace hS := hS.drew
    refine any_take (v := .pointer (some ⟨g2, 1, none⟩)) hA 0 rfl rfl rfl rfl (by kernel_rfl) (by kernel_rfl) (by kernel_rfl) (fun c a w h => hP c a _ _ w h) (hS.part (.cons_cons _ (.cons_cons _ (.cons_cons _ .slnil))) ⟨⟨0, rfl⟩, ⟨⟨1, rfl⟩, ⟨⟨2, rfl⟩, ⟨⟨3, rfl⟩, trivial⟩⟩⟩⟩ .slnil) (fun w1 hS => does_field fld_24_1 rfl rfl) ?_
    intro a hA
    refine any_take hA 1 rfl rfl rfl rfl (by kernel_rfl) (by kernel_rfl) (by kernel_rfl) (fun c a w h => hP c a _ _ w h) (hS.part (.cons_cons _ (.cons_cons _ (.cons_cons _ .slnil))) ⟨⟨0, rfl⟩, ⟨⟨1, rfl⟩, ⟨⟨2, rfl⟩, ⟨⟨3, rfl⟩, trivial⟩⟩⟩⟩ .slnil) (fun w1 hS => does_load1 hS is1_22 rfl 2 rfl rfl) ?_
    intro a hA
    refine any_take (v := .pointer (some ⟨g4, 2, none⟩)) hA 2 rfl rfl rfl rfl (by kernel_rfl) (by kernel_rfl) (by kernel_rfl) (fun c a w h => hP c a _ _ w h) (hS.part (.cons_cons _ (.cons_cons _ (.cons_cons _ .slnil))) ⟨⟨0, rfl⟩, ⟨⟨1, rfl⟩, ⟨⟨2, rfl⟩, ⟨⟨3, rfl⟩, trivial⟩⟩⟩⟩ .slnil) (fun w1 hS => does_field fld_24_2 rfl rfl) ?_
    intro a hA
    refine any_take hA 3 rfl rfl rfl rfl (by kernel_rfl) (by kernel_rfl) (by kernel_rfl) (fun c a w h => hP c a _ _ w h) (hS.part (.cons_cons _ (.cons_cons _ (.cons_cons _ .slnil))) ⟨⟨0, rfl⟩, ⟨⟨1, rfl⟩, ⟨⟨2, rfl⟩, ⟨⟨3, rfl⟩, trivial⟩⟩⟩⟩ .slnil) (fun w1 hS => does_load1 hS is1_22 rfl 1 rfl rfl) ?_
    intro a hA
    refine any_take (v := .pointer (some ⟨g4, 1, none⟩)) hA 5 rfl rfl rfl rfl (by kernel_rfl) (by kernel_rfl) (by kernel_rfl) (fun c a w h => hP c a _ _ w h) (hS.part (.cons_cons _ (.cons_cons _ (.cons_cons _ .slnil))) ⟨⟨0, rfl⟩, ⟨⟨1, rfl⟩, ⟨⟨2, rfl⟩, ⟨⟨3, rfl⟩, trivial⟩⟩⟩⟩ .slnil) (fun w1 hS => does_field fld_24_1 rfl rfl) ?_
    intro a hA
    refine any_take hA 6 rfl rfl rfl rfl (by kernel_rfl) (by kernel_rfl) (by kernel_rfl) (fun c a w h => hP c a _ _ w h) (hS.part (.cons_cons _ (.cons_cons _ (.cons_cons _ .slnil))) ⟨⟨0, rfl⟩, ⟨⟨1, rfl⟩, ⟨⟨2, rfl⟩, ⟨⟨3, rfl⟩, trivial⟩⟩⟩⟩ .slnil) (fun w1 hS => does_load1 hS is1_22 rfl 1 rfl rfl) ?_
    intro a hA
    refine any_take (v := .pointer (some ⟨g2, 2, none⟩)) hA 7 rfl rfl rfl rfl (by kernel_rfl) (by kernel_rfl) (by kernel_rfl) (fun c a w h => hP c a _ _ w h) (hS.part (.cons_cons _ (.cons_cons _ (.cons_cons _ .slnil))) ⟨⟨0, rfl⟩, ⟨⟨1, rfl⟩, ⟨⟨2, rfl⟩, ⟨⟨3, rfl⟩, trivial⟩⟩⟩⟩ .slnil) (fun w1 hS => does_field fld_24_2 rfl rfl) ?_
    intro a hA
    refine any_take hA 8 rfl rfl rfl rfl (by kernel_rfl) (by kernel_rfl) (by kernel_rfl) (fun c a w h => hP c a _ _ w h) (hS.part (.cons_cons _ (.cons_cons _ (.cons_cons _ .slnil))) ⟨⟨0, rfl⟩, ⟨⟨1, rfl⟩, ⟨⟨2, rfl⟩, ⟨⟨3, rfl⟩, trivial⟩⟩⟩⟩ .slnil) (fun w1 hS => does_load1 hS is1_22 rfl 2 rfl rfl) ?_
    intro a hA
    refine any_one (by kernel_rfl) (op_call hA 4 rfl rfl rfl rfl (enters_func  rfl rfl (fun w => by kernel_rfl)) (rtimes_any _ _ (hS.rd 3 rfl) (hS.rd 0 rfl) (by omega) (by omega)) ?_)
    rintro _ w13 ⟨ro9, rc10, rfl, ho11, hb12⟩
    replace hS := hS.call hb12
    replace hS := hS.addR ho11.rd
    refine ⟨_, rfl, (hS.part (.cons_cons _ (.cons_cons _ (.cons_cons _ .slnil))) ⟨⟨1, rfl⟩, ⟨⟨2, rfl⟩, ⟨⟨3, rfl⟩, ⟨⟨4, rfl⟩, trivial⟩⟩⟩⟩ .slnil), ?_⟩
    intro a hA
    refine any_one (by kernel_rfl) (op_call hA 9 rfl rfl rfl rfl (enters_func  rfl rfl (fun w => by kernel_rfl)) (rtimes_any _ _ (hS.rd 2 rfl) (hS.rd 3 rfl) (by omega) (by omega)) ?_)
    rintro _ w18 ⟨ro14, rc15, rfl, ho16, hb17⟩
    replace hS := hS.call hb17
    replace hS := hS.addR ho16.rd
    refine ⟨_, rfl, (hS.part (.cons_cons _ (.cons_cons _ (.cons_cons _ .slnil))) ⟨⟨2, rfl⟩, ⟨⟨3, rfl⟩, ⟨⟨4, rfl⟩, ⟨⟨5, rfl⟩, trivial⟩⟩⟩⟩ .slnil), ?_⟩
    intro a hA
    refine any_take hA 10 rfl rfl rfl rfl (by kernel_rfl) (by kernel_rfl) (by kernel_rfl) (fun c a w h => hP c a _ _ w h) (hS.part (.cons_cons _ (.cons_cons _ (.cons_cons _ .slnil))) ⟨⟨2, rfl⟩, ⟨⟨3, rfl⟩, ⟨⟨4, rfl⟩, ⟨⟨5, rfl⟩, trivial⟩⟩⟩⟩ .slnil) (fun w1 hS => does_assign rfl) ?_
    intro a hA
    refine any_take hA 11 rfl rfl rfl rfl (by kernel_rfl) (by kernel_rfl) (by kernel_rfl) (fun c a w h => hP c a _ _ w h) (hS.part (.cons_cons _ (.cons_cons _ (.cons_cons _ .slnil))) ⟨⟨2, rfl⟩, ⟨⟨3, rfl⟩, ⟨⟨4, rfl⟩, ⟨⟨5, rfl⟩, trivial⟩⟩⟩⟩ .slnil) (fun w1 hS => does_assign rfl) ?_
    intro a hA
    refine any_end (by kernel_rfl) ?_
    refine hK8 _ _ ?_
    refine wp_seq_k (fun K19 hK19 => ?_)
    refine wp_region_lit ?_
    refine seq_do (v := .pointer (some ⟨g2, 2, none⟩)) hA rfl rfl rfl (does_field fld_24_2 rfl rfl) ?_
    intro a hA
    refine seq_do hA rfl rfl rfl (does_load1 hS is1_22 rfl 2 rfl rfl) ?_
    intro a hA
    refine seq_do (v := .pointer (some ⟨g4, 2, none⟩)) hA rfl rfl rfl (does_field fld_24_2 rfl rfl) ?_
    intro a hA
    refine seq_do hA rfl rfl rfl (does_load1 hS is1_22 rfl 1 rfl rfl) ?_
    intro a hA
    refine seq_call hA rfl rfl rfl (enters_func  rfl rfl (fun w => by kernel_rfl)) (rtimes_any _ _ (hS.rd 4 rfl) (hS.rd 2 rfl) (by omega) (by omega)) ?_
    rintro _ w24 ⟨ro20, rc21, rfl, ho22, hb23⟩
    replace hS := hS.call hb23
    replace hS := hS.addR ho22.rd
    refine ⟨_, rfl, ?_⟩
    intro a hA
    refine seq_do hA rfl rfl rfl (does_assign rfl) ?_
    intro a hA
    refine seq_end ?_
    refine hK19 _ _ ?_
    refine wp_seq_k (fun K25 hK25 => ?_)
    refine wp_seq_k (fun K26 hK26 => ?_)
    refine wp_region_lit ?_
    refine seq_do (v := .pointer (some ⟨g2, 0, none⟩)) hA rfl rfl rfl (does_field fld_24_0 rfl rfl) ?_
    intro a hA
    refine seq_do hA rfl rfl rfl (does_load1 hS is1_4 rfl 2 rfl rfl) ?_
    intro a hA
    refine seq_do (v := .pointer (some ⟨g4, 0, none⟩)) hA rfl rfl rfl (does_field fld_24_0 rfl rfl) ?_
    intro a hA
    refine seq_do hA rfl rfl rfl (does_load1 hS is1_4 rfl 1 rfl rfl) ?_
    intro a hA
    refine seq_do (v := .bool false) hA rfl rfl rfl (does_bin rfl rfl (bin_eqlB Try.underlying4)) ?_
    intro a hA
    refine seq_end ?_
    refine hK26 _ _ ?_
    refine wp_cond_false (hA.ev rfl) ?_
    refine wp_skip ?_
    refine hK25 _ _ ?_
    refine wp_seq_k (fun K27 hK27 => ?_)
    refine wp_seq_k (fun K28 hK28 => ?_)
    refine wp_region_lit ?_
    refine seq_do hA rfl rfl rfl (does_move rfl) ?_
    intro a hA
    refine seq_do hA rfl rfl rfl (does_move rfl) ?_
    intro a hA
    rcases Bool.eq_false_or_eq_true (decide (x2 * y1 ≤ x1 * y2)) with hb29 | hb29
    · have hb29' := of_decide_eq_true hb29
      refine seq_call hA rfl rfl rfl (enters_func  rfl rfl (fun w => by kernel_rfl)) (rorder_any _ _ (hS.rd 2 rfl) (hS.rd 1 rfl) (by omega) (by omega)) ?_
      rintro _ w31 ⟨rfl, hb30⟩
      replace hS := hS.call hb30
      refine ⟨_, rfl, ?_⟩
      intro a hA
      refine seq_do (v := .bool true) hA rfl rfl rfl (does_bin rfl rfl (fun w => (bin_geq w).trans (by rw [show (decide (0 ≤ cmpN (x1 * y2) (x2 * y1))) = true from (by have h9 := of_decide_eq_true hb29; apply decide_eq_true; unfold cmpN; split <;> (try split) <;> omega)]))) ?_
      intro a hA
      refine seq_end ?_
      refine hK28 _ _ ?_
      refine wp_cond_true (hA.ev rfl) ?_
      refine wp_seq_k (fun K32 hK32 => ?_)
      refine wp_draw (S := fun w1 => St w w1 [(g4, [.bool false, .slice u1 ((words x2).length) uc1, .slice u2 ((words y2).length) uc2]), (g2, [.bool true, .slice a1 ((words x1).length) ac1, .slice a2 ((words y1).length) ac2])] [(ro20, words (y1 * y2)), (ro14, words (x2 * y1)), (ro9, words (x1 * y2)), (u2, words y2), (u1, words x2), (a2, words y1), (a1, words x1)] []) (by kernel_rfl) ?_
      replace hS := hS.drew
      refine any_take (v := .pointer (some ⟨g2, 0, none⟩)) hA 0 rfl rfl rfl rfl (by kernel_rfl) (by kernel_rfl) (by kernel_rfl) (fun c a w h => hP c a _ _ w h) (hS.part (.cons _ (.cons_cons _ (.cons_cons _ .slnil))) ⟨⟨0, rfl⟩, ⟨⟨1, rfl⟩, ⟨⟨2, rfl⟩, ⟨⟨3, rfl⟩, ⟨⟨4, rfl⟩, ⟨⟨5, rfl⟩, ⟨⟨6, rfl⟩, trivial⟩⟩⟩⟩⟩⟩⟩ .slnil) (fun w1 hS => does_field fld_24_0 rfl rfl) ?_
      intro a hA
      refine any_take hA 1 rfl rfl rfl rfl (by kernel_rfl) (by kernel_rfl) (by kernel_rfl) (fun c a w h => hP c a _ _ w h) (hS.part (.cons _ (.cons_cons _ (.cons_cons _ .slnil))) ⟨⟨0, rfl⟩, ⟨⟨1, rfl⟩, ⟨⟨2, rfl⟩, ⟨⟨3, rfl⟩, ⟨⟨4, rfl⟩, ⟨⟨5, rfl⟩, ⟨⟨6, rfl⟩, trivial⟩⟩⟩⟩⟩⟩⟩ .slnil) (fun w1 hS => does_load1 hS is1_4 rfl 1 rfl rfl) ?_
      intro a hA
      refine any_take hA 2 rfl rfl rfl rfl (by kernel_rfl) (by kernel_rfl) (by kernel_rfl) (fun c a w h => hP c a _ _ w h) (hS.part (.cons _ (.cons_cons _ (.cons_cons _ .slnil))) ⟨⟨0, rfl⟩, ⟨⟨1, rfl⟩, ⟨⟨2, rfl⟩, ⟨⟨3, rfl⟩, ⟨⟨4, rfl⟩, ⟨⟨5, rfl⟩, ⟨⟨6, rfl⟩, trivial⟩⟩⟩⟩⟩⟩⟩ .slnil) (fun w1 hS => does_move rfl) ?_
      intro a hA
      refine any_take hA 3 rfl rfl rfl rfl (by kernel_rfl) (by kernel_rfl) (by kernel_rfl) (fun c a w h => hP c a _ _ w h) (hS.part (.cons _ (.cons_cons _ (.cons_cons _ .slnil))) ⟨⟨0, rfl⟩, ⟨⟨1, rfl⟩, ⟨⟨2, rfl⟩, ⟨⟨3, rfl⟩, ⟨⟨4, rfl⟩, ⟨⟨5, rfl⟩, ⟨⟨6, rfl⟩, trivial⟩⟩⟩⟩⟩⟩⟩ .slnil) (fun w1 hS => does_move rfl) ?_
      intro a hA
      refine any_take hA 5 rfl rfl rfl rfl (by kernel_rfl) (by kernel_rfl) (by kernel_rfl) (fun c a w h => hP c a _ _ w h) (hS.part (.cons _ (.cons_cons _ (.cons_cons _ .slnil))) ⟨⟨0, rfl⟩, ⟨⟨1, rfl⟩, ⟨⟨2, rfl⟩, ⟨⟨3, rfl⟩, ⟨⟨4, rfl⟩, ⟨⟨5, rfl⟩, ⟨⟨6, rfl⟩, trivial⟩⟩⟩⟩⟩⟩⟩ .slnil) (fun w1 hS => does_move rfl) ?_
      intro a hA
      refine any_one (by kernel_rfl) (op_call hA 4 rfl rfl rfl rfl (enters_func  rfl rfl (fun w => by kernel_rfl)) (rless_any _ _ (hS.rd 2 rfl) (hS.rd 1 rfl) (by omega) (by omega)) ?_)
      rintro _ w37 ⟨ro33, rc34, rfl, ho35, hb36⟩
      replace hS := hS.call hb36
      replace hS := hS.addR ho35.rd
      refine ⟨_, rfl, (hS.part (.cons _ (.cons_cons _ (.cons_cons _ .slnil))) ⟨⟨1, rfl⟩, ⟨⟨2, rfl⟩, ⟨⟨3, rfl⟩, ⟨⟨4, rfl⟩, ⟨⟨5, rfl⟩, ⟨⟨6, rfl⟩, ⟨⟨7, rfl⟩, trivial⟩⟩⟩⟩⟩⟩⟩ .slnil), ?_⟩
      intro a hA
      refine any_one (by kernel_rfl) (op_call hA 6 rfl rfl rfl rfl (enters_func  rfl rfl (fun w => by kernel_rfl)) (rratI_any true ⟨(hS.rd 0 rfl), ho35.nocap, ho35.caps⟩ ⟨(hS.rd 1 rfl), ho22.nocap, ho22.caps⟩ (by omega) (by omega) hd0 (z := Z) (hzD1 (of_decide_eq_true hb29))) ?_)
      rintro _ w42 ⟨f38_1, f38_c1, f38_2, f38_c2, rfl, hs39, hs40, hb41⟩
      replace hS := hS.call hb41
      replace hS := hS.addR hs39.rd
      replace hS := hS.addR hs40.rd
      refine ⟨_, rfl, (hS.part (.cons _ (.cons_cons _ (.cons_cons _ .slnil))) ⟨⟨3, rfl⟩, ⟨⟨4, rfl⟩, ⟨⟨5, rfl⟩, ⟨⟨6, rfl⟩, ⟨⟨7, rfl⟩, ⟨⟨8, rfl⟩, ⟨⟨9, rfl⟩, trivial⟩⟩⟩⟩⟩⟩⟩ .slnil), ?_⟩
      intro a hA
      refine any_one (by kernel_rfl) (op_store (us := [.bool (rb Z), .slice f38_1 ((words (rt Z (y1 * y2))).length) f38_c1, .slice f38_2 ((words (rq Z (y1 * y2))).length) f38_c2]) hA hS 7 rfl rfl rfl (sets_store (cs := [.bool (rb Z), .slice f38_1 ((words (rt Z (y1 * y2))).length) f38_c1, .slice f38_2 ((words (rq Z (y1 * y2))).length) f38_c2]) rfl rfl rfl (by kernel_rfl) hS 0 rfl rfl rfl) 0 rfl rfl rfl rfl ?_)
      intro w43 hS
      refine ⟨(hS.part (.cons _ (.cons_cons _ (.cons_cons _ .slnil))) ⟨⟨3, rfl⟩, ⟨⟨4, rfl⟩, ⟨⟨5, rfl⟩, ⟨⟨6, rfl⟩, ⟨⟨7, rfl⟩, ⟨⟨8, rfl⟩, ⟨⟨9, rfl⟩, trivial⟩⟩⟩⟩⟩⟩⟩ .slnil), ?_⟩
      refine any_end (by kernel_rfl) ?_
      refine hK32 _ _ ?_
      refine wp_ret ?_
      refine hret _ _ ?_
      refine ends (v := .agg #[.bool (rb Z), .slice f38_1 ((words (rt Z (y1 * y2))).length) f38_c1, .slice f38_2 ((words (rq Z (y1 * y2))).length) f38_c2]) hA rfl (.cons (res_cell hS isS_24 rfl 0 rfl (cs := [.bool (rb Z), .slice f38_1 ((words (rt Z (y1 * y2))).length) f38_c1, .slice f38_2 ((words (rq Z (y1 * y2))).length) f38_c2]) rfl rfl) .nil) rfl ?_
      exact ⟨f38_1, f38_c1, f38_2, f38_c2, rfl, ⟨(hS.rd 1 rfl), hs39.nil, hs39.cap⟩, ⟨(hS.rd 0 rfl), hs40.nil, hs40.cap⟩, hS.bel⟩
    · have hb29' := of_decide_eq_false hb29
      refine seq_call hA rfl rfl rfl (enters_func  rfl rfl (fun w => by kernel_rfl)) (rorder_any _ _ (hS.rd 2 rfl) (hS.rd 1 rfl) (by omega) (by omega)) ?_
      rintro _ w45 ⟨rfl, hb44⟩
      replace hS := hS.call hb44
      refine ⟨_, rfl, ?_⟩
      intro a hA
      refine seq_do (v := .bool false) hA rfl rfl rfl (does_bin rfl rfl (fun w => (bin_geq w).trans (by rw [show (decide (0 ≤ cmpN (x1 * y2) (x2 * y1))) = false from (by have h9 := of_decide_eq_false hb29; apply decide_eq_false; unfold cmpN; split <;> (try split) <;> omega)]))) ?_
      intro a hA
      refine seq_end ?_
      refine hK28 _ _ ?_
      refine wp_cond_false (hA.ev rfl) ?_
      refine wp_skip ?_
      refine hK27 _ _ ?_
      refine wp_seq_k (fun K46 hK46 => ?_)
      refine wp_draw (S := fun w1 => St w w1 [(g4, [.bool false, .slice u1 ((words x2).length) uc1, .slice u2 ((words y2).length) uc2]), (g2, [.bool true, .slice a1 ((words x1).length) ac1, .slice a2 ((words y1).length) ac2])] [(ro20, words (y1 * y2)), (ro14, words (x2 * y1)), (ro9, words (x1 * y2)), (u2, words y2), (u1, words x2), (a2, words y1), (a1, words x1)] []) (by kernel_rfl) ?_
      replace hS := hS.drew
      refine any_take (v := .pointer (some ⟨g4, 0, none⟩)) hA 0 rfl rfl rfl rfl (by kernel_rfl) (by kernel_rfl) (by kernel_rfl) (fun c a w h => hP c a _ _ w h) (hS.part (.cons _ (.cons_cons _ (.cons_cons _ .slnil))) ⟨⟨0, rfl⟩, ⟨⟨1, rfl⟩, ⟨⟨2, rfl⟩, ⟨⟨3, rfl⟩, ⟨⟨4, rfl⟩, ⟨⟨5, rfl⟩, ⟨⟨6, rfl⟩, trivial⟩⟩⟩⟩⟩⟩⟩ .slnil) (fun w1 hS => does_field fld_24_0 rfl rfl) ?_
      intro a hA
      refine any_take hA 1 rfl rfl rfl rfl (by kernel_rfl) (by kernel_rfl) (by kernel_rfl) (fun c a w h => hP c a _ _ w h) (hS.part (.cons _ (.cons_cons _ (.cons_cons _ .slnil))) ⟨⟨0, rfl⟩, ⟨⟨1, rfl⟩, ⟨⟨2, rfl⟩, ⟨⟨3, rfl⟩, ⟨⟨4, rfl⟩, ⟨⟨5, rfl⟩, ⟨⟨6, rfl⟩, trivial⟩⟩⟩⟩⟩⟩⟩ .slnil) (fun w1 hS => does_load1 hS is1_4 rfl 0 rfl rfl) ?_
      intro a hA
      refine any_take hA 2 rfl rfl rfl rfl (by kernel_rfl) (by kernel_rfl) (by kernel_rfl) (fun c a w h => hP c a _ _ w h) (hS.part (.cons _ (.cons_cons _ (.cons_cons _ .slnil))) ⟨⟨0, rfl⟩, ⟨⟨1, rfl⟩, ⟨⟨2, rfl⟩, ⟨⟨3, rfl⟩, ⟨⟨4, rfl⟩, ⟨⟨5, rfl⟩, ⟨⟨6, rfl⟩, trivial⟩⟩⟩⟩⟩⟩⟩ .slnil) (fun w1 hS => does_move rfl) ?_
      intro a hA
      refine any_take hA 3 rfl rfl rfl rfl (by kernel_rfl) (by kernel_rfl) (by kernel_rfl) (fun c a w h => hP c a _ _ w h) (hS.part (.cons _ (.cons_cons _ (.cons_cons _ .slnil))) ⟨⟨0, rfl⟩, ⟨⟨1, rfl⟩, ⟨⟨2, rfl⟩, ⟨⟨3, rfl⟩, ⟨⟨4, rfl⟩, ⟨⟨5, rfl⟩, ⟨⟨6, rfl⟩, trivial⟩⟩⟩⟩⟩⟩⟩ .slnil) (fun w1 hS => does_move rfl) ?_
      intro a hA
      refine any_take hA 5 rfl rfl rfl rfl (by kernel_rfl) (by kernel_rfl) (by kernel_rfl) (fun c a w h => hP c a _ _ w h) (hS.part (.cons _ (.cons_cons _ (.cons_cons _ .slnil))) ⟨⟨0, rfl⟩, ⟨⟨1, rfl⟩, ⟨⟨2, rfl⟩, ⟨⟨3, rfl⟩, ⟨⟨4, rfl⟩, ⟨⟨5, rfl⟩, ⟨⟨6, rfl⟩, trivial⟩⟩⟩⟩⟩⟩⟩ .slnil) (fun w1 hS => does_move rfl) ?_
      intro a hA
      refine any_one (by kernel_rfl) (op_call hA 4 rfl rfl rfl rfl (enters_func  rfl rfl (fun w => by kernel_rfl)) (rless_any _ _ (hS.rd 1 rfl) (hS.rd 2 rfl) (by omega) (by omega)) ?_)
      rintro _ w51 ⟨ro47, rc48, rfl, ho49, hb50⟩
      replace hS := hS.call hb50
      replace hS := hS.addR ho49.rd
      refine ⟨_, rfl, (hS.part (.cons _ (.cons_cons _ (.cons_cons _ .slnil))) ⟨⟨1, rfl⟩, ⟨⟨2, rfl⟩, ⟨⟨3, rfl⟩, ⟨⟨4, rfl⟩, ⟨⟨5, rfl⟩, ⟨⟨6, rfl⟩, ⟨⟨7, rfl⟩, trivial⟩⟩⟩⟩⟩⟩⟩ .slnil), ?_⟩
      intro a hA
      refine any_one (by kernel_rfl) (op_call hA 6 rfl rfl rfl rfl (enters_func  rfl rfl (fun w => by kernel_rfl)) (rratI_any false ⟨(hS.rd 0 rfl), ho49.nocap, ho49.caps⟩ ⟨(hS.rd 1 rfl), ho22.nocap, ho22.caps⟩ (by omega) (by omega) hd0 (z := Z) (hzD2 (of_decide_eq_false hb29))) ?_)
      rintro _ w56 ⟨f52_1, f52_c1, f52_2, f52_c2, rfl, hs53, hs54, hb55⟩
      replace hS := hS.call hb55
      replace hS := hS.addR hs53.rd
      replace hS := hS.addR hs54.rd
      refine ⟨_, rfl, (hS.part (.cons _ (.cons_cons _ (.cons_cons _ .slnil))) ⟨⟨3, rfl⟩, ⟨⟨4, rfl⟩, ⟨⟨5, rfl⟩, ⟨⟨6, rfl⟩, ⟨⟨7, rfl⟩, ⟨⟨8, rfl⟩, ⟨⟨9, rfl⟩, trivial⟩⟩⟩⟩⟩⟩⟩ .slnil), ?_⟩
      intro a hA
      refine any_one (by kernel_rfl) (op_store (us := [.bool (rb Z), .slice f52_1 ((words (rt Z (y1 * y2))).length) f52_c1, .slice f52_2 ((words (rq Z (y1 * y2))).length) f52_c2]) hA hS 7 rfl rfl rfl (sets_store (cs := [.bool (rb Z), .slice f52_1 ((words (rt Z (y1 * y2))).length) f52_c1, .slice f52_2 ((words (rq Z (y1 * y2))).length) f52_c2]) rfl rfl rfl (by kernel_rfl) hS 0 rfl rfl rfl) 0 rfl rfl rfl rfl ?_)
      intro w57 hS
      refine ⟨(hS.part (.cons _ (.cons_cons _ (.cons_cons _ .slnil))) ⟨⟨3, rfl⟩, ⟨⟨4, rfl⟩, ⟨⟨5, rfl⟩, ⟨⟨6, rfl⟩, ⟨⟨7, rfl⟩, ⟨⟨8, rfl⟩, ⟨⟨9, rfl⟩, trivial⟩⟩⟩⟩⟩⟩⟩ .slnil), ?_⟩
      refine any_end (by kernel_rfl) ?_
      refine hK46 _ _ ?_
      refine wp_ret ?_
      refine hret _ _ ?_
      refine ends (v := .agg #[.bool (rb Z), .slice f52_1 ((words (rt Z (y1 * y2))).length) f52_c1, .slice f52_2 ((words (rq Z (y1 * y2))).length) f52_c2]) hA rfl (.cons (res_cell hS isS_24 rfl 0 rfl (cs := [.bool (rb Z), .slice f52_1 ((words (rt Z (y1 * y2))).length) f52_c1, .slice f52_2 ((words (rq Z (y1 * y2))).length) f52_c2]) rfl rfl) .nil) rfl ?_
      exact ⟨f52_1, f52_c1, f52_2, f52_c2, rfl, ⟨(hS.rd 1 rfl), hs53.nil, hs53.cap⟩, ⟨(hS.rd 0 rfl), hs54.nil, hs54.cap⟩, hS.bel⟩
  · have hzS : Z = sgn true (x1 * y2 + x2 * y1) := by rw [← hZ]; exact sum_same true _ _
    have hS : St w w [] [(u2, words y2), (u1, words x2), (a2, words y1), (a1, words x1)] [] := ((((St.start w).addR ha1.rd).addR ha2.rd).addR hu1.rd).addR hu2.rd
    refine walk_of (l := [(0, .agg #[.bool true, .slice a1 ((words x1).length) ac1, .slice a2 ((words y1).length) ac2]), (1, .agg #[.bool true, .slice u1 ((words x2).length) uc1, .slice u2 ((words y2).length) uc2])]) Try.func57 rfl Try.ntmps57 rfl rfl ?_
    intro Q hret hnorm hP a hA
    refine wp_seq_k (fun K1 hK1 => ?_)
    refine wp_region_lit ?_
    refine seq_new (vs := [.bool true, .slice a1 ((words x1).length) ac1, .slice a2 ((words y1).length) ac2]) (t := 24) hA hS rfl rfl rfl (fun g => .pointer (some ⟨g, 0, none⟩)) (does_box rfl rfl) rfl ?_
    intro g2 w3 hS a hA
    refine seq_new (vs := [.bool true, .slice u1 ((words x2).length) uc1, .slice u2 ((words y2).length) uc2]) (t := 24) hA hS rfl rfl rfl (fun g => .pointer (some ⟨g, 0, none⟩)) (does_box rfl rfl) rfl ?_
    intro g4 w5 hS a hA
    refine seq_new (vs := [.bool false, .slice none 0 0, .slice none 0 0]) (t := 24) hA hS rfl rfl rfl (fun g => .pointer (some ⟨g, 0, none⟩)) (does_alloc (z := .agg #[.bool false, .slice none 0 0, .slice none 0 0]) (by kernel_rfl) rfl) rfl ?_
    intro g6 w7 hS a hA
    refine seq_end ?_
    refine hK1 _ _ ?_
    refine wp_seq_k (fun K8 hK8 => ?_)
    refine wp_draw (S := fun w1 => St w w1 [(g6, [.bool false, .slice none 0 0, .slice none 0 0]), (g4, [.bool true, .slice u1 ((words x2).length) uc1, .slice u2 ((words y2).length) uc2]), (g2, [.bool true, .slice a1 ((words x1).length) ac1, .slice a2 ((words y1).length) ac2])] [(u2, words y2), (u1, words x2), (a2, words y1), (a1, words x1)] []) (by kernel_rfl) ?_
    replace hS := hS.drew
    refine any_take (v := .pointer (some ⟨g2, 1, none⟩)) hA 0 rfl rfl rfl rfl (by kernel_rfl) (by kernel_rfl) (by kernel_rfl) (fun c a w h => hP c a _ _ w h) (hS.part (.cons_cons _ (.cons_cons _ (.cons_cons _ .slnil))) ⟨⟨0, rfl⟩, ⟨⟨1, rfl⟩, ⟨⟨2, rfl⟩, ⟨⟨3, rfl⟩, trivial⟩⟩⟩⟩ .slnil) (fun w1 hS => does_field fld_24_1 rfl rfl) ?_
    intro a hA
    refine any_take hA 1 rfl rfl rfl rfl (by kernel_rfl) (by kernel_rfl) (by kernel_rfl) (fun c a w h => hP c a _ _ w h) (hS.part (.cons_cons _ (.cons_cons _ (.cons_cons _ .slnil))) ⟨⟨0, rfl⟩, ⟨⟨1, rfl⟩, ⟨⟨2, rfl⟩, ⟨⟨3, rfl⟩, trivial⟩⟩⟩⟩ .slnil) (fun w1 hS => does_load1 hS is1_22 rfl 2 rfl rfl) ?_
    intro a hA
    refine any_take (v := .pointer (some ⟨g4, 2, none⟩)) hA 2 rfl rfl rfl rfl (by kernel_rfl) (by kernel_rfl) (by kernel_rfl) (fun c a w h => hP c a _ _ w h) (hS.part (.cons_cons _ (.cons_cons _ (.cons_cons _ .slnil))) ⟨⟨0, rfl⟩, ⟨⟨1, rfl⟩, ⟨⟨2, rfl⟩, ⟨⟨3, rfl⟩, trivial⟩⟩⟩⟩ .slnil) (fun w1 hS => does_field fld_24_2 rfl rfl) ?_
    intro a hA
    refine any_take hA 3 rfl rfl rfl rfl (by kernel_rfl) (by kernel_rfl) (by kernel_rfl) (fun c a w h => hP c a _ _ w h) (hS.part (.cons_cons _ (.cons_cons _ (.cons_cons _ .slnil))) ⟨⟨0, rfl⟩, ⟨⟨1, rfl⟩, ⟨⟨2, rfl⟩, ⟨⟨3, rfl⟩, trivial⟩⟩⟩⟩ .slnil) (fun w1 hS => does_load1 hS is1_22 rfl 1 rfl rfl) ?_
    intro a hA
    refine any_take (v := .pointer (some ⟨g4, 1, none⟩)) hA 5 rfl rfl rfl rfl (by kernel_rfl) (by kernel_rfl) (by kernel_rfl) (fun c a w h => hP c a _ _ w h) (hS.part (.cons_cons _ (.cons_cons _ (.cons_cons _ .slnil))) ⟨⟨0, rfl⟩, ⟨⟨1, rfl⟩, ⟨⟨2, rfl⟩, ⟨⟨3, rfl⟩, trivial⟩⟩⟩⟩ .slnil) (fun w1 hS => does_field fld_24_1 rfl rfl) ?_
    intro a hA
    refine any_take hA 6 rfl rfl rfl rfl (by kernel_rfl) (by kernel_rfl) (by kernel_rfl) (fun c a w h => hP c a _ _ w h) (hS.part (.cons_cons _ (.cons_cons _ (.cons_cons _ .slnil))) ⟨⟨0, rfl⟩, ⟨⟨1, rfl⟩, ⟨⟨2, rfl⟩, ⟨⟨3, rfl⟩, trivial⟩⟩⟩⟩ .slnil) (fun w1 hS => does_load1 hS is1_22 rfl 1 rfl rfl) ?_
    intro a hA
    refine any_take (v := .pointer (some ⟨g2, 2, none⟩)) hA 7 rfl rfl rfl rfl (by kernel_rfl) (by kernel_rfl) (by kernel_rfl) (fun c a w h => hP c a _ _ w h) (hS.part (.cons_cons _ (.cons_cons _ (.cons_cons _ .slnil))) ⟨⟨0, rfl⟩, ⟨⟨1, rfl⟩, ⟨⟨2, rfl⟩, ⟨⟨3, rfl⟩, trivial⟩⟩⟩⟩ .slnil) (fun w1 hS => does_field fld_24_2 rfl rfl) ?_
    intro a hA
    refine any_take hA 8 rfl rfl rfl rfl (by kernel_rfl) (by kernel_rfl) (by kernel_rfl) (fun c a w h => hP c a _ _ w h) (hS.part (.cons_cons _ (.cons_cons _ (.cons_cons _ .slnil))) ⟨⟨0, rfl⟩, ⟨⟨1, rfl⟩, ⟨⟨2, rfl⟩, ⟨⟨3, rfl⟩, trivial⟩⟩⟩⟩ .slnil) (fun w1 hS => does_load1 hS is1_22 rfl 2 rfl rfl) ?_
    intro a hA
    refine any_one (by kernel_rfl) (op_call hA 4 rfl rfl rfl rfl (enters_func  rfl rfl (fun w => by kernel_rfl)) (rtimes_any _ _ (hS.rd 3 rfl) (hS.rd 0 rfl) (by omega) (by omega)) ?_)
    rintro _ w13 ⟨ro9, rc10, rfl, ho11, hb12⟩
    replace hS := hS.call hb12
    replace hS := hS.addR ho11.rd
    refine ⟨_, rfl, (hS.part (.cons_cons _ (.cons_cons _ (.cons_cons _ .slnil))) ⟨⟨1, rfl⟩, ⟨⟨2, rfl⟩, ⟨⟨3, rfl⟩, ⟨⟨4, rfl⟩, trivial⟩⟩⟩⟩ .slnil), ?_⟩
    intro a hA
    refine any_one (by kernel_rfl) (op_call hA 9 rfl rfl rfl rfl (enters_func  rfl rfl (fun w => by kernel_rfl)) (rtimes_any _ _ (hS.rd 2 rfl) (hS.rd 3 rfl) (by omega) (by omega)) ?_)
    rintro _ w18 ⟨ro14, rc15, rfl, ho16, hb17⟩
    replace hS := hS.call hb17
    replace hS := hS.addR ho16.rd
    refine ⟨_, rfl, (hS.part (.cons_cons _ (.cons_cons _ (.cons_cons _ .slnil))) ⟨⟨2, rfl⟩, ⟨⟨3, rfl⟩, ⟨⟨4, rfl⟩, ⟨⟨5, rfl⟩, trivial⟩⟩⟩⟩ .slnil), ?_⟩
    intro a hA
    refine any_take hA 10 rfl rfl rfl rfl (by kernel_rfl) (by kernel_rfl) (by kernel_rfl) (fun c a w h => hP c a _ _ w h) (hS.part (.cons_cons _ (.cons_cons _ (.cons_cons _ .slnil))) ⟨⟨2, rfl⟩, ⟨⟨3, rfl⟩, ⟨⟨4, rfl⟩, ⟨⟨5, rfl⟩, trivial⟩⟩⟩⟩ .slnil) (fun w1 hS => does_assign rfl) ?_
    intro a hA
    refine any_take hA 11 rfl rfl rfl rfl (by kernel_rfl) (by kernel_rfl) (by kernel_rfl) (fun c a w h => hP c a _ _ w h) (hS.part (.cons_cons _ (.cons_cons _ (.cons_cons _ .slnil))) ⟨⟨2, rfl⟩, ⟨⟨3, rfl⟩, ⟨⟨4, rfl⟩, ⟨⟨5, rfl⟩, trivial⟩⟩⟩⟩ .slnil) (fun w1 hS => does_assign rfl) ?_
    intro a hA
    refine any_end (by kernel_rfl) ?_
    refine hK8 _ _ ?_
    refine wp_seq_k (fun K19 hK19 => ?_)
    refine wp_region_lit ?_
    refine seq_do (v := .pointer (some ⟨g2, 2, none⟩)) hA rfl rfl rfl (does_field fld_24_2 rfl rfl) ?_
    intro a hA
    refine seq_do hA rfl rfl rfl (does_load1 hS is1_22 rfl 2 rfl rfl) ?_
    intro a hA
    refine seq_do (v := .pointer (some ⟨g4, 2, none⟩)) hA rfl rfl rfl (does_field fld_24_2 rfl rfl) ?_
    intro a hA
    refine seq_do hA rfl rfl rfl (does_load1 hS is1_22 rfl 1 rfl rfl) ?_
    intro a hA
    refine seq_call hA rfl rfl rfl (enters_func  rfl rfl (fun w => by kernel_rfl)) (rtimes_any _ _ (hS.rd 4 rfl) (hS.rd 2 rfl) (by omega) (by omega)) ?_
    rintro _ w24 ⟨ro20, rc21, rfl, ho22, hb23⟩
    replace hS := hS.call hb23
    replace hS := hS.addR ho22.rd
    refine ⟨_, rfl, ?_⟩
    intro a hA
    refine seq_do hA rfl rfl rfl (does_assign rfl) ?_
    intro a hA
    refine seq_end ?_
    refine hK19 _ _ ?_
    refine wp_seq_k (fun K25 hK25 => ?_)
    refine wp_seq_k (fun K26 hK26 => ?_)
    refine wp_region_lit ?_
    refine seq_do (v := .pointer (some ⟨g2, 0, none⟩)) hA rfl rfl rfl (does_field fld_24_0 rfl rfl) ?_
    intro a hA
    refine seq_do hA rfl rfl rfl (does_load1 hS is1_4 rfl 2 rfl rfl) ?_
    intro a hA
    refine seq_do (v := .pointer (some ⟨g4, 0, none⟩)) hA rfl rfl rfl (does_field fld_24_0 rfl rfl) ?_
    intro a hA
    refine seq_do hA rfl rfl rfl (does_load1 hS is1_4 rfl 1 rfl rfl) ?_
    intro a hA
    refine seq_do (v := .bool true) hA rfl rfl rfl (does_bin rfl rfl (bin_eqlB Try.underlying4)) ?_
    intro a hA
    refine seq_end ?_
    refine hK26 _ _ ?_
    refine wp_cond_true (hA.ev rfl) ?_
    refine wp_seq_k (fun K27 hK27 => ?_)
    refine wp_draw (S := fun w1 => St w w1 [(g4, [.bool true, .slice u1 ((words x2).length) uc1, .slice u2 ((words y2).length) uc2]), (g2, [.bool true, .slice a1 ((words x1).length) ac1, .slice a2 ((words y1).length) ac2])] [(ro20, words (y1 * y2)), (ro14, words (x2 * y1)), (ro9, words (x1 * y2)), (u2, words y2), (u1, words x2), (a2, words y1), (a1, words x1)] []) (by kernel_rfl) ?_
    replace hS := hS.drew
    refine any_take (v := .pointer (some ⟨g2, 0, none⟩)) hA 0 rfl rfl rfl rfl (by kernel_rfl) (by kernel_rfl) (by kernel_rfl) (fun c a w h => hP c a _ _ w h) (hS.part (.cons _ (.cons_cons _ (.cons_cons _ .slnil))) ⟨⟨0, rfl⟩, ⟨⟨1, rfl⟩, ⟨⟨2, rfl⟩, ⟨⟨3, rfl⟩, ⟨⟨4, rfl⟩, ⟨⟨5, rfl⟩, ⟨⟨6, rfl⟩, trivial⟩⟩⟩⟩⟩⟩⟩ .slnil) (fun w1 hS => does_field fld_24_0 rfl rfl) ?_
    intro a hA
    refine any_take hA 1 rfl rfl rfl rfl (by kernel_rfl) (by kernel_rfl) (by kernel_rfl) (fun c a w h => hP c a _ _ w h) (hS.part (.cons _ (.cons_cons _ (.cons_cons _ .slnil))) ⟨⟨0, rfl⟩, ⟨⟨1, rfl⟩, ⟨⟨2, rfl⟩, ⟨⟨3, rfl⟩, ⟨⟨4, rfl⟩, ⟨⟨5, rfl⟩, ⟨⟨6, rfl⟩, trivial⟩⟩⟩⟩⟩⟩⟩ .slnil) (fun w1 hS => does_load1 hS is1_4 rfl 1 rfl rfl) ?_
    intro a hA
    refine any_take hA 2 rfl rfl rfl rfl (by kernel_rfl) (by kernel_rfl) (by kernel_rfl) (fun c a w h => hP c a _ _ w h) (hS.part (.cons _ (.cons_cons _ (.cons_cons _ .slnil))) ⟨⟨0, rfl⟩, ⟨⟨1, rfl⟩, ⟨⟨2, rfl⟩, ⟨⟨3, rfl⟩, ⟨⟨4, rfl⟩, ⟨⟨5, rfl⟩, ⟨⟨6, rfl⟩, trivial⟩⟩⟩⟩⟩⟩⟩ .slnil) (fun w1 hS => does_move rfl) ?_
    intro a hA
    refine any_take hA 3 rfl rfl rfl rfl (by kernel_rfl) (by kernel_rfl) (by kernel_rfl) (fun c a w h => hP c a _ _ w h) (hS.part (.cons _ (.cons_cons _ (.cons_cons _ .slnil))) ⟨⟨0, rfl⟩, ⟨⟨1, rfl⟩, ⟨⟨2, rfl⟩, ⟨⟨3, rfl⟩, ⟨⟨4, rfl⟩, ⟨⟨5, rfl⟩, ⟨⟨6, rfl⟩, trivial⟩⟩⟩⟩⟩⟩⟩ .slnil) (fun w1 hS => does_move rfl) ?_
    intro a hA
    refine any_take hA 5 rfl rfl rfl rfl (by kernel_rfl) (by kernel_rfl) (by kernel_rfl) (fun c a w h => hP c a _ _ w h) (hS.part (.cons _ (.cons_cons _ (.cons_cons _ .slnil))) ⟨⟨0, rfl⟩, ⟨⟨1, rfl⟩, ⟨⟨2, rfl⟩, ⟨⟨3, rfl⟩, ⟨⟨4, rfl⟩, ⟨⟨5, rfl⟩, ⟨⟨6, rfl⟩, trivial⟩⟩⟩⟩⟩⟩⟩ .slnil) (fun w1 hS => does_move rfl) ?_
    intro a hA
    refine any_one (by kernel_rfl) (op_call hA 4 rfl rfl rfl rfl (enters_func  rfl rfl (fun w => by kernel_rfl)) (plus_any _ _ (hS.rd 2 rfl) (hS.rd 1 rfl) (by omega) (by omega)) ?_)
    rintro _ w32 ⟨ro28, rc29, rfl, ho30, hb31⟩
    replace hS := hS.call hb31
    replace hS := hS.addR ho30.rd
    refine ⟨_, rfl, (hS.part (.cons _ (.cons_cons _ (.cons_cons _ .slnil))) ⟨⟨1, rfl⟩, ⟨⟨2, rfl⟩, ⟨⟨3, rfl⟩, ⟨⟨4, rfl⟩, ⟨⟨5, rfl⟩, ⟨⟨6, rfl⟩, ⟨⟨7, rfl⟩, trivial⟩⟩⟩⟩⟩⟩⟩ .slnil), ?_⟩
    intro a hA
    refine any_one (by kernel_rfl) (op_call hA 6 rfl rfl rfl rfl (enters_func  rfl rfl (fun w => by kernel_rfl)) (rratI_any true ⟨(hS.rd 0 rfl), ho30.nocap, ho30.caps⟩ ⟨(hS.rd 1 rfl), ho22.nocap, ho22.caps⟩ (by omega) (by omega) hd0 (z := Z) hzS) ?_)
    rintro _ w37 ⟨f33_1, f33_c1, f33_2, f33_c2, rfl, hs34, hs35, hb36⟩
    replace hS := hS.call hb36
    replace hS := hS.addR hs34.rd
    replace hS := hS.addR hs35.rd
    refine ⟨_, rfl, (hS.part (.cons _ (.cons_cons _ (.cons_cons _ .slnil))) ⟨⟨3, rfl⟩, ⟨⟨4, rfl⟩, ⟨⟨5, rfl⟩, ⟨⟨6, rfl⟩, ⟨⟨7, rfl⟩, ⟨⟨8, rfl⟩, ⟨⟨9, rfl⟩, trivial⟩⟩⟩⟩⟩⟩⟩ .slnil), ?_⟩
    intro a hA
    refine any_one (by kernel_rfl) (op_store (us := [.bool (rb Z), .slice f33_1 ((words (rt Z (y1 * y2))).length) f33_c1, .slice f33_2 ((words (rq Z (y1 * y2))).length) f33_c2]) hA hS 7 rfl rfl rfl (sets_store (cs := [.bool (rb Z), .slice f33_1 ((words (rt Z (y1 * y2))).length) f33_c1, .slice f33_2 ((words (rq Z (y1 * y2))).length) f33_c2]) rfl rfl rfl (by kernel_rfl) hS 0 rfl rfl rfl) 0 rfl rfl rfl rfl ?_)
    intro w38 hS
    refine ⟨(hS.part (.cons _ (.cons_cons _ (.cons_cons _ .slnil))) ⟨⟨3, rfl⟩, ⟨⟨4, rfl⟩, ⟨⟨5, rfl⟩, ⟨⟨6, rfl⟩, ⟨⟨7, rfl⟩, ⟨⟨8, rfl⟩, ⟨⟨9, rfl⟩, trivial⟩⟩⟩⟩⟩⟩⟩ .slnil), ?_⟩
    refine any_end (by kernel_rfl) ?_
    refine hK27 _ _ ?_
    refine wp_ret ?_
    refine hret _ _ ?_
    refine ends (v := .agg #[.bool (rb Z), .slice f33_1 ((words (rt Z (y1 * y2))).length) f33_c1, .slice f33_2 ((words (rq Z (y1 * y2))).length) f33_c2]) hA rfl (.cons (res_cell hS isS_24 rfl 0 rfl (cs := [.bool (rb Z), .slice f33_1 ((words (rt Z (y1 * y2))).length) f33_c1, .slice f33_2 ((words (rq Z (y1 * y2))).length) f33_c2]) rfl rfl) .nil) rfl ?_
    exact ⟨f33_1, f33_c1, f33_2, f33_c2, rfl, ⟨(hS.rd 1 rfl), hs34.nil, hs34.cap⟩, ⟨(hS.rd 0 rfl), hs35.nil, hs35.cap⟩, hS.bel⟩
end Go.Proofs.Yteghiinbafbokaa
namespace Go.Proofs.Yteghiinbafbokaa
open Go.RowKit
set_option linter.unusedVariables false
set_option linter.unusedSimpArgs false

theorem rsumOne_any {w : World} {b1 : Bool} {x : Nat} {a1 a2 : Option Addr} {ac1 ac2 : Nat} (ha1 : Sc w a1 ac1 (words x)) (ha2 : Sc w a2 ac2 [1]) {u1 u2 : Option Addr} {uc1 uc2 : Nat} (hu1 : Sc w u1 uc1 [1]) (hu2 : Sc w u2 uc2 [1]) (hx : (words x).length ≤ 3000) {c : Bool} {y : Nat} (hy : sgn b1 x + (-1) = sgn c y) (hc : (c && decide (0 < y)) = c) :
    Calls Try.prog 57 #[.agg #[.bool b1, .slice a1 (words x).length ac1, .slice a2 1 ac2], .agg #[.bool true, .slice u1 1 uc1, .slice u2 1 uc2]] w (AnsF w c (words y) [1]) := by
  have h1 : (words 1).length = 1 := by rw [words_one]; rfl
  rw [← words_one] at hu1 hu2 ha2
  have h := rsum_any (b1 := b1) (b2 := true) ha1 ha2 hu1 hu2 hx (by omega) (by omega) (by omega) (by omega) (by omega)
  have e : sgn b1 x * ((1 : Nat) : Int) + sgn true 1 * ((1 : Nat) : Int) = sgn c y := by rw [← hy]; simp [sgn]
  rw [e] at h
  have e1 : rb (sgn c y) = c := by unfold rb; rw [sgn_neg]; exact hc
  have e2 : rt (sgn c y) (1 * 1) = y := by unfold rt; rw [sgn_abs]; simp
  have e3 : rq (sgn c y) (1 * 1) = 1 := by unfold rq; simp
  rw [e1, e2, e3, h1, words_one] at h
  exact h
/-- The size of -a - 1. -/
def turnN (b : Bool) (x : Nat) : Nat := cond b (x - 1) (x + 1)
theorem shift_down {w : World} {ao : Option Addr} {x : Nat} (ca k : Nat) (ha : Rd w ao (words x)) (hx : (words x).length ≤ 512) (hk : k ≤ 16384) :
    Calls Try.prog 38 #[.slice ao (words x).length ca, .int .i64 (-(k : Int))] w fun e w' => ∃ ro rc, e = .returned (.tuple #[.slice ro (words (x / 2 ^ k)).length rc, .int .i64 0]) ∧ Own w.heap.size w' ro rc (words (x / 2 ^ k)) ∧ Below w.heap.size w w' := by
  have h := shift_any ca (-(k : Int)) ha (by omega) (by omega) (by omega)
  have e : shiftS (words x) (-(k : Int)) = (words (x / 2 ^ k), 0) := by
    unfold shiftS
    rw [if_pos (sound_of_words hx), if_neg (by omega), val_words]
    by_cases h0 : k = 0
    · subst h0
      simp only [Int.ofNat_eq_natCast, Int.natCast_zero, Int.neg_zero, Int.lt_irrefl, if_false, Int.toNat_zero, Nat.pow_zero, Nat.mul_one, Nat.div_one]
      unfold fitS
      rw [if_pos hx]
    · rw [if_pos (by omega)]
      have : (-(-(k : Int))).toNat = k := by omega
      rw [this]
  rw [e] at h
  exact h
theorem shift_up {w : World} {ao : Option Addr} {x : Nat} (ca k : Nat) (ha : Rd w ao (words x)) (hx : (words x).length ≤ 512) (hk : k ≤ 16384) :
    Calls Try.prog 38 #[.slice ao (words x).length ca, .int .i64 ((k : Nat) : Int)] w (Ans w (fitS (x * 2 ^ k))) := by
  have h := shift_any ca (k : Int) ha (by omega) (by omega) (by omega)
  have e : shiftS (words x) (k : Int) = fitS (x * 2 ^ k) := by
    unfold shiftS
    rw [if_pos (sound_of_words hx), if_neg (by omega), val_words, if_neg (by omega), Int.toNat_natCast]
  rw [e] at h
  exact h
theorem shift_fit {w : World} {ao : Option Addr} {x : Nat} (ca k : Nat) (ha : Rd w ao (words x)) (hx : (words x).length ≤ 512) (hk : k ≤ 16384) (h : (words (x * 2 ^ k)).length ≤ 512) :
    Calls Try.prog 38 #[.slice ao (words x).length ca, .int .i64 ((k : Nat) : Int)] w fun e w' => ∃ ro rc, e = .returned (.tuple #[.slice ro (words (x * 2 ^ k)).length rc, .int .i64 0]) ∧ Own w.heap.size w' ro rc (words (x * 2 ^ k)) ∧ Below w.heap.size w w' := by
  have := shift_up ca k ha hx hk
  unfold fitS at this
  rw [if_pos h] at this
  exact this
theorem shift_big {w : World} {ao : Option Addr} {x : Nat} (ca k : Nat) (ha : Rd w ao (words x)) (hx : (words x).length ≤ 512) (hk : k ≤ 16384) (h : ¬ (words (x * 2 ^ k)).length ≤ 512) :
    Calls Try.prog 38 #[.slice ao (words x).length ca, .int .i64 ((k : Nat) : Int)] w fun e w' => ∃ ro rc, e = .returned (.tuple #[.slice ro 0 rc, .int .i64 4]) ∧ Own w.heap.size w' ro rc [] ∧ Below w.heap.size w w' := by
  have := shift_up ca k ha hx hk
  unfold fitS at this
  rw [if_neg h] at this
  exact this
theorem shift_downI {w : World} {ao : Option Addr} {x : Nat} (ca : Nat) {n : Int} (ha : Rd w ao (words x)) (hx : (words x).length ≤ 512) (h0 : 0 ≤ n) (h1 : n ≤ 16384) :
    Calls Try.prog 38 #[.slice ao (words x).length ca, .int .i64 (-n)] w fun e w' => ∃ ro rc, e = .returned (.tuple #[.slice ro (words (x / 2 ^ n.toNat)).length rc, .int .i64 0]) ∧ Own w.heap.size w' ro rc (words (x / 2 ^ n.toNat)) ∧ Below w.heap.size w w' := by
  obtain ⟨k, rfl⟩ := Int.eq_ofNat_of_zero_le h0
  rw [Int.toNat_natCast]
  exact shift_down ca k ha hx (by omega)
theorem shift_fitI {w : World} {ao : Option Addr} {x : Nat} (ca : Nat) {n : Int} (ha : Rd w ao (words x)) (hx : (words x).length ≤ 512) (h0 : 0 ≤ n) (h1 : n ≤ 16384) (h : (words (x * 2 ^ n.toNat)).length ≤ 512) :
    Calls Try.prog 38 #[.slice ao (words x).length ca, .int .i64 n] w fun e w' => ∃ ro rc, e = .returned (.tuple #[.slice ro (words (x * 2 ^ n.toNat)).length rc, .int .i64 0]) ∧ Own w.heap.size w' ro rc (words (x * 2 ^ n.toNat)) ∧ Below w.heap.size w w' := by
  obtain ⟨k, rfl⟩ := Int.eq_ofNat_of_zero_le h0
  rw [Int.toNat_natCast] at h ⊢
  exact shift_fit ca k ha hx (by omega) h
theorem shift_bigI {w : World} {ao : Option Addr} {x : Nat} (ca : Nat) {n : Int} (ha : Rd w ao (words x)) (hx : (words x).length ≤ 512) (h0 : 0 ≤ n) (h1 : n ≤ 16384) (h : ¬ (words (x * 2 ^ n.toNat)).length ≤ 512) :
    Calls Try.prog 38 #[.slice ao (words x).length ca, .int .i64 n] w fun e w' => ∃ ro rc, e = .returned (.tuple #[.slice ro 0 rc, .int .i64 4]) ∧ Own w.heap.size w' ro rc [] ∧ Below w.heap.size w w' := by
  obtain ⟨k, rfl⟩ := Int.eq_ofNat_of_zero_le h0
  rw [Int.toNat_natCast] at h
  exact shift_big ca k ha hx (by omega) h
theorem rupI_any {w : World} {ao : Option Addr} {x : Nat} (ca : Nat) {n : Int} (ha : Rd w ao (words x)) (hx : (words x).length ≤ 100000) (h0 : 0 ≤ n) (h1 : n ≤ 1000000) :
    Calls Try.prog 41 #[.slice ao (words x).length ca, .int .i64 n] w (Row1 w (words (x * 2 ^ n.toNat))) := by
  obtain ⟨k, rfl⟩ := Int.eq_ofNat_of_zero_le h0
  rw [Int.toNat_natCast]
  exact rup_any ca k ha hx (by omega)
theorem rdownI_any {w : World} {ao : Option Addr} {x : Nat} (ca : Nat) {n : Int} (ha : Rd w ao (words x)) (hx : (words x).length ≤ 100000) (h0 : 0 ≤ n) (h1 : n ≤ 1000000) :
    Calls Try.prog 42 #[.slice ao (words x).length ca, .int .i64 n] w (Row1 w (words (x / 2 ^ n.toNat))) := by
  obtain ⟨k, rfl⟩ := Int.eq_ofNat_of_zero_le h0
  rw [Int.toNat_natCast]
  exact rdown_any ca k ha hx (by omega)
/-- A number's bits, shifted. -/
def shiftQ (q : Q6) (n : Int) : Q6 × Int :=
  if want1 q = 0 then
    (if n < -16384 ∨ 16384 < n then (Q6.zero, 1)
     else if n < 0 then bigS q.b1 ((val q.t1 - q.b1.toNat) / 2 ^ (-n).toNat + q.b1.toNat)
     else bigS q.b1 (val q.t1 * 2 ^ n.toNat))
  else (Q6.zero, want1 q)
theorem shiftQ_err {q : Q6} {n : Int} (h : (want1 q != 0) = true) : shiftQ q n = (Q6.zero, want1 q) := by
  unfold shiftQ
  rw [if_neg (bne_iff_ne.1 h)]
theorem shiftQ_arg {b : Bool} {x : Nat} {n : Int} (h : want1 (Q6.whole b x) = 0) (hn : n < -16384 ∨ 16384 < n) : shiftQ (Q6.whole b x) n = (Q6.zero, 1) := by
  unfold shiftQ
  rw [if_pos h, if_pos hn]
theorem shiftQ_down {b : Bool} {x : Nat} {n : Int} (h : want1 (Q6.whole b x) = 0) (h0 : -16384 ≤ n) (h1 : n < 0) : shiftQ (Q6.whole b x) n = bigS b ((x - b.toNat) / 2 ^ (-n).toNat + b.toNat) := by
  unfold shiftQ
  rw [if_pos h, if_neg (by omega), if_pos h1]
  simp only [Q6.whole, val_words]
theorem shiftQ_up {b : Bool} {x : Nat} {n : Int} (h : want1 (Q6.whole b x) = 0) (h0 : 0 ≤ n) (h1 : n ≤ 16384) : shiftQ (Q6.whole b x) n = bigS b (x * 2 ^ n.toNat) := by
  unfold shiftQ
  rw [if_pos h, if_neg (by omega), if_neg (by omega)]
  simp only [Q6.whole, val_words]
theorem want1_cases (q : Q6) : (want1 q = 0 ∧ wholeQ q = true) ∨ ((want1 q != 0) = true ∧ wholeQ q = false) := by
  unfold want1
  cases h1 : soundQ q with
  | false =>
    refine .inr ⟨by simp, ?_⟩
    unfold wholeQ
    rw [h1]
    rfl
  | true =>
    cases h2 : wholeQ q with
    | false => exact .inr ⟨by simp, rfl⟩
    | true => exact .inl ⟨by simp, rfl⟩
end Go.Proofs.Yteghiinbafbokaa
namespace Go.Proofs.Yteghiinbafbokaa
open Go.RowKit
set_option linter.unusedVariables false
set_option linter.unusedSimpArgs false
set_option maxRecDepth 100000

theorem rturn_any {w : World} {b : Bool} {x : Nat} {a1 a2 a3 a4 : Option Addr} {ac1 ac2 ac3 ac4 : Nat} (ha : Nm w (Q6.whole b x) a1 ac1 a2 ac2 a3 ac3 a4 ac4) (hx : (words x).length ≤ 3000) (hb : b.toNat ≤ x) : Calls Try.prog 33 #[numV (Q6.whole b x) a1 ac1 a2 ac2 a3 ac3 a4 ac4] w (AnsV w (Q6.whole (!b) (turnN b x))) := by
  cases b
  · have hS : St w w [] [(a4, [1]), (a3, []), (a2, [1]), (a1, words x)] [] := ((((St.start w).addR ha.s1.rd).addR ha.s2.rd).addR ha.s3.rd).addR ha.s4.rd
    refine walk_of (l := [(0, .agg #[.bool false, .slice a1 ((words x).length) ac1, .slice a2 1 ac2, .bool false, .slice a3 0 ac3, .slice a4 1 ac4])]) Try.func33 rfl Try.ntmps33 rfl rfl ?_
    intro Q hret hnorm hP a hA
    refine wp_seq_k (fun K1 hK1 => ?_)
    refine wp_region_lit ?_
    refine seq_new (vs := [.bool false, .slice a1 ((words x).length) ac1, .slice a2 1 ac2, .bool false, .slice a3 0 ac3, .slice a4 1 ac4]) (t := 26) hA hS rfl rfl rfl (fun g => .pointer (some ⟨g, 0, none⟩)) (does_box rfl rfl) rfl ?_
    intro g2 w3 hS a hA
    refine seq_new (vs := [.bool false, .slice none 0 0, .slice none 0 0, .bool false, .slice none 0 0, .slice none 0 0]) (t := 26) hA hS rfl rfl rfl (fun g => .pointer (some ⟨g, 0, none⟩)) (does_alloc (z := .agg #[.bool false, .slice none 0 0, .slice none 0 0, .bool false, .slice none 0 0, .slice none 0 0]) (by kernel_rfl) rfl) rfl ?_
    intro g4 w5 hS a hA
    refine seq_end ?_
    refine hK1 _ _ ?_
    refine wp_seq_k (fun K6 hK6 => ?_)
    refine wp_region_lit ?_
    refine seq_newU (us := [1]) (t := 41) (m := 1) hA hS rfl rfl rfl (does_buildSlice rfl (by kernel_rfl)) (by first | (simp [Dig]; done) | (intro z hz; simp only [List.mem_singleton] at hz; omega)) ?_
    intro g7 w8 hS a hA
    refine seq_newU (us := [1]) (t := 41) (m := 1) hA hS rfl rfl rfl (does_buildSlice rfl (by kernel_rfl)) (by first | (simp [Dig]; done) | (intro z hz; simp only [List.mem_singleton] at hz; omega)) ?_
    intro g9 w10 hS a hA
    refine seq_do (v := .agg #[.bool false, .slice (some ⟨g7, 0, none⟩) 1 1, .slice (some ⟨g9, 0, none⟩) 1 1]) hA rfl rfl rfl (does_build rfl (fun w => by kernel_rfl)) ?_
    intro a hA
    refine seq_new (vs := [.bool false, .slice none 0 0, .slice none 0 0]) (t := 24) hA hS rfl rfl rfl (fun g => .pointer (some ⟨g, 0, none⟩)) (does_alloc (z := .agg #[.bool false, .slice none 0 0, .slice none 0 0]) (by kernel_rfl) rfl) rfl ?_
    intro g11 w12 hS a hA
    refine seq_store (us := [.bool false, .slice (some ⟨g7, 0, none⟩) 1 1, .slice (some ⟨g9, 0, none⟩) 1 1]) hA hS rfl rfl (sets_store (cs := [.bool false, .slice (some ⟨g7, 0, none⟩) 1 1, .slice (some ⟨g9, 0, none⟩) 1 1]) rfl rfl rfl (by kernel_rfl) hS 0 rfl rfl rfl) 0 rfl rfl rfl rfl ?_
    intro w13 hS
    refine seq_end ?_
    refine hK6 _ _ ?_
    refine wp_seq_k (fun K14 hK14 => ?_)
    refine wp_draw (S := fun w1 => St w w1 [(g11, [.bool false, .slice (some ⟨g7, 0, none⟩) 1 1, .slice (some ⟨g9, 0, none⟩) 1 1]), (g2, [.bool false, .slice a1 ((words x).length) ac1, .slice a2 1 ac2, .bool false, .slice a3 0 ac3, .slice a4 1 ac4])] [(some ⟨g9, 0, none⟩, [1]), (some ⟨g7, 0, none⟩, [1]), (a4, [1]), (a3, []), (a2, [1]), (a1, words x)] []) (by kernel_rfl) ?_
    replace hS := hS.drew
    refine any_take (v := .pointer (some ⟨g2, 0, none⟩)) hA 0 rfl rfl rfl rfl (by kernel_rfl) (by kernel_rfl) (by kernel_rfl) (fun c a w h => hP c a _ _ w h) (hS.part (.cons_cons _ (.cons _ (.cons_cons _ .slnil))) ⟨⟨0, rfl⟩, ⟨⟨1, rfl⟩, ⟨⟨2, rfl⟩, ⟨⟨3, rfl⟩, ⟨⟨4, rfl⟩, ⟨⟨5, rfl⟩, trivial⟩⟩⟩⟩⟩⟩ .slnil) (fun w1 hS => does_field fld_26_0 rfl rfl) ?_
    intro a hA
    refine any_take (v := .agg #[.bool false, .slice a1 ((words x).length) ac1, .slice a2 1 ac2]) hA 1 rfl rfl rfl rfl (by kernel_rfl) (by kernel_rfl) (by kernel_rfl) (fun c a w h => hP c a _ _ w h) (hS.part (.cons_cons _ (.cons _ (.cons_cons _ .slnil))) ⟨⟨0, rfl⟩, ⟨⟨1, rfl⟩, ⟨⟨2, rfl⟩, ⟨⟨3, rfl⟩, ⟨⟨4, rfl⟩, ⟨⟨5, rfl⟩, trivial⟩⟩⟩⟩⟩⟩ .slnil) (fun w1 hS => does_loadS hS isS_24 rfl 1 rfl (cs := [.bool false, .slice a1 ((words x).length) ac1, .slice a2 1 ac2]) rfl rfl) ?_
    intro a hA
    refine any_take (v := .agg #[.bool false, .slice (some ⟨g7, 0, none⟩) 1 1, .slice (some ⟨g9, 0, none⟩) 1 1]) hA 3 rfl rfl rfl rfl (by kernel_rfl) (by kernel_rfl) (by kernel_rfl) (fun c a w h => hP c a _ _ w h) (hS.part (.cons_cons _ (.cons _ (.cons_cons _ .slnil))) ⟨⟨0, rfl⟩, ⟨⟨1, rfl⟩, ⟨⟨2, rfl⟩, ⟨⟨3, rfl⟩, ⟨⟨4, rfl⟩, ⟨⟨5, rfl⟩, trivial⟩⟩⟩⟩⟩⟩ .slnil) (fun w1 hS => does_loadS hS isS_24 rfl 0 rfl (cs := [.bool false, .slice (some ⟨g7, 0, none⟩) 1 1, .slice (some ⟨g9, 0, none⟩) 1 1]) rfl rfl) ?_
    intro a hA
    refine any_take (v := .pointer (some ⟨g2, 3, none⟩)) hA 6 rfl rfl rfl rfl (by kernel_rfl) (by kernel_rfl) (by kernel_rfl) (fun c a w h => hP c a _ _ w h) (hS.part (.cons_cons _ (.cons _ (.cons_cons _ .slnil))) ⟨⟨0, rfl⟩, ⟨⟨1, rfl⟩, ⟨⟨2, rfl⟩, ⟨⟨3, rfl⟩, ⟨⟨4, rfl⟩, ⟨⟨5, rfl⟩, trivial⟩⟩⟩⟩⟩⟩ .slnil) (fun w1 hS => does_field fld_26_1 rfl rfl) ?_
    intro a hA
    refine any_take (v := .agg #[.bool false, .slice a3 0 ac3, .slice a4 1 ac4]) hA 7 rfl rfl rfl rfl (by kernel_rfl) (by kernel_rfl) (by kernel_rfl) (fun c a w h => hP c a _ _ w h) (hS.part (.cons_cons _ (.cons _ (.cons_cons _ .slnil))) ⟨⟨0, rfl⟩, ⟨⟨1, rfl⟩, ⟨⟨2, rfl⟩, ⟨⟨3, rfl⟩, ⟨⟨4, rfl⟩, ⟨⟨5, rfl⟩, trivial⟩⟩⟩⟩⟩⟩ .slnil) (fun w1 hS => does_loadS hS isS_24 rfl 1 rfl (cs := [.bool false, .slice a3 0 ac3, .slice a4 1 ac4]) rfl rfl) ?_
    intro a hA
    rcases Bool.eq_false_or_eq_true (decide (0 < (words x).length)) with hb15 | hb15
    · have hb15' := of_decide_eq_true hb15
      refine any_one (by kernel_rfl) (op_call hA 2 rfl rfl rfl rfl (enters_func  rfl rfl (fun w => by kernel_rfl)) (rminus_any (by rw [hb15]; try rfl)) ?_)
      rintro _ w17 ⟨rfl, hb16⟩
      replace hS := hS.call hb16
      refine ⟨_, rfl, (hS.part (.cons_cons _ (.cons _ (.cons_cons _ .slnil))) ⟨⟨0, rfl⟩, ⟨⟨1, rfl⟩, ⟨⟨2, rfl⟩, ⟨⟨3, rfl⟩, ⟨⟨4, rfl⟩, ⟨⟨5, rfl⟩, trivial⟩⟩⟩⟩⟩⟩ .slnil), ?_⟩
      intro a hA
      refine any_one (by kernel_rfl) (op_call hA 4 rfl rfl rfl rfl (enters_func  rfl rfl (fun w => by kernel_rfl)) (rminus_any rfl) ?_)
      rintro _ w19 ⟨rfl, hb18⟩
      replace hS := hS.call hb18
      refine ⟨_, rfl, (hS.part (.cons_cons _ (.cons _ (.cons_cons _ .slnil))) ⟨⟨0, rfl⟩, ⟨⟨1, rfl⟩, ⟨⟨2, rfl⟩, ⟨⟨3, rfl⟩, ⟨⟨4, rfl⟩, ⟨⟨5, rfl⟩, trivial⟩⟩⟩⟩⟩⟩ .slnil), ?_⟩
      intro a hA
      refine any_one (by kernel_rfl) (op_call hA 5 rfl rfl rfl rfl (enters_func  rfl rfl (fun w => by kernel_rfl)) (rsumOne_any ⟨(hS.rd 5 rfl), ha.s1.nil, ha.s1.cap⟩ ⟨(hS.rd 4 rfl), ha.s2.nil, ha.s2.cap⟩ ⟨(hS.rd 1 rfl), (fun h => by cases h), (Nat.le_refl _)⟩ ⟨(hS.rd 0 rfl), (fun h => by cases h), (Nat.le_refl _)⟩ hx (c := true) (y := x + 1) (by have h9 := words_pos_len x; simp only [sgn]; first | omega | (simp; omega)) (by simp)) ?_)
      rintro _ w24 ⟨f20_1, f20_c1, f20_2, f20_c2, rfl, hs21, hs22, hb23⟩
      replace hS := hS.call hb23
      replace hS := hS.addR hs21.rd
      replace hS := hS.addR hs22.rd
      refine ⟨_, rfl, (hS.part (.cons_cons _ (.cons _ (.cons_cons _ .slnil))) ⟨⟨2, rfl⟩, ⟨⟨3, rfl⟩, ⟨⟨4, rfl⟩, ⟨⟨5, rfl⟩, ⟨⟨6, rfl⟩, ⟨⟨7, rfl⟩, trivial⟩⟩⟩⟩⟩⟩ .slnil), ?_⟩
      intro a hA
      refine any_take (v := .agg #[.bool true, .slice f20_1 ((words (x + 1)).length) f20_c1, .slice f20_2 1 f20_c2, .bool false, .slice a3 0 ac3, .slice a4 1 ac4]) hA 8 rfl rfl rfl rfl (by kernel_rfl) (by kernel_rfl) (by kernel_rfl) (fun c a w h => hP c a _ _ w h) (hS.part (.cons_cons _ (.cons _ (.cons_cons _ .slnil))) ⟨⟨2, rfl⟩, ⟨⟨3, rfl⟩, ⟨⟨4, rfl⟩, ⟨⟨5, rfl⟩, ⟨⟨6, rfl⟩, ⟨⟨7, rfl⟩, trivial⟩⟩⟩⟩⟩⟩ .slnil) (fun w1 hS => does_build rfl (fun w => by kernel_rfl)) ?_
      intro a hA
      refine any_one (by kernel_rfl) (op_store (us := [.bool true, .slice f20_1 ((words (x + 1)).length) f20_c1, .slice f20_2 1 f20_c2, .bool false, .slice a3 0 ac3, .slice a4 1 ac4]) hA hS 9 rfl rfl rfl (sets_store (cs := [.bool true, .slice f20_1 ((words (x + 1)).length) f20_c1, .slice f20_2 1 f20_c2, .bool false, .slice a3 0 ac3, .slice a4 1 ac4]) rfl rfl rfl (by kernel_rfl) hS 1 rfl rfl rfl) 1 rfl rfl rfl rfl ?_)
      intro w25 hS
      refine ⟨(hS.part (.cons_cons _ (.cons _ (.cons_cons _ .slnil))) ⟨⟨2, rfl⟩, ⟨⟨3, rfl⟩, ⟨⟨4, rfl⟩, ⟨⟨5, rfl⟩, ⟨⟨6, rfl⟩, ⟨⟨7, rfl⟩, trivial⟩⟩⟩⟩⟩⟩ .slnil), ?_⟩
      refine any_end (by kernel_rfl) ?_
      refine hK14 _ _ ?_
      refine wp_ret ?_
      refine hret _ _ ?_
      refine ends (v := .agg #[.bool true, .slice f20_1 ((words (x + 1)).length) f20_c1, .slice f20_2 1 f20_c2, .bool false, .slice a3 0 ac3, .slice a4 1 ac4]) hA rfl (.cons (res_cell hS isS_26 rfl 1 rfl (cs := [.bool true, .slice f20_1 ((words (x + 1)).length) f20_c1, .slice f20_2 1 f20_c2, .bool false, .slice a3 0 ac3, .slice a4 1 ac4]) rfl rfl) .nil) rfl ?_
      exact ⟨f20_1, f20_c1, f20_2, f20_c2, a3, ac3, a4, ac4, rfl, ⟨⟨(hS.rd 1 rfl), hs21.nil, hs21.cap⟩, ⟨(hS.rd 0 rfl), hs22.nil, hs22.cap⟩, ⟨(hS.rd 5 rfl), ha.s3.nil, ha.s3.cap⟩, ⟨(hS.rd 4 rfl), ha.s4.nil, ha.s4.cap⟩⟩, hS.bel⟩
    · have hb15' := of_decide_eq_false hb15
      refine any_one (by kernel_rfl) (op_call hA 2 rfl rfl rfl rfl (enters_func  rfl rfl (fun w => by kernel_rfl)) (rminus_any (by rw [hb15]; try rfl)) ?_)
      rintro _ w27 ⟨rfl, hb26⟩
      replace hS := hS.call hb26
      refine ⟨_, rfl, (hS.part (.cons_cons _ (.cons _ (.cons_cons _ .slnil))) ⟨⟨0, rfl⟩, ⟨⟨1, rfl⟩, ⟨⟨2, rfl⟩, ⟨⟨3, rfl⟩, ⟨⟨4, rfl⟩, ⟨⟨5, rfl⟩, trivial⟩⟩⟩⟩⟩⟩ .slnil), ?_⟩
      intro a hA
      refine any_one (by kernel_rfl) (op_call hA 4 rfl rfl rfl rfl (enters_func  rfl rfl (fun w => by kernel_rfl)) (rminus_any rfl) ?_)
      rintro _ w29 ⟨rfl, hb28⟩
      replace hS := hS.call hb28
      refine ⟨_, rfl, (hS.part (.cons_cons _ (.cons _ (.cons_cons _ .slnil))) ⟨⟨0, rfl⟩, ⟨⟨1, rfl⟩, ⟨⟨2, rfl⟩, ⟨⟨3, rfl⟩, ⟨⟨4, rfl⟩, ⟨⟨5, rfl⟩, trivial⟩⟩⟩⟩⟩⟩ .slnil), ?_⟩
      intro a hA
      refine any_one (by kernel_rfl) (op_call hA 5 rfl rfl rfl rfl (enters_func  rfl rfl (fun w => by kernel_rfl)) (rsumOne_any ⟨(hS.rd 5 rfl), ha.s1.nil, ha.s1.cap⟩ ⟨(hS.rd 4 rfl), ha.s2.nil, ha.s2.cap⟩ ⟨(hS.rd 1 rfl), (fun h => by cases h), (Nat.le_refl _)⟩ ⟨(hS.rd 0 rfl), (fun h => by cases h), (Nat.le_refl _)⟩ hx (c := true) (y := x + 1) (by have h9 := words_pos_len x; simp only [sgn]; first | omega | (simp; omega)) (by simp)) ?_)
      rintro _ w34 ⟨f30_1, f30_c1, f30_2, f30_c2, rfl, hs31, hs32, hb33⟩
      replace hS := hS.call hb33
      replace hS := hS.addR hs31.rd
      replace hS := hS.addR hs32.rd
      refine ⟨_, rfl, (hS.part (.cons_cons _ (.cons _ (.cons_cons _ .slnil))) ⟨⟨2, rfl⟩, ⟨⟨3, rfl⟩, ⟨⟨4, rfl⟩, ⟨⟨5, rfl⟩, ⟨⟨6, rfl⟩, ⟨⟨7, rfl⟩, trivial⟩⟩⟩⟩⟩⟩ .slnil), ?_⟩
      intro a hA
      refine any_take (v := .agg #[.bool true, .slice f30_1 ((words (x + 1)).length) f30_c1, .slice f30_2 1 f30_c2, .bool false, .slice a3 0 ac3, .slice a4 1 ac4]) hA 8 rfl rfl rfl rfl (by kernel_rfl) (by kernel_rfl) (by kernel_rfl) (fun c a w h => hP c a _ _ w h) (hS.part (.cons_cons _ (.cons _ (.cons_cons _ .slnil))) ⟨⟨2, rfl⟩, ⟨⟨3, rfl⟩, ⟨⟨4, rfl⟩, ⟨⟨5, rfl⟩, ⟨⟨6, rfl⟩, ⟨⟨7, rfl⟩, trivial⟩⟩⟩⟩⟩⟩ .slnil) (fun w1 hS => does_build rfl (fun w => by kernel_rfl)) ?_
      intro a hA
      refine any_one (by kernel_rfl) (op_store (us := [.bool true, .slice f30_1 ((words (x + 1)).length) f30_c1, .slice f30_2 1 f30_c2, .bool false, .slice a3 0 ac3, .slice a4 1 ac4]) hA hS 9 rfl rfl rfl (sets_store (cs := [.bool true, .slice f30_1 ((words (x + 1)).length) f30_c1, .slice f30_2 1 f30_c2, .bool false, .slice a3 0 ac3, .slice a4 1 ac4]) rfl rfl rfl (by kernel_rfl) hS 1 rfl rfl rfl) 1 rfl rfl rfl rfl ?_)
      intro w35 hS
      refine ⟨(hS.part (.cons_cons _ (.cons _ (.cons_cons _ .slnil))) ⟨⟨2, rfl⟩, ⟨⟨3, rfl⟩, ⟨⟨4, rfl⟩, ⟨⟨5, rfl⟩, ⟨⟨6, rfl⟩, ⟨⟨7, rfl⟩, trivial⟩⟩⟩⟩⟩⟩ .slnil), ?_⟩
      refine any_end (by kernel_rfl) ?_
      refine hK14 _ _ ?_
      refine wp_ret ?_
      refine hret _ _ ?_
      refine ends (v := .agg #[.bool true, .slice f30_1 ((words (x + 1)).length) f30_c1, .slice f30_2 1 f30_c2, .bool false, .slice a3 0 ac3, .slice a4 1 ac4]) hA rfl (.cons (res_cell hS isS_26 rfl 1 rfl (cs := [.bool true, .slice f30_1 ((words (x + 1)).length) f30_c1, .slice f30_2 1 f30_c2, .bool false, .slice a3 0 ac3, .slice a4 1 ac4]) rfl rfl) .nil) rfl ?_
      exact ⟨f30_1, f30_c1, f30_2, f30_c2, a3, ac3, a4, ac4, rfl, ⟨⟨(hS.rd 1 rfl), hs31.nil, hs31.cap⟩, ⟨(hS.rd 0 rfl), hs32.nil, hs32.cap⟩, ⟨(hS.rd 5 rfl), ha.s3.nil, ha.s3.cap⟩, ⟨(hS.rd 4 rfl), ha.s4.nil, ha.s4.cap⟩⟩, hS.bel⟩
  · have hS : St w w [] [(a4, [1]), (a3, []), (a2, [1]), (a1, words x)] [] := ((((St.start w).addR ha.s1.rd).addR ha.s2.rd).addR ha.s3.rd).addR ha.s4.rd
    refine walk_of (l := [(0, .agg #[.bool true, .slice a1 ((words x).length) ac1, .slice a2 1 ac2, .bool false, .slice a3 0 ac3, .slice a4 1 ac4])]) Try.func33 rfl Try.ntmps33 rfl rfl ?_
    intro Q hret hnorm hP a hA
    refine wp_seq_k (fun K1 hK1 => ?_)
    refine wp_region_lit ?_
    refine seq_new (vs := [.bool true, .slice a1 ((words x).length) ac1, .slice a2 1 ac2, .bool false, .slice a3 0 ac3, .slice a4 1 ac4]) (t := 26) hA hS rfl rfl rfl (fun g => .pointer (some ⟨g, 0, none⟩)) (does_box rfl rfl) rfl ?_
    intro g2 w3 hS a hA
    refine seq_new (vs := [.bool false, .slice none 0 0, .slice none 0 0, .bool false, .slice none 0 0, .slice none 0 0]) (t := 26) hA hS rfl rfl rfl (fun g => .pointer (some ⟨g, 0, none⟩)) (does_alloc (z := .agg #[.bool false, .slice none 0 0, .slice none 0 0, .bool false, .slice none 0 0, .slice none 0 0]) (by kernel_rfl) rfl) rfl ?_
    intro g4 w5 hS a hA
    refine seq_end ?_
    refine hK1 _ _ ?_
    refine wp_seq_k (fun K6 hK6 => ?_)
    refine wp_region_lit ?_
    refine seq_newU (us := [1]) (t := 41) (m := 1) hA hS rfl rfl rfl (does_buildSlice rfl (by kernel_rfl)) (by first | (simp [Dig]; done) | (intro z hz; simp only [List.mem_singleton] at hz; omega)) ?_
    intro g7 w8 hS a hA
    refine seq_newU (us := [1]) (t := 41) (m := 1) hA hS rfl rfl rfl (does_buildSlice rfl (by kernel_rfl)) (by first | (simp [Dig]; done) | (intro z hz; simp only [List.mem_singleton] at hz; omega)) ?_
    intro g9 w10 hS a hA
    refine seq_do (v := .agg #[.bool false, .slice (some ⟨g7, 0, none⟩) 1 1, .slice (some ⟨g9, 0, none⟩) 1 1]) hA rfl rfl rfl (does_build rfl (fun w => by kernel_rfl)) ?_
    intro a hA
    refine seq_new (vs := [.bool false, .slice none 0 0, .slice none 0 0]) (t := 24) hA hS rfl rfl rfl (fun g => .pointer (some ⟨g, 0, none⟩)) (does_alloc (z := .agg #[.bool false, .slice none 0 0, .slice none 0 0]) (by kernel_rfl) rfl) rfl ?_
    intro g11 w12 hS a hA
    refine seq_store (us := [.bool false, .slice (some ⟨g7, 0, none⟩) 1 1, .slice (some ⟨g9, 0, none⟩) 1 1]) hA hS rfl rfl (sets_store (cs := [.bool false, .slice (some ⟨g7, 0, none⟩) 1 1, .slice (some ⟨g9, 0, none⟩) 1 1]) rfl rfl rfl (by kernel_rfl) hS 0 rfl rfl rfl) 0 rfl rfl rfl rfl ?_
    intro w13 hS
    refine seq_end ?_
    refine hK6 _ _ ?_
    refine wp_seq_k (fun K14 hK14 => ?_)
    refine wp_draw (S := fun w1 => St w w1 [(g11, [.bool false, .slice (some ⟨g7, 0, none⟩) 1 1, .slice (some ⟨g9, 0, none⟩) 1 1]), (g2, [.bool true, .slice a1 ((words x).length) ac1, .slice a2 1 ac2, .bool false, .slice a3 0 ac3, .slice a4 1 ac4])] [(some ⟨g9, 0, none⟩, [1]), (some ⟨g7, 0, none⟩, [1]), (a4, [1]), (a3, []), (a2, [1]), (a1, words x)] []) (by kernel_rfl) ?_
    replace hS := hS.drew
    refine any_take (v := .pointer (some ⟨g2, 0, none⟩)) hA 0 rfl rfl rfl rfl (by kernel_rfl) (by kernel_rfl) (by kernel_rfl) (fun c a w h => hP c a _ _ w h) (hS.part (.cons_cons _ (.cons _ (.cons_cons _ .slnil))) ⟨⟨0, rfl⟩, ⟨⟨1, rfl⟩, ⟨⟨2, rfl⟩, ⟨⟨3, rfl⟩, ⟨⟨4, rfl⟩, ⟨⟨5, rfl⟩, trivial⟩⟩⟩⟩⟩⟩ .slnil) (fun w1 hS => does_field fld_26_0 rfl rfl) ?_
    intro a hA
    refine any_take (v := .agg #[.bool true, .slice a1 ((words x).length) ac1, .slice a2 1 ac2]) hA 1 rfl rfl rfl rfl (by kernel_rfl) (by kernel_rfl) (by kernel_rfl) (fun c a w h => hP c a _ _ w h) (hS.part (.cons_cons _ (.cons _ (.cons_cons _ .slnil))) ⟨⟨0, rfl⟩, ⟨⟨1, rfl⟩, ⟨⟨2, rfl⟩, ⟨⟨3, rfl⟩, ⟨⟨4, rfl⟩, ⟨⟨5, rfl⟩, trivial⟩⟩⟩⟩⟩⟩ .slnil) (fun w1 hS => does_loadS hS isS_24 rfl 1 rfl (cs := [.bool true, .slice a1 ((words x).length) ac1, .slice a2 1 ac2]) rfl rfl) ?_
    intro a hA
    refine any_take (v := .agg #[.bool false, .slice (some ⟨g7, 0, none⟩) 1 1, .slice (some ⟨g9, 0, none⟩) 1 1]) hA 3 rfl rfl rfl rfl (by kernel_rfl) (by kernel_rfl) (by kernel_rfl) (fun c a w h => hP c a _ _ w h) (hS.part (.cons_cons _ (.cons _ (.cons_cons _ .slnil))) ⟨⟨0, rfl⟩, ⟨⟨1, rfl⟩, ⟨⟨2, rfl⟩, ⟨⟨3, rfl⟩, ⟨⟨4, rfl⟩, ⟨⟨5, rfl⟩, trivial⟩⟩⟩⟩⟩⟩ .slnil) (fun w1 hS => does_loadS hS isS_24 rfl 0 rfl (cs := [.bool false, .slice (some ⟨g7, 0, none⟩) 1 1, .slice (some ⟨g9, 0, none⟩) 1 1]) rfl rfl) ?_
    intro a hA
    refine any_take (v := .pointer (some ⟨g2, 3, none⟩)) hA 6 rfl rfl rfl rfl (by kernel_rfl) (by kernel_rfl) (by kernel_rfl) (fun c a w h => hP c a _ _ w h) (hS.part (.cons_cons _ (.cons _ (.cons_cons _ .slnil))) ⟨⟨0, rfl⟩, ⟨⟨1, rfl⟩, ⟨⟨2, rfl⟩, ⟨⟨3, rfl⟩, ⟨⟨4, rfl⟩, ⟨⟨5, rfl⟩, trivial⟩⟩⟩⟩⟩⟩ .slnil) (fun w1 hS => does_field fld_26_1 rfl rfl) ?_
    intro a hA
    refine any_take (v := .agg #[.bool false, .slice a3 0 ac3, .slice a4 1 ac4]) hA 7 rfl rfl rfl rfl (by kernel_rfl) (by kernel_rfl) (by kernel_rfl) (fun c a w h => hP c a _ _ w h) (hS.part (.cons_cons _ (.cons _ (.cons_cons _ .slnil))) ⟨⟨0, rfl⟩, ⟨⟨1, rfl⟩, ⟨⟨2, rfl⟩, ⟨⟨3, rfl⟩, ⟨⟨4, rfl⟩, ⟨⟨5, rfl⟩, trivial⟩⟩⟩⟩⟩⟩ .slnil) (fun w1 hS => does_loadS hS isS_24 rfl 1 rfl (cs := [.bool false, .slice a3 0 ac3, .slice a4 1 ac4]) rfl rfl) ?_
    intro a hA
    refine any_one (by kernel_rfl) (op_call hA 2 rfl rfl rfl rfl (enters_func  rfl rfl (fun w => by kernel_rfl)) (rminus_any rfl) ?_)
    rintro _ w16 ⟨rfl, hb15⟩
    replace hS := hS.call hb15
    refine ⟨_, rfl, (hS.part (.cons_cons _ (.cons _ (.cons_cons _ .slnil))) ⟨⟨0, rfl⟩, ⟨⟨1, rfl⟩, ⟨⟨2, rfl⟩, ⟨⟨3, rfl⟩, ⟨⟨4, rfl⟩, ⟨⟨5, rfl⟩, trivial⟩⟩⟩⟩⟩⟩ .slnil), ?_⟩
    intro a hA
    refine any_one (by kernel_rfl) (op_call hA 4 rfl rfl rfl rfl (enters_func  rfl rfl (fun w => by kernel_rfl)) (rminus_any rfl) ?_)
    rintro _ w18 ⟨rfl, hb17⟩
    replace hS := hS.call hb17
    refine ⟨_, rfl, (hS.part (.cons_cons _ (.cons _ (.cons_cons _ .slnil))) ⟨⟨0, rfl⟩, ⟨⟨1, rfl⟩, ⟨⟨2, rfl⟩, ⟨⟨3, rfl⟩, ⟨⟨4, rfl⟩, ⟨⟨5, rfl⟩, trivial⟩⟩⟩⟩⟩⟩ .slnil), ?_⟩
    intro a hA
    refine any_one (by kernel_rfl) (op_call hA 5 rfl rfl rfl rfl (enters_func  rfl rfl (fun w => by kernel_rfl)) (rsumOne_any ⟨(hS.rd 5 rfl), ha.s1.nil, ha.s1.cap⟩ ⟨(hS.rd 4 rfl), ha.s2.nil, ha.s2.cap⟩ ⟨(hS.rd 1 rfl), (fun h => by cases h), (Nat.le_refl _)⟩ ⟨(hS.rd 0 rfl), (fun h => by cases h), (Nat.le_refl _)⟩ hx (c := false) (y := x - 1) (by simp [sgn]; simp at hb; omega) (by simp)) ?_)
    rintro _ w23 ⟨f19_1, f19_c1, f19_2, f19_c2, rfl, hs20, hs21, hb22⟩
    replace hS := hS.call hb22
    replace hS := hS.addR hs20.rd
    replace hS := hS.addR hs21.rd
    refine ⟨_, rfl, (hS.part (.cons_cons _ (.cons _ (.cons_cons _ .slnil))) ⟨⟨2, rfl⟩, ⟨⟨3, rfl⟩, ⟨⟨4, rfl⟩, ⟨⟨5, rfl⟩, ⟨⟨6, rfl⟩, ⟨⟨7, rfl⟩, trivial⟩⟩⟩⟩⟩⟩ .slnil), ?_⟩
    intro a hA
    refine any_take (v := .agg #[.bool false, .slice f19_1 ((words (x - 1)).length) f19_c1, .slice f19_2 1 f19_c2, .bool false, .slice a3 0 ac3, .slice a4 1 ac4]) hA 8 rfl rfl rfl rfl (by kernel_rfl) (by kernel_rfl) (by kernel_rfl) (fun c a w h => hP c a _ _ w h) (hS.part (.cons_cons _ (.cons _ (.cons_cons _ .slnil))) ⟨⟨2, rfl⟩, ⟨⟨3, rfl⟩, ⟨⟨4, rfl⟩, ⟨⟨5, rfl⟩, ⟨⟨6, rfl⟩, ⟨⟨7, rfl⟩, trivial⟩⟩⟩⟩⟩⟩ .slnil) (fun w1 hS => does_build rfl (fun w => by kernel_rfl)) ?_
    intro a hA
    refine any_one (by kernel_rfl) (op_store (us := [.bool false, .slice f19_1 ((words (x - 1)).length) f19_c1, .slice f19_2 1 f19_c2, .bool false, .slice a3 0 ac3, .slice a4 1 ac4]) hA hS 9 rfl rfl rfl (sets_store (cs := [.bool false, .slice f19_1 ((words (x - 1)).length) f19_c1, .slice f19_2 1 f19_c2, .bool false, .slice a3 0 ac3, .slice a4 1 ac4]) rfl rfl rfl (by kernel_rfl) hS 1 rfl rfl rfl) 1 rfl rfl rfl rfl ?_)
    intro w24 hS
    refine ⟨(hS.part (.cons_cons _ (.cons _ (.cons_cons _ .slnil))) ⟨⟨2, rfl⟩, ⟨⟨3, rfl⟩, ⟨⟨4, rfl⟩, ⟨⟨5, rfl⟩, ⟨⟨6, rfl⟩, ⟨⟨7, rfl⟩, trivial⟩⟩⟩⟩⟩⟩ .slnil), ?_⟩
    refine any_end (by kernel_rfl) ?_
    refine hK14 _ _ ?_
    refine wp_ret ?_
    refine hret _ _ ?_
    refine ends (v := .agg #[.bool false, .slice f19_1 ((words (x - 1)).length) f19_c1, .slice f19_2 1 f19_c2, .bool false, .slice a3 0 ac3, .slice a4 1 ac4]) hA rfl (.cons (res_cell hS isS_26 rfl 1 rfl (cs := [.bool false, .slice f19_1 ((words (x - 1)).length) f19_c1, .slice f19_2 1 f19_c2, .bool false, .slice a3 0 ac3, .slice a4 1 ac4]) rfl rfl) .nil) rfl ?_
    exact ⟨f19_1, f19_c1, f19_2, f19_c2, a3, ac3, a4, ac4, rfl, ⟨⟨(hS.rd 1 rfl), hs20.nil, hs20.cap⟩, ⟨(hS.rd 0 rfl), hs21.nil, hs21.cap⟩, ⟨(hS.rd 5 rfl), ha.s3.nil, ha.s3.cap⟩, ⟨(hS.rd 4 rfl), ha.s4.nil, ha.s4.cap⟩⟩, hS.bel⟩
theorem down_any {w : World} {b : Bool} {ro : Option Addr} {rc y : Nat} {n : Int} (hr : Sc w ro rc (words y)) (hy : (words y).length ≤ 512) (h0 : 0 ≤ n) (h1 : n ≤ 16384) :
    Calls Try.prog 37 #[.agg #[.bool b, .slice ro (words y).length rc], .int .i64 n] w fun e w' => ∃ o c, e = .returned (.agg #[.bool b, .slice o (words (y / 2 ^ n.toNat)).length c]) ∧ Sc w' o c (words (y / 2 ^ n.toNat)) ∧ Below w.heap.size w w' := by
  have hS : St w w [] [(ro, words y)] [] := (St.start w).addR hr.rd
  refine walk_of (l := [(0, .agg #[.bool b, .slice ro ((words y).length) rc]), (1, .int .i64 n)]) Try.func37 rfl Try.ntmps37 rfl rfl ?_
  intro Q hret hnorm hP a hA
  refine wp_seq_k (fun K1 hK1 => ?_)
  refine wp_region_lit ?_
  refine seq_new (vs := [.bool b, .slice ro ((words y).length) rc]) (t := 49) hA hS rfl rfl rfl (fun g => .pointer (some ⟨g, 0, none⟩)) (does_box rfl rfl) rfl ?_
  intro g2 w3 hS a hA
  refine seq_new (vs := [.bool false, .slice none 0 0]) (t := 49) hA hS rfl rfl rfl (fun g => .pointer (some ⟨g, 0, none⟩)) (does_alloc (z := .agg #[.bool false, .slice none 0 0]) (by kernel_rfl) rfl) rfl ?_
  intro g4 w5 hS a hA
  refine seq_end ?_
  refine hK1 _ _ ?_
  refine wp_seq_k (fun K6 hK6 => ?_)
  refine wp_region_lit ?_
  refine seq_do (v := .pointer (some ⟨g2, 1, none⟩)) hA rfl rfl rfl (does_field fld_49_1 rfl rfl) ?_
  intro a hA
  refine seq_do hA rfl rfl rfl (does_load1 hS is1_22 rfl 1 rfl rfl) ?_
  intro a hA
  refine seq_do hA rfl rfl rfl (does_move rfl) ?_
  intro a hA
  refine seq_do (v := .int .i64 (-n)) hA rfl rfl rfl (does_un rfl (un_neg (i64In (by omega) (by omega)))) ?_
  intro a hA
  refine seq_call hA rfl rfl rfl (enters_func  rfl rfl (fun w => by kernel_rfl)) (shift_downI (n := n) _ (hS.rd 0 rfl) hy (by omega) (by omega)) ?_
  rintro _ w11 ⟨ro7, rc8, rfl, ho9, hb10⟩
  replace hS := hS.call hb10
  replace hS := hS.addR ho9.rd
  refine ⟨_, rfl, ?_⟩
  intro a hA
  refine seq_do hA rfl rfl rfl (does_move rfl) ?_
  intro a hA
  refine seq_do (v := .slice ro7 ((words (y / 2 ^ n.toNat)).length) rc8) hA rfl rfl rfl (does_extract (vs := [.slice ro7 ((words (y / 2 ^ n.toNat)).length) rc8, .int .i64 0]) rfl rfl) ?_
  intro a hA
  refine seq_do (v := .int .i64 0) hA rfl rfl rfl (does_extract (vs := [.slice ro7 ((words (y / 2 ^ n.toNat)).length) rc8, .int .i64 0]) rfl rfl) ?_
  intro a hA
  refine seq_do hA rfl rfl rfl (does_assign rfl) ?_
  intro a hA
  refine seq_do hA rfl rfl rfl (does_assign rfl) ?_
  intro a hA
  refine seq_end ?_
  refine hK6 _ _ ?_
  refine wp_seq_k (fun K12 hK12 => ?_)
  refine wp_region_lit ?_
  refine seq_do (v := .pointer (some ⟨g2, 0, none⟩)) hA rfl rfl rfl (does_field fld_49_0 rfl rfl) ?_
  intro a hA
  refine seq_do hA rfl rfl rfl (does_load1 hS is1_4 rfl 1 rfl rfl) ?_
  intro a hA
  refine seq_do hA rfl rfl rfl (does_move rfl) ?_
  intro a hA
  refine seq_do (v := .agg #[.bool b, .slice ro7 ((words (y / 2 ^ n.toNat)).length) rc8]) hA rfl rfl rfl (does_build rfl (fun w => by kernel_rfl)) ?_
  intro a hA
  refine seq_store (us := [.bool b, .slice ro7 ((words (y / 2 ^ n.toNat)).length) rc8]) hA hS rfl rfl (sets_store (cs := [.bool b, .slice ro7 ((words (y / 2 ^ n.toNat)).length) rc8]) rfl rfl rfl (by kernel_rfl) hS 0 rfl rfl rfl) 0 rfl rfl rfl rfl ?_
  intro w13 hS
  refine seq_end ?_
  refine hK12 _ _ ?_
  refine wp_ret ?_
  refine hret _ _ ?_
  refine ends (v := .agg #[.bool b, .slice ro7 ((words (y / 2 ^ n.toNat)).length) rc8]) hA rfl (.cons (res_cell hS isS_49 rfl 0 rfl (cs := [.bool b, .slice ro7 ((words (y / 2 ^ n.toNat)).length) rc8]) rfl rfl) .nil) rfl ?_
  exact ⟨_, _, rfl, ⟨(hS.rd 0 rfl), ho9.nocap, ho9.caps⟩, hS.bel⟩
theorem shiftE_any {w : World} {q : Q6} {a1 a2 a3 a4 : Option Addr} {ac1 ac2 ac3 ac4 : Nat} (ha : Nm w q a1 ac1 a2 ac2 a3 ac3 a4 ac4) (hl : LenQ q) {n : Int} (hw : (want1 q != 0) = true) : Calls Try.prog 14 #[numV q a1 ac1 a2 ac2 a3 ac3 a4 ac4, .int .i64 n] w (AnsN w (shiftQ q n)) := by
  have hS : St w w [] [(a4, q.q2), (a3, q.t2), (a2, q.q1), (a1, q.t1)] [] := ((((St.start w).addR ha.s1.rd).addR ha.s2.rd).addR ha.s3.rd).addR ha.s4.rd
  refine walk_of (l := [(0, .agg #[.bool q.b1, .slice a1 q.t1.length ac1, .slice a2 q.q1.length ac2, .bool q.b2, .slice a3 q.t2.length ac3, .slice a4 q.q2.length ac4]), (1, .int .i64 n)]) Try.func14 rfl Try.ntmps14 rfl rfl ?_
  intro Q hret hnorm hP a hA
  refine wp_seq_k (fun K1 hK1 => ?_)
  refine wp_region_lit ?_
  refine seq_new (vs := [.bool q.b1, .slice a1 q.t1.length ac1, .slice a2 q.q1.length ac2, .bool q.b2, .slice a3 q.t2.length ac3, .slice a4 q.q2.length ac4]) (t := 26) hA hS rfl rfl rfl (fun g => .pointer (some ⟨g, 0, none⟩)) (does_box rfl rfl) rfl ?_
  intro g2 w3 hS a hA
  refine seq_new (vs := [.bool false, .slice none 0 0, .slice none 0 0, .bool false, .slice none 0 0, .slice none 0 0]) (t := 26) hA hS rfl rfl rfl (fun g => .pointer (some ⟨g, 0, none⟩)) (does_alloc (z := .agg #[.bool false, .slice none 0 0, .slice none 0 0, .bool false, .slice none 0 0, .slice none 0 0]) (by kernel_rfl) rfl) rfl ?_
  intro g4 w5 hS a hA
  refine seq_do hA rfl rfl rfl (does_assign rfl) ?_
  intro a hA
  refine seq_end ?_
  refine hK1 _ _ ?_
  refine wp_seq_k (fun K6 hK6 => ?_)
  refine wp_seq_k (fun K7 hK7 => ?_)
  refine wp_region_lit ?_
  refine seq_do (v := .agg #[.bool q.b1, .slice a1 q.t1.length ac1, .slice a2 q.q1.length ac2, .bool q.b2, .slice a3 q.t2.length ac3, .slice a4 q.q2.length ac4]) hA rfl rfl rfl (does_loadS hS isS_26 rfl 1 rfl (cs := [.bool q.b1, .slice a1 q.t1.length ac1, .slice a2 q.q1.length ac2, .bool q.b2, .slice a3 q.t2.length ac3, .slice a4 q.q2.length ac4]) rfl rfl) ?_
  intro a hA
  refine seq_new (vs := [.bool q.b1, .slice a1 q.t1.length ac1, .slice a2 q.q1.length ac2, .bool q.b2, .slice a3 q.t2.length ac3, .slice a4 q.q2.length ac4]) (t := 26) hA hS rfl rfl rfl (fun g => .slice (some ⟨g, 0, none⟩) 1 1) (does_buildSlice rfl (by kernel_rfl)) rfl ?_
  intro g8 w9 hS a hA
  refine seq_call hA rfl rfl rfl (enters_func  rfl rfl (fun w => by kernel_rfl)) (want1_any (show Nm _ q a1 ac1 a2 ac2 a3 ac3 a4 ac4 from ⟨⟨(hS.rd 3 rfl), ha.s1.nil, ha.s1.cap⟩, ⟨(hS.rd 2 rfl), ha.s2.nil, ha.s2.cap⟩, ⟨(hS.rd 1 rfl), ha.s3.nil, ha.s3.cap⟩, ⟨(hS.rd 0 rfl), ha.s4.nil, ha.s4.cap⟩⟩) hl (hS.blk 0 rfl) rfl) ?_
  rintro _ w11 ⟨rfl, hb10⟩
  replace hS := hS.call hb10
  refine ⟨_, rfl, ?_⟩
  intro a hA
  refine seq_do hA rfl rfl rfl (does_assign rfl) ?_
  intro a hA
  refine seq_end ?_
  refine hK7 _ _ ?_
  refine wp_seq_k (fun K12 hK12 => ?_)
  refine wp_region_lit ?_
  refine seq_do hA rfl rfl rfl (does_move rfl) ?_
  intro a hA
  refine seq_do (v := .bool true) hA rfl rfl rfl (does_bin rfl rfl (fun w => (bin_neq w).trans (by rw [show ((want1 q != 0)) = true from hw]))) ?_
  intro a hA
  refine seq_end ?_
  refine hK12 _ _ ?_
  refine wp_cond_true (hA.ev rfl) ?_
  refine wp_seq_k (fun K13 hK13 => ?_)
  refine wp_region_lit ?_
  refine seq_do (v := .agg #[.bool false, .slice none 0 0, .slice none 0 0, .bool false, .slice none 0 0, .slice none 0 0]) hA rfl rfl rfl (does_build rfl (fun w => by kernel_rfl)) ?_
  intro a hA
  refine seq_do hA rfl rfl rfl (does_move rfl) ?_
  intro a hA
  refine seq_store (us := [.bool false, .slice none 0 0, .slice none 0 0, .bool false, .slice none 0 0, .slice none 0 0]) hA hS rfl rfl (sets_store (cs := [.bool false, .slice none 0 0, .slice none 0 0, .bool false, .slice none 0 0, .slice none 0 0]) rfl rfl rfl (by kernel_rfl) hS 1 rfl rfl rfl) 1 rfl rfl rfl rfl ?_
  intro w14 hS
  refine seq_do hA rfl rfl rfl (does_assign rfl) ?_
  intro a hA
  refine seq_end ?_
  refine hK13 _ _ ?_
  refine wp_ret ?_
  refine hret _ _ ?_
  refine ends (v := .tuple #[.agg #[.bool false, .slice none 0 0, .slice none 0 0, .bool false, .slice none 0 0, .slice none 0 0], .int .i64 (want1 q)]) hA rfl (.cons (res_cell hS isS_26 rfl 1 rfl (cs := [.bool false, .slice none 0 0, .slice none 0 0, .bool false, .slice none 0 0, .slice none 0 0]) rfl rfl) (.cons (res_tmp rfl) .nil)) rfl ?_
  rw [shiftQ_err hw]
  exact ⟨none, 0, none, 0, none, 0, none, 0, rfl, ⟨(Sc.none _), (Sc.none _), (Sc.none _), (Sc.none _)⟩, hS.bel⟩
theorem shiftW_any {w : World} {b : Bool} {x : Nat} {a1 a2 a3 a4 : Option Addr} {ac1 ac2 ac3 ac4 : Nat} (ha : Nm w (Q6.whole b x) a1 ac1 a2 ac2 a3 ac3 a4 ac4) (hl : LenQ (Q6.whole b x)) {n : Int} (hw : want1 (Q6.whole b x) = 0) (hx : (words x).length ≤ 512) (hb : b.toNat ≤ x) : Calls Try.prog 14 #[numV (Q6.whole b x) a1 ac1 a2 ac2 a3 ac3 a4 ac4, .int .i64 n] w (AnsN w (shiftQ (Q6.whole b x) n)) := by
  have hS : St w w [] [(a4, [1]), (a3, []), (a2, [1]), (a1, words x)] [] := ((((St.start w).addR ha.s1.rd).addR ha.s2.rd).addR ha.s3.rd).addR ha.s4.rd
  refine walk_of (l := [(0, .agg #[.bool b, .slice a1 ((words x).length) ac1, .slice a2 1 ac2, .bool false, .slice a3 0 ac3, .slice a4 1 ac4]), (1, .int .i64 n)]) Try.func14 rfl Try.ntmps14 rfl rfl ?_
  intro Q hret hnorm hP a hA
  refine wp_seq_k (fun K1 hK1 => ?_)
  refine wp_region_lit ?_
  refine seq_new (vs := [.bool b, .slice a1 ((words x).length) ac1, .slice a2 1 ac2, .bool false, .slice a3 0 ac3, .slice a4 1 ac4]) (t := 26) hA hS rfl rfl rfl (fun g => .pointer (some ⟨g, 0, none⟩)) (does_box rfl rfl) rfl ?_
  intro g2 w3 hS a hA
  refine seq_new (vs := [.bool false, .slice none 0 0, .slice none 0 0, .bool false, .slice none 0 0, .slice none 0 0]) (t := 26) hA hS rfl rfl rfl (fun g => .pointer (some ⟨g, 0, none⟩)) (does_alloc (z := .agg #[.bool false, .slice none 0 0, .slice none 0 0, .bool false, .slice none 0 0, .slice none 0 0]) (by kernel_rfl) rfl) rfl ?_
  intro g4 w5 hS a hA
  refine seq_do hA rfl rfl rfl (does_assign rfl) ?_
  intro a hA
  refine seq_end ?_
  refine hK1 _ _ ?_
  refine wp_seq_k (fun K6 hK6 => ?_)
  refine wp_seq_k (fun K7 hK7 => ?_)
  refine wp_region_lit ?_
  refine seq_do (v := .agg #[.bool b, .slice a1 ((words x).length) ac1, .slice a2 1 ac2, .bool false, .slice a3 0 ac3, .slice a4 1 ac4]) hA rfl rfl rfl (does_loadS hS isS_26 rfl 1 rfl (cs := [.bool b, .slice a1 ((words x).length) ac1, .slice a2 1 ac2, .bool false, .slice a3 0 ac3, .slice a4 1 ac4]) rfl rfl) ?_
  intro a hA
  refine seq_new (vs := [.bool b, .slice a1 ((words x).length) ac1, .slice a2 1 ac2, .bool false, .slice a3 0 ac3, .slice a4 1 ac4]) (t := 26) hA hS rfl rfl rfl (fun g => .slice (some ⟨g, 0, none⟩) 1 1) (does_buildSlice rfl (by kernel_rfl)) rfl ?_
  intro g8 w9 hS a hA
  refine seq_call hA rfl rfl rfl (enters_func  rfl rfl (fun w => by kernel_rfl)) (want1_any (show Nm _ (Q6.whole b x) a1 ac1 a2 ac2 a3 ac3 a4 ac4 from ⟨⟨(hS.rd 3 rfl), ha.s1.nil, ha.s1.cap⟩, ⟨(hS.rd 2 rfl), ha.s2.nil, ha.s2.cap⟩, ⟨(hS.rd 1 rfl), ha.s3.nil, ha.s3.cap⟩, ⟨(hS.rd 0 rfl), ha.s4.nil, ha.s4.cap⟩⟩) hl (hS.blk 0 rfl) hw) ?_
  rintro _ w11 ⟨rfl, hb10⟩
  replace hS := hS.call hb10
  refine ⟨_, rfl, ?_⟩
  intro a hA
  refine seq_do hA rfl rfl rfl (does_assign rfl) ?_
  intro a hA
  refine seq_end ?_
  refine hK7 _ _ ?_
  refine wp_seq_k (fun K12 hK12 => ?_)
  refine wp_region_lit ?_
  refine seq_do hA rfl rfl rfl (does_move rfl) ?_
  intro a hA
  refine seq_do (v := .bool false) hA rfl rfl rfl (does_bin rfl rfl (fun w => by kernel_rfl)) ?_
  intro a hA
  refine seq_end ?_
  refine hK12 _ _ ?_
  refine wp_cond_false (hA.ev rfl) ?_
  refine wp_skip ?_
  refine hK6 _ _ ?_
  refine wp_seq_k (fun K13 hK13 => ?_)
  refine wp_seq_k (fun K14 hK14 => ?_)
  refine wp_region_lit ?_
  refine seq_do hA rfl rfl rfl (does_move rfl) ?_
  intro a hA
  rcases Bool.eq_false_or_eq_true (decide (n < -16384)) with hb15 | hb15
  · have hb15' := of_decide_eq_true hb15
    refine seq_do (v := .bool true) hA rfl rfl rfl (does_bin rfl rfl (fun w => (bin_lss w).trans (by rw [hb15]))) ?_
    intro a hA
    refine seq_do hA rfl rfl rfl (does_move rfl) ?_
    intro a hA
    refine seq_skip hA rfl rfl rfl ?_
    intro a hA
    refine seq_skip hA rfl rfl rfl ?_
    intro a hA
    refine seq_do (v := .bool true) hA rfl rfl rfl (does_pick rfl rfl rfl rfl) ?_
    intro a hA
    refine seq_end ?_
    refine hK14 _ _ ?_
    refine wp_cond_true (hA.ev rfl) ?_
    refine wp_seq_k (fun K16 hK16 => ?_)
    refine wp_region_lit ?_
    refine seq_do (v := .agg #[.bool false, .slice none 0 0, .slice none 0 0, .bool false, .slice none 0 0, .slice none 0 0]) hA rfl rfl rfl (does_build rfl (fun w => by kernel_rfl)) ?_
    intro a hA
    refine seq_store (us := [.bool false, .slice none 0 0, .slice none 0 0, .bool false, .slice none 0 0, .slice none 0 0]) hA hS rfl rfl (sets_store (cs := [.bool false, .slice none 0 0, .slice none 0 0, .bool false, .slice none 0 0, .slice none 0 0]) rfl rfl rfl (by kernel_rfl) hS 1 rfl rfl rfl) 1 rfl rfl rfl rfl ?_
    intro w17 hS
    refine seq_do hA rfl rfl rfl (does_assign rfl) ?_
    intro a hA
    refine seq_end ?_
    refine hK16 _ _ ?_
    refine wp_ret ?_
    refine hret _ _ ?_
    refine ends (v := .tuple #[.agg #[.bool false, .slice none 0 0, .slice none 0 0, .bool false, .slice none 0 0, .slice none 0 0], .int .i64 1]) hA rfl (.cons (res_cell hS isS_26 rfl 1 rfl (cs := [.bool false, .slice none 0 0, .slice none 0 0, .bool false, .slice none 0 0, .slice none 0 0]) rfl rfl) (.cons (res_tmp rfl) .nil)) rfl ?_
    rw [shiftQ_arg hw (by omega)]
    exact ⟨none, 0, none, 0, none, 0, none, 0, rfl, ⟨(Sc.none _), (Sc.none _), (Sc.none _), (Sc.none _)⟩, hS.bel⟩
  · have hb15' := of_decide_eq_false hb15
    refine seq_do (v := .bool false) hA rfl rfl rfl (does_bin rfl rfl (fun w => (bin_lss w).trans (by rw [hb15]))) ?_
    intro a hA
    refine seq_do hA rfl rfl rfl (does_move rfl) ?_
    intro a hA
    refine seq_do hA rfl rfl rfl (does_move rfl) ?_
    intro a hA
    rcases Bool.eq_false_or_eq_true (decide (16384 < n)) with hb18 | hb18
    · have hb18' := of_decide_eq_true hb18
      refine seq_do (v := .bool true) hA rfl rfl rfl (does_bin rfl rfl (fun w => (bin_gtr w).trans (by rw [hb18]))) ?_
      intro a hA
      refine seq_do (v := .bool true) hA rfl rfl rfl (does_pick rfl rfl rfl rfl) ?_
      intro a hA
      refine seq_end ?_
      refine hK14 _ _ ?_
      refine wp_cond_true (hA.ev rfl) ?_
      refine wp_seq_k (fun K19 hK19 => ?_)
      refine wp_region_lit ?_
      refine seq_do (v := .agg #[.bool false, .slice none 0 0, .slice none 0 0, .bool false, .slice none 0 0, .slice none 0 0]) hA rfl rfl rfl (does_build rfl (fun w => by kernel_rfl)) ?_
      intro a hA
      refine seq_store (us := [.bool false, .slice none 0 0, .slice none 0 0, .bool false, .slice none 0 0, .slice none 0 0]) hA hS rfl rfl (sets_store (cs := [.bool false, .slice none 0 0, .slice none 0 0, .bool false, .slice none 0 0, .slice none 0 0]) rfl rfl rfl (by kernel_rfl) hS 1 rfl rfl rfl) 1 rfl rfl rfl rfl ?_
      intro w20 hS
      refine seq_do hA rfl rfl rfl (does_assign rfl) ?_
      intro a hA
      refine seq_end ?_
      refine hK19 _ _ ?_
      refine wp_ret ?_
      refine hret _ _ ?_
      refine ends (v := .tuple #[.agg #[.bool false, .slice none 0 0, .slice none 0 0, .bool false, .slice none 0 0, .slice none 0 0], .int .i64 1]) hA rfl (.cons (res_cell hS isS_26 rfl 1 rfl (cs := [.bool false, .slice none 0 0, .slice none 0 0, .bool false, .slice none 0 0, .slice none 0 0]) rfl rfl) (.cons (res_tmp rfl) .nil)) rfl ?_
      rw [shiftQ_arg hw (by omega)]
      exact ⟨none, 0, none, 0, none, 0, none, 0, rfl, ⟨(Sc.none _), (Sc.none _), (Sc.none _), (Sc.none _)⟩, hS.bel⟩
    · have hb18' := of_decide_eq_false hb18
      refine seq_do (v := .bool false) hA rfl rfl rfl (does_bin rfl rfl (fun w => (bin_gtr w).trans (by rw [hb18]))) ?_
      intro a hA
      refine seq_do (v := .bool false) hA rfl rfl rfl (does_pick rfl rfl rfl rfl) ?_
      intro a hA
      refine seq_end ?_
      refine hK14 _ _ ?_
      refine wp_cond_false (hA.ev rfl) ?_
      refine wp_skip ?_
      refine hK13 _ _ ?_
      refine wp_seq_k (fun K21 hK21 => ?_)
      refine wp_seq_k (fun K22 hK22 => ?_)
      refine wp_region_lit ?_
      refine seq_do hA rfl rfl rfl (does_move rfl) ?_
      intro a hA
      rcases Bool.eq_false_or_eq_true (decide (n < 0)) with hb23 | hb23
      · have hb23' := of_decide_eq_true hb23
        refine seq_do (v := .bool true) hA rfl rfl rfl (does_bin rfl rfl (fun w => (bin_lss w).trans (by rw [hb23]))) ?_
        intro a hA
        refine seq_end ?_
        refine hK22 _ _ ?_
        refine wp_cond_true (hA.ev rfl) ?_
        refine wp_seq_k (fun K24 hK24 => ?_)
        refine wp_region_lit ?_
        refine seq_do (v := .agg #[.bool b, .slice a1 ((words x).length) ac1, .slice a2 1 ac2, .bool false, .slice a3 0 ac3, .slice a4 1 ac4]) hA rfl rfl rfl (does_loadS hS isS_26 rfl 2 rfl (cs := [.bool b, .slice a1 ((words x).length) ac1, .slice a2 1 ac2, .bool false, .slice a3 0 ac3, .slice a4 1 ac4]) rfl rfl) ?_
        intro a hA
        refine seq_call hA rfl rfl rfl (enters_func  rfl rfl (fun w => by kernel_rfl)) (rowOf_any (show Nm _ (Q6.whole b x) a1 ac1 a2 ac2 a3 ac3 a4 ac4 from ⟨⟨(hS.rd 3 rfl), ha.s1.nil, ha.s1.cap⟩, ⟨(hS.rd 2 rfl), ha.s2.nil, ha.s2.cap⟩, ⟨(hS.rd 1 rfl), ha.s3.nil, ha.s3.cap⟩, ⟨(hS.rd 0 rfl), ha.s4.nil, ha.s4.cap⟩⟩) hx hb) ?_
        rintro _ w29 ⟨ro25, rc26, rfl, hs27, hb28⟩
        replace hS := hS.call hb28
        replace hS := hS.addR hs27.rd
        refine ⟨_, rfl, ?_⟩
        intro a hA
        refine seq_do hA rfl rfl rfl (does_move rfl) ?_
        intro a hA
        refine seq_do (v := .int .i64 (-n)) hA rfl rfl rfl (does_un rfl (un_neg (i64In (by omega) (by omega)))) ?_
        intro a hA
        refine seq_call hA rfl rfl rfl (enters_func  rfl rfl (fun w => by kernel_rfl)) (down_any ⟨(hS.rd 0 rfl), hs27.nil, hs27.cap⟩ (Nat.le_trans (words_mono (Nat.sub_le x b.toNat)) hx) (by omega) (by omega)) ?_
        rintro _ w34 ⟨ro30, rc31, rfl, hs32, hb33⟩
        replace hS := hS.call hb33
        replace hS := hS.addR hs32.rd
        refine ⟨_, rfl, ?_⟩
        intro a hA
        refine seq_call hA rfl rfl rfl (enters_func  rfl rfl (fun w => by kernel_rfl)) (number_any (b := b) ⟨(hS.rd 0 rfl), hs32.nil, hs32.cap⟩ (div_len (Nat.le_trans (words_mono (Nat.sub_le x b.toNat)) hx))) ?_
        rintro _ w38 ⟨p35_1, p35_c1, p35_2, p35_c2, p35_3, p35_c3, p35_4, p35_c4, rfl, hn36, hb37⟩
        replace hS := hS.call hb37
        replace hS := hS.addR hn36.s1.rd
        replace hS := hS.addR hn36.s2.rd
        replace hS := hS.addR hn36.s3.rd
        replace hS := hS.addR hn36.s4.rd
        refine ⟨_, rfl, ?_⟩
        intro a hA
        refine seq_do (v := .agg #[.bool ((bigS b ((x - b.toNat) / 2 ^ (-n).toNat + b.toNat)).1.b1), .slice p35_1 (((bigS b ((x - b.toNat) / 2 ^ (-n).toNat + b.toNat)).1.t1).length) p35_c1, .slice p35_2 (((bigS b ((x - b.toNat) / 2 ^ (-n).toNat + b.toNat)).1.q1).length) p35_c2, .bool ((bigS b ((x - b.toNat) / 2 ^ (-n).toNat + b.toNat)).1.b2), .slice p35_3 (((bigS b ((x - b.toNat) / 2 ^ (-n).toNat + b.toNat)).1.t2).length) p35_c3, .slice p35_4 (((bigS b ((x - b.toNat) / 2 ^ (-n).toNat + b.toNat)).1.q2).length) p35_c4]) hA rfl rfl rfl (does_extract (vs := [.agg #[.bool ((bigS b ((x - b.toNat) / 2 ^ (-n).toNat + b.toNat)).1.b1), .slice p35_1 (((bigS b ((x - b.toNat) / 2 ^ (-n).toNat + b.toNat)).1.t1).length) p35_c1, .slice p35_2 (((bigS b ((x - b.toNat) / 2 ^ (-n).toNat + b.toNat)).1.q1).length) p35_c2, .bool ((bigS b ((x - b.toNat) / 2 ^ (-n).toNat + b.toNat)).1.b2), .slice p35_3 (((bigS b ((x - b.toNat) / 2 ^ (-n).toNat + b.toNat)).1.t2).length) p35_c3, .slice p35_4 (((bigS b ((x - b.toNat) / 2 ^ (-n).toNat + b.toNat)).1.q2).length) p35_c4], .int .i64 ((bigS b ((x - b.toNat) / 2 ^ (-n).toNat + b.toNat)).2)]) rfl rfl) ?_
        intro a hA
        refine seq_do (v := .int .i64 ((bigS b ((x - b.toNat) / 2 ^ (-n).toNat + b.toNat)).2)) hA rfl rfl rfl (does_extract (vs := [.agg #[.bool ((bigS b ((x - b.toNat) / 2 ^ (-n).toNat + b.toNat)).1.b1), .slice p35_1 (((bigS b ((x - b.toNat) / 2 ^ (-n).toNat + b.toNat)).1.t1).length) p35_c1, .slice p35_2 (((bigS b ((x - b.toNat) / 2 ^ (-n).toNat + b.toNat)).1.q1).length) p35_c2, .bool ((bigS b ((x - b.toNat) / 2 ^ (-n).toNat + b.toNat)).1.b2), .slice p35_3 (((bigS b ((x - b.toNat) / 2 ^ (-n).toNat + b.toNat)).1.t2).length) p35_c3, .slice p35_4 (((bigS b ((x - b.toNat) / 2 ^ (-n).toNat + b.toNat)).1.q2).length) p35_c4], .int .i64 ((bigS b ((x - b.toNat) / 2 ^ (-n).toNat + b.toNat)).2)]) rfl rfl) ?_
        intro a hA
        refine seq_store (us := [.bool ((bigS b ((x - b.toNat) / 2 ^ (-n).toNat + b.toNat)).1.b1), .slice p35_1 (((bigS b ((x - b.toNat) / 2 ^ (-n).toNat + b.toNat)).1.t1).length) p35_c1, .slice p35_2 (((bigS b ((x - b.toNat) / 2 ^ (-n).toNat + b.toNat)).1.q1).length) p35_c2, .bool ((bigS b ((x - b.toNat) / 2 ^ (-n).toNat + b.toNat)).1.b2), .slice p35_3 (((bigS b ((x - b.toNat) / 2 ^ (-n).toNat + b.toNat)).1.t2).length) p35_c3, .slice p35_4 (((bigS b ((x - b.toNat) / 2 ^ (-n).toNat + b.toNat)).1.q2).length) p35_c4]) hA hS rfl rfl (sets_store (cs := [.bool ((bigS b ((x - b.toNat) / 2 ^ (-n).toNat + b.toNat)).1.b1), .slice p35_1 (((bigS b ((x - b.toNat) / 2 ^ (-n).toNat + b.toNat)).1.t1).length) p35_c1, .slice p35_2 (((bigS b ((x - b.toNat) / 2 ^ (-n).toNat + b.toNat)).1.q1).length) p35_c2, .bool ((bigS b ((x - b.toNat) / 2 ^ (-n).toNat + b.toNat)).1.b2), .slice p35_3 (((bigS b ((x - b.toNat) / 2 ^ (-n).toNat + b.toNat)).1.t2).length) p35_c3, .slice p35_4 (((bigS b ((x - b.toNat) / 2 ^ (-n).toNat + b.toNat)).1.q2).length) p35_c4]) rfl rfl rfl (by kernel_rfl) hS 1 rfl rfl rfl) 1 rfl rfl rfl rfl ?_
        intro w39 hS
        refine seq_do hA rfl rfl rfl (does_assign rfl) ?_
        intro a hA
        refine seq_end ?_
        refine hK24 _ _ ?_
        refine wp_ret ?_
        refine hret _ _ ?_
        refine ends (v := .tuple #[.agg #[.bool ((bigS b ((x - b.toNat) / 2 ^ (-n).toNat + b.toNat)).1.b1), .slice p35_1 (((bigS b ((x - b.toNat) / 2 ^ (-n).toNat + b.toNat)).1.t1).length) p35_c1, .slice p35_2 (((bigS b ((x - b.toNat) / 2 ^ (-n).toNat + b.toNat)).1.q1).length) p35_c2, .bool ((bigS b ((x - b.toNat) / 2 ^ (-n).toNat + b.toNat)).1.b2), .slice p35_3 (((bigS b ((x - b.toNat) / 2 ^ (-n).toNat + b.toNat)).1.t2).length) p35_c3, .slice p35_4 (((bigS b ((x - b.toNat) / 2 ^ (-n).toNat + b.toNat)).1.q2).length) p35_c4], .int .i64 ((bigS b ((x - b.toNat) / 2 ^ (-n).toNat + b.toNat)).2)]) hA rfl (.cons (res_cell hS isS_26 rfl 1 rfl (cs := [.bool ((bigS b ((x - b.toNat) / 2 ^ (-n).toNat + b.toNat)).1.b1), .slice p35_1 (((bigS b ((x - b.toNat) / 2 ^ (-n).toNat + b.toNat)).1.t1).length) p35_c1, .slice p35_2 (((bigS b ((x - b.toNat) / 2 ^ (-n).toNat + b.toNat)).1.q1).length) p35_c2, .bool ((bigS b ((x - b.toNat) / 2 ^ (-n).toNat + b.toNat)).1.b2), .slice p35_3 (((bigS b ((x - b.toNat) / 2 ^ (-n).toNat + b.toNat)).1.t2).length) p35_c3, .slice p35_4 (((bigS b ((x - b.toNat) / 2 ^ (-n).toNat + b.toNat)).1.q2).length) p35_c4]) rfl rfl) (.cons (res_tmp rfl) .nil)) rfl ?_
        rw [shiftQ_down hw (by omega) (by omega)]
        exact ⟨p35_1, p35_c1, p35_2, p35_c2, p35_3, p35_c3, p35_4, p35_c4, rfl, ⟨⟨(hS.rd 3 rfl), hn36.s1.nil, hn36.s1.cap⟩, ⟨(hS.rd 2 rfl), hn36.s2.nil, hn36.s2.cap⟩, ⟨(hS.rd 1 rfl), hn36.s3.nil, hn36.s3.cap⟩, ⟨(hS.rd 0 rfl), hn36.s4.nil, hn36.s4.cap⟩⟩, hS.bel⟩
      · have hb23' := of_decide_eq_false hb23
        refine seq_do (v := .bool false) hA rfl rfl rfl (does_bin rfl rfl (fun w => (bin_lss w).trans (by rw [hb23]))) ?_
        intro a hA
        refine seq_end ?_
        refine hK22 _ _ ?_
        refine wp_cond_false (hA.ev rfl) ?_
        refine wp_skip ?_
        refine hK21 _ _ ?_
        refine wp_seq_k (fun K40 hK40 => ?_)
        refine wp_region_lit ?_
        refine seq_do (v := .pointer (some ⟨g2, 0, none⟩)) hA rfl rfl rfl (does_field fld_26_0 rfl rfl) ?_
        intro a hA
        refine seq_do (v := .pointer (some ⟨g2, 1, none⟩)) hA rfl rfl rfl (does_field fld_24_1 rfl rfl) ?_
        intro a hA
        refine seq_do hA rfl rfl rfl (does_load1 hS is1_22 rfl 2 rfl rfl) ?_
        intro a hA
        refine seq_do hA rfl rfl rfl (does_move rfl) ?_
        intro a hA
        rcases Bool.eq_false_or_eq_true (decide ((words (x * 2 ^ n.toNat)).length ≤ 512)) with hb41 | hb41
        · have hb41' := of_decide_eq_true hb41
          refine seq_call hA rfl rfl rfl (enters_func  rfl rfl (fun w => by kernel_rfl)) (shift_fitI _ (hS.rd 3 rfl) hx (by omega) (by omega) (of_decide_eq_true hb41)) ?_
          rintro _ w46 ⟨ro42, rc43, rfl, ho44, hb45⟩
          replace hS := hS.call hb45
          replace hS := hS.addR ho44.rd
          refine ⟨_, rfl, ?_⟩
          intro a hA
          refine seq_do hA rfl rfl rfl (does_move rfl) ?_
          intro a hA
          refine seq_do (v := .slice ro42 ((words (x * 2 ^ n.toNat)).length) rc43) hA rfl rfl rfl (does_extract (vs := [.slice ro42 ((words (x * 2 ^ n.toNat)).length) rc43, .int .i64 0]) rfl rfl) ?_
          intro a hA
          refine seq_do (v := .int .i64 0) hA rfl rfl rfl (does_extract (vs := [.slice ro42 ((words (x * 2 ^ n.toNat)).length) rc43, .int .i64 0]) rfl rfl) ?_
          intro a hA
          refine seq_do hA rfl rfl rfl (does_assign rfl) ?_
          intro a hA
          refine seq_do hA rfl rfl rfl (does_assign rfl) ?_
          intro a hA
          refine seq_end ?_
          refine hK40 _ _ ?_
          refine wp_seq_k (fun K47 hK47 => ?_)
          refine wp_seq_k (fun K48 hK48 => ?_)
          refine wp_region_lit ?_
          refine seq_do hA rfl rfl rfl (does_move rfl) ?_
          intro a hA
          refine seq_do (v := .bool false) hA rfl rfl rfl (does_bin rfl rfl (fun w => by kernel_rfl)) ?_
          intro a hA
          refine seq_end ?_
          refine hK48 _ _ ?_
          refine wp_cond_false (hA.ev rfl) ?_
          refine wp_skip ?_
          refine hK47 _ _ ?_
          refine wp_seq_k (fun K49 hK49 => ?_)
          refine wp_region_lit ?_
          refine seq_do (v := .pointer (some ⟨g2, 0, none⟩)) hA rfl rfl rfl (does_field fld_26_0 rfl rfl) ?_
          intro a hA
          refine seq_do (v := .pointer (some ⟨g2, 0, none⟩)) hA rfl rfl rfl (does_field fld_24_0 rfl rfl) ?_
          intro a hA
          refine seq_do hA rfl rfl rfl (does_load1 hS is1_4 rfl 2 rfl rfl) ?_
          intro a hA
          refine seq_do hA rfl rfl rfl (does_move rfl) ?_
          intro a hA
          refine seq_call hA rfl rfl rfl (enters_func  rfl rfl (fun w => by kernel_rfl)) (wholeV_any b ⟨(hS.rd 0 rfl), ho44.nocap, ho44.caps⟩) ?_
          rintro _ w53 ⟨p50_1, p50_c1, p50_2, p50_c2, p50_3, p50_c3, p50_4, p50_c4, rfl, hn51, hb52⟩
          replace hS := hS.call hb52
          replace hS := hS.addR hn51.s1.rd
          replace hS := hS.addR hn51.s2.rd
          replace hS := hS.addR hn51.s3.rd
          replace hS := hS.addR hn51.s4.rd
          refine ⟨_, rfl, ?_⟩
          intro a hA
          refine seq_store (us := [.bool b, .slice p50_1 ((words (x * 2 ^ n.toNat)).length) p50_c1, .slice p50_2 1 p50_c2, .bool false, .slice p50_3 0 p50_c3, .slice p50_4 1 p50_c4]) hA hS rfl rfl (sets_store (cs := [.bool b, .slice p50_1 ((words (x * 2 ^ n.toNat)).length) p50_c1, .slice p50_2 1 p50_c2, .bool false, .slice p50_3 0 p50_c3, .slice p50_4 1 p50_c4]) rfl rfl rfl (by kernel_rfl) hS 1 rfl rfl rfl) 1 rfl rfl rfl rfl ?_
          intro w54 hS
          refine seq_do hA rfl rfl rfl (does_assign rfl) ?_
          intro a hA
          refine seq_end ?_
          refine hK49 _ _ ?_
          refine wp_ret ?_
          refine hret _ _ ?_
          refine ends (v := .tuple #[.agg #[.bool b, .slice p50_1 ((words (x * 2 ^ n.toNat)).length) p50_c1, .slice p50_2 1 p50_c2, .bool false, .slice p50_3 0 p50_c3, .slice p50_4 1 p50_c4], .int .i64 0]) hA rfl (.cons (res_cell hS isS_26 rfl 1 rfl (cs := [.bool b, .slice p50_1 ((words (x * 2 ^ n.toNat)).length) p50_c1, .slice p50_2 1 p50_c2, .bool false, .slice p50_3 0 p50_c3, .slice p50_4 1 p50_c4]) rfl rfl) (.cons (res_tmp rfl) .nil)) rfl ?_
          rw [shiftQ_up hw (by omega) (by omega), bigS_pos (by omega)]
          exact ⟨p50_1, p50_c1, p50_2, p50_c2, p50_3, p50_c3, p50_4, p50_c4, rfl, ⟨⟨(hS.rd 3 rfl), hn51.s1.nil, hn51.s1.cap⟩, ⟨(hS.rd 2 rfl), hn51.s2.nil, hn51.s2.cap⟩, ⟨(hS.rd 1 rfl), hn51.s3.nil, hn51.s3.cap⟩, ⟨(hS.rd 0 rfl), hn51.s4.nil, hn51.s4.cap⟩⟩, hS.bel⟩
        · have hb41' := of_decide_eq_false hb41
          refine seq_call hA rfl rfl rfl (enters_func  rfl rfl (fun w => by kernel_rfl)) (shift_bigI _ (hS.rd 3 rfl) hx (by omega) (by omega) (of_decide_eq_false hb41)) ?_
          rintro _ w59 ⟨ro55, rc56, rfl, ho57, hb58⟩
          replace hS := hS.call hb58
          replace hS := hS.addR ho57.rd
          refine ⟨_, rfl, ?_⟩
          intro a hA
          refine seq_do hA rfl rfl rfl (does_move rfl) ?_
          intro a hA
          refine seq_do (v := .slice ro55 0 rc56) hA rfl rfl rfl (does_extract (vs := [.slice ro55 0 rc56, .int .i64 4]) rfl rfl) ?_
          intro a hA
          refine seq_do (v := .int .i64 4) hA rfl rfl rfl (does_extract (vs := [.slice ro55 0 rc56, .int .i64 4]) rfl rfl) ?_
          intro a hA
          refine seq_do hA rfl rfl rfl (does_assign rfl) ?_
          intro a hA
          refine seq_do hA rfl rfl rfl (does_assign rfl) ?_
          intro a hA
          refine seq_end ?_
          refine hK40 _ _ ?_
          refine wp_seq_k (fun K60 hK60 => ?_)
          refine wp_seq_k (fun K61 hK61 => ?_)
          refine wp_region_lit ?_
          refine seq_do hA rfl rfl rfl (does_move rfl) ?_
          intro a hA
          refine seq_do (v := .bool true) hA rfl rfl rfl (does_bin rfl rfl (fun w => by kernel_rfl)) ?_
          intro a hA
          refine seq_end ?_
          refine hK61 _ _ ?_
          refine wp_cond_true (hA.ev rfl) ?_
          refine wp_seq_k (fun K62 hK62 => ?_)
          refine wp_region_lit ?_
          refine seq_do (v := .agg #[.bool false, .slice none 0 0, .slice none 0 0, .bool false, .slice none 0 0, .slice none 0 0]) hA rfl rfl rfl (does_build rfl (fun w => by kernel_rfl)) ?_
          intro a hA
          refine seq_do hA rfl rfl rfl (does_move rfl) ?_
          intro a hA
          refine seq_store (us := [.bool false, .slice none 0 0, .slice none 0 0, .bool false, .slice none 0 0, .slice none 0 0]) hA hS rfl rfl (sets_store (cs := [.bool false, .slice none 0 0, .slice none 0 0, .bool false, .slice none 0 0, .slice none 0 0]) rfl rfl rfl (by kernel_rfl) hS 1 rfl rfl rfl) 1 rfl rfl rfl rfl ?_
          intro w63 hS
          refine seq_do hA rfl rfl rfl (does_assign rfl) ?_
          intro a hA
          refine seq_end ?_
          refine hK62 _ _ ?_
          refine wp_ret ?_
          refine hret _ _ ?_
          refine ends (v := .tuple #[.agg #[.bool false, .slice none 0 0, .slice none 0 0, .bool false, .slice none 0 0, .slice none 0 0], .int .i64 4]) hA rfl (.cons (res_cell hS isS_26 rfl 1 rfl (cs := [.bool false, .slice none 0 0, .slice none 0 0, .bool false, .slice none 0 0, .slice none 0 0]) rfl rfl) (.cons (res_tmp rfl) .nil)) rfl ?_
          rw [shiftQ_up hw (by omega) (by omega), bigS_neg (by omega)]
          exact ⟨none, 0, none, 0, none, 0, none, 0, rfl, ⟨(Sc.none _), (Sc.none _), (Sc.none _), (Sc.none _)⟩, hS.bel⟩
end Go.Proofs.Yteghiinbafbokaa
namespace Go.Proofs.Yteghiinbafbokaa
open Go.RowKit
set_option linter.unusedVariables false
set_option linter.unusedSimpArgs false

/-- Two numbers are answered. -/
def AnsII (w : World) (r : Int × Int) (e : Ending) (w' : World) : Prop := e = .returned (.tuple #[.int .i64 r.1, .int .i64 r.2]) ∧ Below w.heap.size w w'
def lengthQ (q : Q6) : Int × Int := if want1 q = 0 then (((bl (val q.t1 - q.b1.toNat) : Nat) : Int), 0) else (0, want1 q)
theorem lengthQ_err {q : Q6} (h : (want1 q != 0) = true) : lengthQ q = (0, want1 q) := by unfold lengthQ; rw [if_neg (bne_iff_ne.1 h)]
theorem lengthQ_whole {b : Bool} {x : Nat} (h : want1 (Q6.whole b x) = 0) : lengthQ (Q6.whole b x) = (((bl (x - b.toNat) : Nat) : Int), 0) := by
  unfold lengthQ; rw [if_pos h]; simp only [Q6.whole, val_words]
theorem bitsW_any {w : World} {ao : Option Addr} {x : Nat} (cap : Nat) (h : Rd w ao (words x)) (hl : (words x).length ≤ 512) :
    Calls Try.prog 45 #[.slice ao (words x).length cap] w fun e w' => e = .returned (.int .i64 ((bl x : Nat) : Int)) ∧ w' = w := by
  have := bits_any cap h (by omega)
  unfold bitsS at this
  rw [if_pos (sound_of_words hl), val_words] at this
  exact this
def notQ (q : Q6) : Q6 × Int := if want1 q = 0 then bigS (!q.b1) (turnN q.b1 (val q.t1)) else (Q6.zero, want1 q)
theorem notQ_err {q : Q6} (h : (want1 q != 0) = true) : notQ q = (Q6.zero, want1 q) := by unfold notQ; rw [if_neg (bne_iff_ne.1 h)]
theorem notQ_whole {b : Bool} {x : Nat} (h : want1 (Q6.whole b x) = 0) : notQ (Q6.whole b x) = bigS (!b) (turnN b x) := by
  unfold notQ; rw [if_pos h]; simp only [Q6.whole, val_words]
theorem turn_sum {b : Bool} {x : Nat} (hb : b.toNat ≤ x) : x - b.toNat + (!b).toNat = turnN b x := by cases b <;> simp [turnN]
theorem turn_len {b : Bool} {x : Nat} (hx : (words x).length ≤ 512) : (words (turnN b x)).length ≤ 513 := by
  cases b with
  | false => exact words_add_length hx (Nat.le_trans (words_toNat true) (by decide))
  | true => exact Nat.le_trans (words_mono (Nat.sub_le x 1)) (by omega)
theorem down_fits {x k : Nat} (hx : (words x).length ≤ 512) (h1 : 1 ≤ x) : (words ((x - 1) / 2 ^ k + 1)).length ≤ 512 := by
  refine Nat.le_trans (words_mono ?_) hx
  have := Nat.div_le_self (x - 1) (2 ^ k)
  omega
end Go.Proofs.Yteghiinbafbokaa
