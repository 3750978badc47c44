/- Walk of the document's quotient, bit by bit. -/
import Derived.Test.YtfhpeeljjcphpaaOverRef
import Derived.Test.YtfhpeeljjcphpaaNatZ
import Derived.Test.YtfhpeeljjcphpaaNatM
namespace Go.Proofs.Ytfhpeeljjcphpaa
open Go.RowKit
set_option linter.unusedVariables false
set_option linter.unusedSimpArgs false

theorem or_one_bit (d m : Nat) (h : d / 2 ^ m % 2 = 0) : d ||| 2 ^ m = d + 2 ^ m := by
  have p : 0 < 2 ^ m := Nat.pow_pos (by omega)
  obtain ⟨hi, hhi⟩ : ∃ hi, d / 2 ^ m = 2 * hi := ⟨d / 2 ^ m / 2, by generalize d / 2 ^ m = z at *; omega⟩
  obtain ⟨lo, hlo⟩ : ∃ lo, d % 2 ^ m = lo := ⟨_, rfl⟩
  have hl : lo < 2 ^ m := by rw [← hlo]; exact Nat.mod_lt _ p
  have e : d = hi * 2 ^ (m + 1) + lo := by
    have h1 := Nat.div_add_mod d (2 ^ m)
    rw [hhi, hlo] at h1
    rw [Nat.pow_succ, ← Nat.mul_assoc, Nat.mul_comm (hi * 2 ^ m) 2, ← h1]
    congr 1
    rw [Nat.mul_left_comm, Nat.mul_comm hi (2 ^ m)]
  have hp1 : lo < 2 ^ (m + 1) := by rw [Nat.pow_succ]; omega
  have hp2 : 2 ^ m + lo < 2 ^ (m + 1) := by rw [Nat.pow_succ]; omega
  have o1 : 2 ^ m ||| lo = 2 ^ m + lo := by
    have := or_add 1 lo m hl
    rw [Nat.one_mul] at this
    exact this
  rw [e, ← or_add hi lo (m + 1) hp1, Nat.or_assoc, Nat.or_comm lo, o1, or_add hi _ (m + 1) hp2, or_add hi lo (m + 1) hp1]
  omega
theorem val_getD {l : List Nat} (hd : Dig l) (p : Nat) : l.getD p 0 = val l / pw p % 4294967296 := by
  induction l generalizing p with
  | nil => simp [val]
  | cons d l ih =>
    have h1 := dig_cons.1 hd
    cases p with
    | zero =>
      rw [pw_zero, Nat.div_one, val_cons]
      simp
      omega
    | succ p =>
      rw [List.getD_cons_succ, ih h1.2, pw_succ, ← Nat.div_div_eq_div_mul]
      congr 2
      rw [val_cons]
      omega
theorem bit_clear {l : List Nat} {Q j : Nat} (hd : Dig l) (h : val l = Q * 2 ^ (j + 1)) : l.getD (j / 32) 0 / 2 ^ (j % 32) % 2 = 0 := by
  rw [val_getD hd, bit_word, h, Nat.pow_succ, ← Nat.mul_assoc, Nat.mul_comm Q, Nat.mul_assoc, Nat.mul_div_cancel_left _ (Nat.pow_pos (by omega))]
  omega
theorem over_half (x j : Nat) : x / 2 ^ j = 2 * (x / 2 ^ (j + 1)) + x / 2 ^ j % 2 := by
  rw [Nat.pow_succ, ← Nat.div_div_eq_div_mul]
  generalize x / 2 ^ j = z
  omega
theorem over_yes {x y Q r j : Nat} (h : x / 2 ^ (j + 1) = Q * y + r) (hge : y ≤ 2 * r + x / 2 ^ j % 2) : x / 2 ^ j = (2 * Q + 1) * y + (2 * r + x / 2 ^ j % 2 - y) := by
  have h1 := over_half x j
  rw [h] at h1
  rw [Nat.add_mul, Nat.one_mul, Nat.mul_assoc]
  rw [Nat.mul_add] at h1
  generalize x / 2 ^ j = z at *
  omega
theorem over_no {x y Q r j : Nat} (h : x / 2 ^ (j + 1) = Q * y + r) : x / 2 ^ j = 2 * Q * y + (2 * r + x / 2 ^ j % 2) := by
  have h1 := over_half x j
  rw [h] at h1
  rw [Nat.mul_assoc]
  rw [Nat.mul_add] at h1
  generalize x / 2 ^ j = z at *
  omega

set_option maxHeartbeats 2000000 in
set_option maxRecDepth 1000000 in
theorem over_any {w : World} {ao bo : Option Addr} {x y : Nat} (ca cb : Nat) (ha : Rd w ao (words x)) (hb : Rd w bo (words y)) (hx : (words x).length ≤ 9000) (hy : (words y).length ≤ 9000) (hy0 : y ≠ 0) :
    Calls Try.prog 97 #[.slice ao (words x).length ca, .slice bo (words y).length cb] w (Row2 w (words (x / y)) (words (x % y))) := by
  obtain ⟨n, HX⟩ : ∃ n, Hid ((words x).length = n) := ⟨_, rfl⟩
  obtain ⟨m, HY⟩ : ∃ n, Hid ((words y).length = n) := ⟨_, rfl⟩
  have hbl := bl_len (Nat.le_of_eq HX.out)
  have HY0 : Hid (0 < y) := Nat.pos_of_ne_zero hy0
  rw [HX.out] at hx
  rw [HY.out] at hy
  rw [HX.out, HY.out]
  clear hy0
  have hmk := run_make_row' (P := Try.prog) 22 41 (.int .u32 0) 4 Try.underlying22 infoU rfl .i64 .i64 n (by omega) (by omega)
  have b1 : Below w.heap.size w ((w.alloc (.cells (madeCells #[.int .u32 0] n) 41)).alloc (.cells #[] 41)) := ((Below.refl _ _).alloc (Nat.le_refl _) _).alloc (by simp) _
  have oq : Own w.heap.size ((w.alloc (.cells (madeCells #[.int .u32 0] n) 41)).alloc (.cells #[] 41)) (some ⟨w.heap.size, 0, none⟩) n (List.replicate n 0) := (Own.made w n (by omega)).alloc _
  have zs : (w.alloc (.cells (madeCells #[.int .u32 0] n) 41)).heap.size = w.heap.size + 1 := by simp
  have or0 : Own (w.heap.size + 1) ((w.alloc (.cells (madeCells #[.int .u32 0] n) 41)).alloc (.cells #[] 41)) (some ⟨w.heap.size + 1, 0, none⟩) 0 [] := by
    have := World.ownsRow_made (e := 41) (size := 1) (base := w.heap.size + 1) (w.alloc (.cells (madeCells #[.int .u32 0] n) 41)) #[] 0 (by rw [zs]; exact Nat.le_refl _) (by decide) rfl
    rw [zs] at this
    exact ⟨dig_nil, this⟩
  have c1 := size_any ca (ha.below b1) (by rw [HX.out]; omega)
  rw [HX.out] at c1
  have HA : Hid _ := ha
  have HRB : Hid _ := hb
  have HC1 : Hid _ := c1
  have HB1 : Hid _ := b1
  have HOQ : Hid _ := oq
  have HOR : Hid _ := or0
  have HBL : Hid (x < 2 ^ bl x) := lt_bl x
  obtain ⟨bx, hbx⟩ : ∃ b, bl x = b := ⟨_, rfl⟩
  rw [hbx] at HC1 hbl HBL
  clear ha hb c1 b1 oq or0 zs hbx
  go_enter Try.func97, Try.ntmps97
  go_wp2_with fail
  refine Calls.mono HC1.out ?_
  rintro e w' ⟨rfl, hw'⟩
  have hw' := hw'.symm
  subst hw'
  clear HC1
  go_wp2
  go_loopw [7, 8] (fun v7 v8 wr => ∃ (kk r Q : Nat) (LQ : List Nat) (ro : Option Addr) (rc : Nat), kk ≤ bx ∧ v8 = .int .i64 ((kk : Int) - 1) ∧ v7 = .slice ro (words r).length rc ∧ LQ.length = n ∧ Own w.heap.size wr (some ⟨w.heap.size, 0, none⟩) n LQ ∧ Own (w.heap.size + 1) wr ro rc (words r) ∧ Below w.heap.size w wr ∧ val LQ = Q * 2 ^ kk ∧ x / 2 ^ kk = Q * y + r ∧ r < y) (fun _ v8 _ => (intOf v8 + 1).toNat)
  case atStart =>
    refine ⟨bx, 0, 0, List.replicate n 0, some ⟨w.heap.size + 1, 0, none⟩, 0, Nat.le_refl _, rfl, by rw [words_zero]; rfl, by simp, HOQ.out, by rw [words_zero]; exact HOR.out, HB1.out, by rw [val_replicate, Nat.zero_mul], ?_, HY0.out⟩
    rw [Nat.div_eq_of_lt HBL.out, Nat.zero_mul]
  case round =>
    obtain ⟨kk, r, Q, LQ, ro, rc, hkk, rfl, rfl, hLQ, hoq, hor, hbw, hval, hdiv, hr⟩ := hrel
    have HLQ : Hid _ := hLQ
    have HVAL : Hid _ := hval
    have HDIV : Hid _ := hdiv
    have HRY : Hid _ := hr
    clear hLQ hval hdiv hr
    by_cases hk0 : kk = 0
    · subst hk0
      have hfin : val LQ = x / y ∧ r = x % y := by
        have h1 := HVAL.out
        have h2 := HDIV.out
        rw [Nat.pow_zero, Nat.mul_one] at h1
        rw [Nat.pow_zero, Nat.div_one] at h2
        have h3 := Nat.div_mod_unique (a := x) (b := y) (c := r) (d := Q) HY0.out
        have h4 := h3.2 ⟨by rw [Nat.mul_comm]; omega, HRY.out⟩
        exact ⟨h1.trans h4.1.symm, h4.2.symm⟩
      have c1 := norm_any n hoq.rd (by rw [HLQ.out]; omega) hoq.caps (by simp)
      rw [hfin.1, HLQ.out] at c1
      have HC1 : Hid _ := c1
      have HOR2 : Hid _ := hor
      have HBW : Hid _ := hbw
      have HFin : Hid _ := hfin.2
      clear c1 hfin hoq hor hbw
      go_wp2_with fail
      refine Calls.mono HC1.out ?_
      rintro e w2 ⟨so, sc, rfl, ho, b2⟩
      have HO2 : Hid _ := ho.lower HBW.out.size
      have HOR3 : Hid _ := (HOR2.out.below b2).lower (Nat.le_succ w.heap.size)
      have HB2 : Hid _ := chain2 HBW.out b2
      clear ho b2 HC1
      go_wp2
      go_ret2
      have e := HFin.out
      subst e
      exact ⟨_, _, _, _, rfl, HO2.out, HOR3.out, HB2.out⟩
    · obtain ⟨j, rfl⟩ : ∃ j, kk = j + 1 := ⟨kk - 1, by omega⟩
      have e1 : (((j + 1 : Nat) : Int) - 1) = (j : Int) := by omega
      simp only [e1]
      have c1 := bit_any ca j (HA.out.below hbw) (by omega)
      rw [HX.out] at c1
      have hrl : (words r).length ≤ 9000 := by
        have := words_mono (Nat.le_of_lt HRY.out)
        rw [HY.out] at this
        omega
      have hb1 : x / 2 ^ j % 2 ≤ 1 := by omega
      have c2 := double_any (b := x / 2 ^ j % 2) rc hor.rd (by omega) hb1
      have HYES : Hid _ := @over_yes x y Q r j HDIV.out
      have HNO : Hid _ := @over_no x y Q r j HDIV.out
      obtain ⟨bt, hbt⟩ : ∃ b, x / 2 ^ j % 2 = b := ⟨_, rfl⟩
      rw [hbt] at c1 c2 hb1 HYES HNO
      have HC1 : Hid _ := c1
      have HC2 : Hid _ := c2
      have HOQ2 : Hid _ := hoq
      have HBW : Hid _ := hbw
      have HRL : Hid _ := hrl
      have hsz : w.heap.size + 1 ≤ wr.heap.size := Nat.succ_le_of_lt (hoq.lt _ rfl).2
      clear c1 c2 hoq hor hbw hbt hrl
      go_wp2_with fail
      refine Calls.mono HC1.out ?_
      rintro e w' ⟨rfl, hw'⟩
      have hw' := hw'.symm
      subst hw'
      clear HC1
      go_wp2_with fail
      refine Calls.mono HC2.out ?_
      rintro e w2 ⟨do_, dc, rfl, od, b2⟩
      have hdl : (words (2 * r + bt)).length ≤ 9001 := by
        apply words_length_le
        have h1 := words_length_iff.1 HRL.out
        have e : pw 9001 = 4294967296 * pw 9000 := pw_succ 9000
        generalize pw 9000 = Z at *
        omega
      have HOD : Hid _ := od.lower hsz
      have HOQ3 : Hid _ := HOQ2.out.below b2
      have HBW2 : Hid _ := chain2 HBW.out b2
      have hsz2 : w.heap.size + 1 ≤ w2.heap.size := Nat.le_trans hsz b2.size
      have c3 := rorder_any dc cb od.rd (HRB.out.below HBW2.out) (by omega) (by rw [HY.out]; omega)
      rw [HY.out] at c3
      clear od b2 HC2
      by_cases hcmp : 2 * r + bt < y
      · rw [cmp_lt hcmp] at c3
        have HC3 : Hid _ := c3
        have HCMP : Hid _ := hcmp
        clear c3 hcmp
        go_wp2_with fail
        refine Calls.mono HC3.out ?_
        rintro e w3 ⟨rfl, b3⟩
        have HOD3 : Hid _ := HOD.out.below b3
        have HOQ4 : Hid _ := HOQ3.out.below b3
        have HBW3 : Hid _ := chain2 HBW2.out b3
        clear b3 HC3
        go_wp2
        go_roundw
        case rel =>
          refine ⟨j, 2 * r + bt, 2 * Q, LQ, do_, dc, by omega, by go_num, rfl, HLQ.out, HOQ4.out, HOD3.out, HBW3.out, ?_, HNO.out, HCMP.out⟩
          rw [HVAL.out, Nat.pow_succ, ← Nat.mul_assoc, Nat.mul_comm (Q * 2 ^ j) 2, Nat.mul_assoc]
        case measure => simp only [intOf]; omega
      · have hge := cmp_ge' hcmp
        obtain ⟨kc, hkc⟩ : ∃ k, cmpN (2 * r + bt) y = k := ⟨_, rfl⟩
        rw [hkc] at c3 hge
        have hge2 : (0 : Int) ≤ kc := by omega
        have HC3 : Hid _ := c3
        have hyle : y ≤ 2 * r + bt := Nat.le_of_not_lt hcmp
        have HCMP : Hid _ := hyle
        clear c3 hcmp hkc hge hyle
        go_wp2_with fail
        refine Calls.mono HC3.out ?_
        rintro e w3 ⟨rfl, b3⟩
        have c4 := rless_any dc cb (HOD.out.rd.below b3) (HRB.out.below (chain2 HBW2.out b3)) (by omega) HCMP.out
        rw [HY.out] at c4
        have HC4 : Hid _ := c4
        have HOQ4 : Hid _ := HOQ3.out.below b3
        have HBW3 : Hid _ := chain2 HBW2.out b3
        have hsz3 : w.heap.size + 1 ≤ w3.heap.size := Nat.le_trans hsz2 b3.size
        clear b3 c4 HC3
        go_wp2_with fail
        refine Calls.mono HC4.out ?_
        rintro e w4 ⟨so, sc, rfl, os, b4⟩
        have HOS : Hid _ := os.lower hsz3
        have hoq5 := HOQ4.out.below b4
        have HBW4 : Hid _ := chain2 HBW3.out b4
        have k1 := hoq5.cell (j / 32) (by rw [HLQ.out]; omega)
        have k2 := hoq5.frozen (j / 32)
        have d1 := hoq5.dig.getD (j / 32)
        have HCL : Hid _ := bit_clear hoq5.dig HVAL.out
        have HVS : Hid _ := val_set LQ (j / 32) (LQ.getD (j / 32) 0 + 2 ^ (j % 32)) (by rw [HLQ.out]; omega)
        obtain ⟨d, hd⟩ : ∃ d, LQ.getD (j / 32) 0 = d := ⟨_, rfl⟩
        rw [hd] at k1 d1 HCL HVS
        have hp2 : 2 ^ (j % 32) < 4294967296 := by
          have := Nat.pow_lt_pow_right (show 1 < 2 by omega) (Nat.mod_lt j (show 0 < 32 by omega))
          exact this
        have horb := or_one_bit d (j % 32) HCL.out
        have hsum : d + 2 ^ (j % 32) < 4294967296 := by
          rw [← horb]
          exact Nat.or_lt_two_pow (n := 32) d1 hp2
        have hor : bits BinOp.or IntKind.u32 (d : Int) (2 ^ (j % 32) % 4294967296) = ((d + 2 ^ (j % 32) : Nat) : Int) := by
          have e : ((2 : Int) ^ (j % 32) % 4294967296) = ((2 ^ (j % 32) : Nat) : Int) := by
            have e2 : ((2 : Int) ^ (j % 32)) = ((2 ^ (j % 32) : Nat) : Int) := by rw [Int.natCast_pow]; rfl
            rw [e2]
            generalize 2 ^ (j % 32) = z at *
            omega
          rw [e, or_u32 _ _ d1 hp2, horb]
        have hset := hoq5.set (j / 32) (d + 2 ^ (j % 32)) hsum
        have hgs := hoq5.setG (j / 32) (d + 2 ^ (j % 32))
        rw [← hor] at hset hgs
        have HSet : Hid _ := hset
        have HOS5 : Hid _ := HOS.out.kept hgs (fun a ha e => by have h1 := (HOS.out.lt a ha).1; simp only [Option.some.injEq] at e; omega)
        have HBW5 : Hid _ := HBW4.out.setCell (p := ⟨w.heap.size, j / 32, none⟩) (Nat.le_refl _) (.int .u32 (bits BinOp.or IntKind.u32 (d : Int) (2 ^ (j % 32) % 4294967296)))
        have HPW : Hid (pw (j / 32) * 2 ^ (j % 32) = 2 ^ j) := by
          show pw (j / 32) * 2 ^ (j % 32) = 2 ^ j
          rw [pw_two, ← Nat.pow_add]
          congr 1
          omega
        clear os b4 hoq5 hd HC4 hset hgs hor hsum horb
        go_wp2
        go_region
        all_goals
          go_wp2
          go_roundw
          case rel =>
            refine ⟨j, 2 * r + bt - y, 2 * Q + 1, LQ.set (j / 32) (d + 2 ^ (j % 32)), so, sc, by omega, by go_num, rfl, by rw [List.length_set]; exact HLQ.out, HSet.out.drew, HOS5.out.drew, HBW5.out.drew, ?_, HYES.out HCMP.out, ?_⟩
            · have h1 := HVS.out
              rw [Nat.mul_add, HPW.out, HVAL.out, Nat.pow_succ, ← Nat.mul_assoc] at h1
              rw [Nat.add_mul, Nat.one_mul, Nat.mul_assoc]
              generalize Q * 2 ^ j = A at *
              omega
            · have h1 := HRY.out
              have h2 := HCMP.out
              omega
          case measure => simp only [intOf]; omega
end Go.Proofs.Ytfhpeeljjcphpaa
