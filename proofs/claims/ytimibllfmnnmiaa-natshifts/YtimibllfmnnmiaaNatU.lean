/- Walks: a division by one word, a copy, and how far a word is from its top. -/
import Derived.Test.YtimibllfmnnmiaaNatT
import Derived.Test.YtimibllfmnnmiaaNatN
import Derived.Test.YtimibllfmnnmiaaCopy
import Derived.Lib.SliceRun
namespace Go.Proofs.Ytimibllfmnnmiaa
open Go.RowKit
set_option linter.unusedVariables false
set_option linter.unusedSimpArgs false

set_option maxHeartbeats 1000000 in
set_option maxRecDepth 1000000 in
theorem div32_any (h l y : Nat) (w : World) (hh : h < y) (hl : l < 4294967296) (hy : y < 4294967296) :
    Calls Try.prog 88 #[.int .u32 (h : Int), .int .u32 (l : Int), .int .u32 (y : Int)] w fun e w' => e = .returned (.tuple #[.int .u32 (((h * 4294967296 + l) / y : Nat) : Int), .int .u32 (((h * 4294967296 + l) % y : Nat) : Int)]) ∧ Below w.heap.size w w' := by
  have hor := or_u64 (h * 4294967296) l (by omega) (by omega)
  rw [or_two h l hl] at hor
  obtain ⟨N, hN⟩ : ∃ N, h * 4294967296 + l = N := ⟨_, rfl⟩
  rw [hN] at hor ⊢
  simp only [Int.natCast_mul, Int.cast_ofNat_Int] at hor
  have hNb : N < 4294967296 * y := by omega
  have hNm : N ≤ 18446744073709551615 := by omega
  have hq : N / y < 4294967296 := Nat.div_lt_of_lt_mul (by rw [Nat.mul_comm]; exact hNb)
  have hr : N % y < 4294967296 := by have := Nat.mod_lt N (show 0 < y by omega); omega
  have w1 : IntKind.u64.wrap ((h : Int) * 4294967296) = (h : Int) * 4294967296 := by
    have := wrap_u64 (h * 4294967296) (by omega)
    simpa using this
  have w2 : IntKind.u64.wrap ((N : Int) / (y : Int)) = ((N / y : Nat) : Int) := by
    rw [← Int.natCast_ediv]
    exact wrap_u64 _ (by omega)
  have w3 : IntKind.u32.wrap ((N / y : Nat) : Int) = ((N / y : Nat) : Int) := wrap_u32 _ hq
  have w4 : IntKind.u32.wrap ((N : Int) % (y : Int)) = ((N % y : Nat) : Int) := by
    rw [← Int.natCast_emod]
    exact wrap_u32 _ hr
  have t1 : ((y : Int) == 0) = false := by simp; omega
  have t2 : (y : Int) ≠ 0 := by omega
  have t3 : (1 : Int) ≤ (y : Int) := by omega
  have t4 : ¬ ((y : Int) ≤ (h : Int)) := by omega
  have eq1 : (N : Int) / (y : Int) = ((N / y : Nat) : Int) := by rw [Int.natCast_ediv]
  have eq2 : (N : Int) % (y : Int) = ((N % y : Nat) : Int) := by rw [Int.natCast_emod]
  have HR : Hid _ := eq2
  have HQ : Hid (IntKind.u64.wrap ((N : Int) / (y : Int)) % 4294967296 = ((N / y : Nat) : Int)) := by
    show IntKind.u64.wrap ((N : Int) / (y : Int)) % 4294967296 = ((N / y : Nat) : Int)
    rw [w2]
    generalize N / y = z at *
    omega
  clear hN eq1 eq2 w2 w3 w4
  go_enter Try.func88, Try.ntmps88
  go_wp2
  try simp only [hor]
  go_region
  all_goals go_wp2
  all_goals go_ret2
  all_goals (refine ⟨?_, by (repeat apply Below.drew); exact Below.refl _ _⟩; rw [← HQ.out, ← HR.out]; rfl)

theorem val_drop_at (l : List Nat) (p : Nat) (hp : p < l.length) : val (l.drop p) = l.getD p 0 + 4294967296 * val (l.drop (p + 1)) := by
  rw [List.drop_eq_getElem_cons hp, val_cons]
  simp [hp]
theorem set_drop_at (l : List Nat) (p d : Nat) (hp : p < l.length) : val ((l.set p d).drop p) = d + 4294967296 * val (l.drop (p + 1)) := by
  rw [val_drop_at _ _ (by rw [List.length_set]; exact hp), getD_set_eq _ _ _ hp, List.drop_set_of_lt (by omega)]
theorem byWord_step {V V' k left t : Nat} (h : V' * k + left = V) : ((left * 4294967296 + t) / k + 4294967296 * V') * k + (left * 4294967296 + t) % k = t + 4294967296 * V := by
  have e := Nat.div_add_mod (left * 4294967296 + t) k
  rw [Nat.mul_comm k] at e
  rw [Nat.add_mul, Nat.mul_assoc, ← h, Nat.mul_add]
  omega

set_option maxHeartbeats 1000000 in
set_option maxRecDepth 1000000 in
theorem divideByWord_any {B : Nat} {w : World} {g cap k n : Nat} {L : List Nat} (ho : Own B w (some ⟨g, 0, none⟩) cap L) (hL : L.length = n) (hn : n ≤ 1000000) (hk0 : 0 < k) (hk : k < 4294967296) :
    Calls Try.prog 75 #[.slice (some ⟨g, 0, none⟩) n cap, .int .u32 (k : Int)] w fun e w' => ∃ L' : List Nat, e = .returned (.int .u32 ((val L % k : Nat) : Int)) ∧ L'.length = n ∧ Own B w' (some ⟨g, 0, none⟩) cap L' ∧ w.grownBy w' (some g) ∧ val L' = val L / k := by
  have HL0 : Hid _ := hL
  clear hL
  go_enter Try.func75, Try.ntmps75
  go_wp2
  go_loopw [5, 10] (fun v5 v10 wr => ∃ (i left : Nat) (L' : List Nat), i ≤ n ∧ v10 = .int .i64 (i : Int) ∧ v5 = .int .u32 (left : Int) ∧ left < k ∧ L'.length = n ∧ Own B wr (some ⟨g, 0, none⟩) cap L' ∧ w.grownBy wr (some g) ∧ val (L'.drop (n - i)) * k + left = val (L.drop (n - i)) ∧ ∀ p, p < n - i → L'.getD p 0 = L.getD p 0) (fun _ v10 _ => n - (intOf v10).toNat)
  case atStart =>
    refine ⟨0, 0, L, Nat.zero_le _, rfl, rfl, hk0, HL0.out, ho, World.grownBy.refl _ _, ?_, fun _ _ => rfl⟩
    rw [List.drop_of_length_le (by rw [HL0.out]; omega)]
    simp [val]
  case round =>
    obtain ⟨i, left, L', hi, rfl, rfl, hleft, hL', hown, hgr, hval, hfix⟩ := hrel
    have HV : Hid _ := hval
    have HL : Hid _ := hL'
    have HF : Hid _ := hfix
    clear hval hL' hfix
    by_cases hin : i < n
    · have e0 : n - i = (n - 1 - i) + 1 := by omega
      have k1 := hown.cell (n - 1 - i) (by rw [HL.out]; omega)
      have k2 := hown.frozen (n - 1 - i)
      have d1 := hown.dig.getD (n - 1 - i)
      have hti := HF.out (n - 1 - i) (by omega)
      rw [hti] at k1 d1
      have hst : ∀ t, L.getD (n - 1 - i) 0 = t → val ((L'.set (n - 1 - i) ((left * 4294967296 + t) / k)).drop (n - 1 - i)) * k + (left * 4294967296 + t) % k = val (L.drop (n - 1 - i)) := by
        intro t ht
        rw [set_drop_at _ _ _ (by rw [HL.out]; omega), val_drop_at L _ (by rw [HL0.out]; omega), ht]
        apply byWord_step
        rw [← e0]
        exact HV.out
      obtain ⟨t, ht⟩ : ∃ t, L.getD (n - 1 - i) 0 = t := ⟨_, rfl⟩
      have HS : Hid _ := hst t ht
      rw [ht] at k1 d1
      clear hst ht hti
      have HC : Hid _ := div32_any left t k wr hleft d1 hk
      have hqb : (left * 4294967296 + t) / k < 4294967296 := Nat.div_lt_of_lt_mul (by
        have : (left + 1) * 4294967296 ≤ k * 4294967296 := Nat.mul_le_mul_right _ hleft
        omega)
      have hmb : (left * 4294967296 + t) % k < k := Nat.mod_lt _ hk0
      obtain ⟨qd, hqd⟩ : ∃ q, (left * 4294967296 + t) / k = q := ⟨_, rfl⟩
      obtain ⟨rd, hrd⟩ : ∃ q, (left * 4294967296 + t) % k = q := ⟨_, rfl⟩
      rw [hqd, hrd] at HC HS
      rw [hqd] at hqb
      rw [hrd] at hmb
      clear hqd hrd
      have t1 : ((n : Int) - 1 - i).toNat = n - 1 - i := by omega
      have HO : Hid _ := hown
      have HG : Hid _ := hgr
      clear hown hgr ho
      go_wp2_with fail
      refine Calls.mono HC.out ?_
      rintro e w1 ⟨rfl, b1⟩
      have hown1 := HO.out.below b1
      have k3 := hown1.cell (n - 1 - i) (by rw [HL.out]; omega)
      have k4 := hown1.frozen (n - 1 - i)
      have HSet : Hid _ := hown1.set (n - 1 - i) qd hqb
      have gr1 : wr.grownBy w1 (some g) := ⟨b1.os, b1.tape, b1.output, b1.size, fun k hk _ => b1.block k hk⟩
      have HG2 : Hid _ := grown_trans (grown_trans HG.out gr1) (hown1.setG (n - 1 - i) qd)
      clear b1 hown1 gr1 HC k1 k2
      go_wp2
      go_roundw
      case rel =>
        refine ⟨i + 1, rd, L'.set (n - 1 - i) qd, by omega, by go_num, rfl, hmb, by rw [List.length_set]; exact HL.out, HSet.out, HG2.out, ?_, fun p hp => ?_⟩
        · rw [show n - (i + 1) = n - 1 - i by omega]
          exact HS.out
        · rw [getD_set_ne _ _ _ _ (by omega)]
          exact HF.out p (by omega)
      case measure => simp only [intOf]; omega
    · have e : i = n := by omega
      subst e
      have hval : val L' = val L / k ∧ left = val L % k := by
        have h1 := HV.out
        rw [Nat.sub_self, List.drop_zero, List.drop_zero] at h1
        have h2 := Nat.div_mod_unique (a := val L) (b := k) (c := left) (d := val L') hk0
        have h3 := h2.2 ⟨by rw [Nat.mul_comm]; omega, hleft⟩
        exact ⟨h3.1.symm, h3.2.symm⟩
      have HVal : Hid _ := hval
      have HO : Hid _ := hown
      have HG : Hid _ := hgr
      clear hval hown hgr ho
      go_wp2
      go_ret
      refine ⟨L', ?_, HL.out, HO.out, HG.out, HVal.out.1⟩
      rw [← HVal.out.2]
      rfl

set_option maxHeartbeats 1000000 in
set_option maxRecDepth 1000000 in
theorem clone_any {w : World} {ao : Option Addr} {l : List Nat} (ca : Nat) (ha : Rd w ao l) (hl : l.length ≤ 1000000) (hnil : ao = none → ca = 0) :
    Calls Try.prog 63 #[.slice ao l.length ca] w (Row1 w l) := by
  obtain ⟨n, HN⟩ : ∃ n, Hid (l.length = n) := ⟨_, rfl⟩
  cases ao with
  | none =>
    have hl0 : l = [] := by
      apply Classical.byContradiction
      intro hne
      obtain ⟨b, off, e, _⟩ := ha.pos hne
      cases e
    subst hl0
    have hc := hnil rfl
    subst hc
    clear ha hl hnil HN
    have heq : ∀ w, (binOp .eql 22 (.slice none 0 0) (.slice none 0 0)).run Try.prog w = .ok (.bool true) w := fun w => Lib.run_eql_slice_nil w 22 33 none 0 0 0 0 Try.underlying22
    go_enter Try.func63, Try.ntmps63
    go_wp2
    go_ret
    exact ⟨none, 0, rfl, Own.nil _ _, Below.refl _ _⟩
  | some ad =>
    rw [HN.out] at hl ⊢
    have o1 : (w.alloc (.cells #[] 33)).ownsRow w.heap.size 33 1 (.slice (some ⟨w.heap.size, 0, none⟩) 0 0) 0 [] := World.ownsRow_made w #[] 0 (Nat.le_refl _) (by decide) rfl
    have b1 : Below w.heap.size w (w.alloc (.cells #[] 33)) := (Below.refl _ _).alloc (Nat.le_refl _) _
    have z1 : (w.alloc (.cells #[] 33)).heap.size = w.heap.size + 1 := by simp
    have r1 := ha.below b1
    have heq : ∀ w, (binOp .eql 22 (.slice (some ad) n ca) (.slice none 0 0)).run Try.prog w = .ok (.bool false) w := fun w => Lib.run_eql_slice_nil w 22 33 (some ad) n ca 0 0 Try.underlying22
    go_enter Try.func63, Try.ntmps63
    go_wp2_with (at_builtin; refine append_copy rfl (.tmp 5) (.tmp 6) rfl w.heap.size _ rfl o1 (by rw [z1]; omega) (some ad) n ca l rfl r1 HN.out (by simp) (by omega) ?_)
    intro xo xc wx ox gx
    have HOX : Hid _ := ox
    have HBX : Hid _ := grown_below b1 o1 gx (by rw [z1]; omega)
    clear o1 b1 z1 r1 ox gx
    go_wp2
    go_ret
    exact ⟨xo, xc, by rw [HN.out]; rfl, HOX.out, HBX.out⟩

set_option maxHeartbeats 1000000 in
theorem leading_any (x : Nat) (w : World) (h : x < 4294967296) : Calls Try.prog 76 #[.int .u32 (x : Int)] w fun e w' => e = .returned (.int .i64 ((32 - bl x : Nat) : Int)) ∧ w' = w := by
  have c1 := len32_any x w h
  have hb : bl x ≤ 32 := bl_le.2 h
  generalize bl x = q at *
  go_enter Try.func76, Try.ntmps76
  go_wp2_with fail
  refine c1.mono ?_
  rintro e w' ⟨rfl, rfl⟩
  go_wp2
  go_ret
  exact ⟨retI (by omega), rfl⟩
end Go.Proofs.Ytimibllfmnnmiaa
