/- Walk of the document's double. -/
import Derived.Test.YtfhpeeljjcphpaaNatL
namespace Go.Proofs.Ytfhpeeljjcphpaa
open Go.RowKit
set_option linter.unusedVariables false
set_option linter.unusedSimpArgs false

theorem or_bit (d c : Nat) (hc : c ≤ 1) : (d * 2 % 4294967296 ||| c) = d * 2 % 4294967296 + c := by
  have e : d * 2 % 4294967296 = (d % 2147483648) * 2 ^ 1 := by omega
  rw [e, or_add _ _ 1 (by omega)]
theorem double_step (acc a : List Nat) (i c b : Nat) (hl : acc.length = i) (ha : Dig a) (hc : c ≤ 1) (h : val acc + pw i * c = 2 * val (a.take i) + b) :
    val (acc ++ [a.getD i 0 * 2 % 4294967296 + c]) + pw (i + 1) * (a.getD i 0 / 2147483648) = 2 * val (a.take (i + 1)) + b := by
  rw [val_snoc, hl, val_take_succ, pw_succ]
  have hd := ha.getD i
  have e1 : a.getD i 0 * 2 % 4294967296 + 4294967296 * (a.getD i 0 / 2147483648) = 2 * a.getD i 0 := by omega
  have e2 := congrArg (fun t => pw i * t) e1
  simp only [Nat.mul_add] at e2
  rw [Nat.mul_add, Nat.mul_add]
  have e3 : 4294967296 * pw i * (a.getD i 0 / 2147483648) = pw i * (4294967296 * (a.getD i 0 / 2147483648)) := by rw [Nat.mul_comm 4294967296, Nat.mul_assoc]
  have e4 : 2 * (pw i * a.getD i 0) = pw i * (2 * a.getD i 0) := Nat.mul_left_comm _ _ _
  rw [e3, e4]
  omega

set_option maxHeartbeats 2000000 in
set_option maxRecDepth 1000000 in
theorem double_any {w : World} {ao : Option Addr} {x b : Nat} (ca : Nat) (ha : Rd w ao (words x)) (hx : (words x).length ≤ 100000) (hb : b ≤ 1) :
    Calls Try.prog 102 #[.slice ao (words x).length ca, .int .u32 (b : Int)] w (Row1 w (words (2 * x + b))) := by
  obtain ⟨i0, hi0, hz0, hz1, hz2⟩ := info_parts infoU
  obtain ⟨n, HX⟩ : ∃ n, Hid ((words x).length = n) := ⟨_, rfl⟩
  rw [HX.out] at hx ⊢
  go_enter Try.func102, Try.ntmps102
  go_wp2
  go_loopw [1, 5, 6] (fun v1 v5 v6 wr => ∃ (i c : Nat) (acc : List Nat) (ro : Option Addr) (rc : Nat), i ≤ n ∧ v6 = .int .i64 (i : Int) ∧ v1 = .int .u32 (c : Int) ∧ c ≤ 1 ∧ v5 = .slice ro i rc ∧ acc.length = i ∧ Own w.heap.size wr ro rc acc ∧ Below w.heap.size w wr ∧ val acc + pw i * c = 2 * val ((words x).take i) + b) (fun _ _ v6 _ => n - (intOf v6).toNat)
  case atStart =>
    refine ⟨0, b, [], some ⟨w.heap.size, 0, none⟩, 0, Nat.zero_le _, rfl, rfl, hb, rfl, rfl, ⟨dig_nil, World.ownsRow_made w #[] 0 (Nat.le_refl _) (by decide) rfl⟩, (Below.refl _ w).alloc (Nat.le_refl _) _, by simp [val, pw_zero]⟩
  case round =>
    obtain ⟨i, c, acc, ro, rc, hi, rfl, rfl, hc, rfl, hacc, hown, hbw, hv⟩ := hrel
    have HV : Hid _ := hv
    have HL : Hid _ := hacc
    have hwsz := hbw.size
    clear hv hacc
    by_cases hin : i < n
    · obtain ⟨b1, o1, rfl, hlt1, hc1⟩ := (ha.below hbw).pos (by intro e; have := HX.out; rw [e] at this; simp at this; omega)
      have k0 := hc1 i (by rw [HX.out]; omega)
      have d1 := (words_dig x).getD i
      have HS : Hid _ := double_step acc (words x) i c b HL.out (words_dig x) hc HV.out
      obtain ⟨d, hd⟩ : ∃ d, (words x).getD i 0 = d := ⟨_, rfl⟩
      rw [hd] at k0 d1 HS
      clear hd hc1
      have hrow := hown.row
      rw [HL.out] at hrow
      have HD : Hid _ := hown.dig
      have HB : Hid _ := hbw
      have HR : Hid _ := ha
      have hor : bits BinOp.or IntKind.u32 ((d : Int) * 2 % 4294967296) (c : Int) = ((d * 2 % 4294967296 + c : Nat) : Int) := by
        have e : (d : Int) * 2 % 4294967296 = ((d * 2 % 4294967296 : Nat) : Int) := by rw [Int.natCast_emod, Int.natCast_mul]; rfl
        rw [e, or_u32 _ _ (Nat.mod_lt _ (by omega)) (by omega), or_bit d c hc]
      obtain ⟨t, ht⟩ : ∃ t, d * 2 % 4294967296 + c = t := ⟨_, rfl⟩
      have htb : t < 4294967296 := by omega
      rw [ht] at hor HS
      clear hown hbw ha ht
      go_wp2_with (at_builtin; refine wpList_append_own _ rfl _ _ 22 rfl w.heap.size 41 i0 (.int .u32 0) 1 4 Try.underlying22 hi0 hz0 hz1 hz2 rfl (by decide) _ _ _ rfl (hrow.alloc _) ⟨wr.heap.size, 0, none⟩ 1 1 [.int .u32 (t : Int)] rfl rfl (by exact cell_one wr _ 41) (by intro u hu; simp at hu; subst hu; rfl) (by unfold maxLen; omega) (by omega) (by simp; omega) ?_)
      intro v' w1 hown' hgrow hiff
      have hb2 := grown_below (HB.out.alloc (by omega) _) (hrow.alloc _) hgrow (by simp; omega)
      rw [← HL.out] at hown'
      obtain ⟨ro', rc', e, ho⟩ := own_append HD.out htb hown'
      have hlen : (acc ++ [t]).length = i + 1 := by rw [List.length_append, HL.out]; rfl
      rw [hlen] at e
      subst e
      obtain ⟨b2, o2, he2, _, hc2⟩ := (HR.out.below hb2).pos (by intro e; have := HX.out; rw [e] at this; simp at this; omega)
      cases he2
      have k3 : w1.cell? ⟨b1, o1 + i, none⟩ = some (.int .u32 (d : Int)) := by
        have h1 := hb2.cell (p := ⟨b1, o1 + i, none⟩) (by
          have := HR.out.pos (by intro e; have := HX.out; rw [e] at this; simp at this; omega)
          obtain ⟨b3, o3, e3, h3, _⟩ := this
          cases e3
          exact h3)
        have h2 := HB.out.cell (p := ⟨b1, o1 + i, none⟩) (by
          have := HR.out.pos (by intro e; have := HX.out; rw [e] at this; simp at this; omega)
          obtain ⟨b3, o3, e3, h3, _⟩ := this
          cases e3
          exact h3)
        rw [h1, ← h2]
        exact k0
      have HO : Hid _ := ho
      have HB2 : Hid _ := hb2
      clear hown' hgrow hiff ho hb2 hrow hc2 hlen k0
      go_wp2
      go_roundw
      case rel =>
        refine ⟨i + 1, d / 2147483648, acc ++ [t], ro', rc', by omega, by go_num, rfl, by omega, rfl, by rw [List.length_append, HL.out]; rfl, HO.out, HB2.out, HS.out⟩
      case measure => simp only [intOf]; omega
    · have e : i = n := by omega
      subst e
      have hval : val (acc ++ [c]) = 2 * x + b := by
        have h1 := HV.out
        rw [List.take_of_length_le (by rw [HX.out]; omega), val_words] at h1
        rw [val_snoc, HL.out]
        exact h1
      have HVV : Hid _ := hval
      have hrow := hown.row
      rw [HL.out] at hrow
      have HD : Hid _ := hown.dig
      have HB : Hid _ := hbw
      clear hval hown hbw ha
      go_wp2_with (at_builtin; refine wpList_append_own _ rfl _ _ 22 rfl w.heap.size 41 i0 (.int .u32 0) 1 4 Try.underlying22 hi0 hz0 hz1 hz2 rfl (by decide) _ _ _ rfl (hrow.alloc _) ⟨wr.heap.size, 0, none⟩ 1 1 [.int .u32 (c : Int)] rfl rfl (by exact cell_one wr _ 41) (by intro u hu; simp at hu; subst hu; rfl) (by unfold maxLen; omega) (by omega) (by simp; omega) ?_)
      intro v' w1 hown' hgrow hiff
      have hb2 := grown_below (HB.out.alloc (by omega) _) (hrow.alloc _) hgrow (by simp; omega)
      rw [← HL.out] at hown'
      obtain ⟨ro', rc', e, ho⟩ := own_append HD.out (by omega) hown'
      have hlen : (acc ++ [c]).length = i + 1 := by rw [List.length_append, HL.out]; rfl
      rw [hlen] at e
      subst e
      have c3 := norm_any rc' ho.rd (by rw [hlen]; omega) ho.caps (fun e => by subst e; exact ho.none_cap)
      rw [HVV.out, hlen] at c3
      have HC : Hid _ := c3
      have HB2 : Hid _ := hb2
      clear hown' hgrow hiff ho hb2 hrow c3 hlen
      go_wp2_with fail
      refine Calls.mono HC.out ?_
      rintro e w2 ⟨so, sc, rfl, ho, hb3⟩
      have HO : Hid _ := ho.lower HB2.out.size
      have HB3 : Hid _ := HB2.out.trans (hb3.mono HB2.out.size)
      clear ho hb3
      go_wp2
      go_ret
      exact ⟨_, _, rfl, HO.out, HB3.out⟩
end Go.Proofs.Ytfhpeeljjcphpaa
