/- Walk of the law of products. -/
import Derived.Test.YtedjpknkiaibjaaNatI
import Derived.Test.YtedjpknkiaibjaaArgs
namespace Go.Proofs.Ytedjpknkiaibjaa
open Go.RowKit
set_option linter.unusedVariables false
set_option linter.unusedSimpArgs false

set_option maxHeartbeats 1000000 in
set_option maxRecDepth 1000000 in
theorem products_walk (w : World) (ao : Option Addr) (ca : Nat) (a : List Nat) (ha : Arg w ao ca a) (bo : Option Addr) (cb : Nat) (b : List Nat) (hb : Arg w bo cb b) :
    Calls Try.prog 4 #[.slice ao a.length ca, .slice bo b.length cb] w fun e w' => e = .returned (.bool true) ∧ Below w.heap.size w w' := by
  have HC1 : Hid _ := mul_any ca cb ha.rd hb.rd ha.len hb.len
  have HA : Hid _ := ha
  have HB : Hid _ := hb
  clear ha hb
  have hlen : (mulS a b).1.length ≤ 512 := by
    unfold mulS fitS
    split
    · split
      · assumption
      · simp
    · simp
  obtain ⟨n, hn⟩ : ∃ n, a.length = n := ⟨_, rfl⟩
  obtain ⟨m, hm⟩ : ∃ m, b.length = m := ⟨_, rfl⟩
  have HN : Hid _ := hn
  have HM : Hid _ := hm
  rw [hn, hm] at HC1
  rw [hn, hm]
  clear hn hm
  obtain ⟨r, hr⟩ : ∃ r, mulS a b = r := ⟨_, rfl⟩
  have HR : Hid _ := hr
  rw [hr] at HC1 hlen
  clear hr
  go_enter Try.func4, Try.ntmps4
  go_wp2_with fail
  refine Calls.mono HC1.out ?_
  rintro e w1 ⟨ro, rc, rfl, ho, hb1⟩
  have c2 := rmul_any ca cb (HA.out.rd.below hb1) (HB.out.rd.below hb1) HA.out.len HB.out.len
  rw [HR.out, HN.out, HM.out] at c2
  have HC2 : Hid _ := c2
  have HO1 : Hid _ := ho
  have HB1 : Hid _ := hb1
  clear ho hb1 c2
  go_wp2_with fail
  refine Calls.mono HC2.out ?_
  rintro e w2 ⟨so, sc, rfl, ho, hb2⟩
  have HO2 : Hid _ := ho
  have HB2 : Hid _ := hb2
  clear ho hb2
  go_wp2_with fail
  refine (awake_any w2).mono ?_
  rintro e w3 ⟨rfl, hb3⟩
  have c4 := same_any rc sc ((HO1.out.rd.below HB2.out).below hb3) (HO2.out.rd.below hb3) (by omega)
  have HC4 : Hid _ := c4
  have HB3 : Hid _ := hb3
  clear hb3 c4
  go_wp2_with fail
  refine Calls.mono HC4.out ?_
  rintro e w4 ⟨rfl, hb4⟩
  have HB4 : Hid _ := hb4
  clear hb4
  go_wp2
  go_ret
  exact ⟨rfl, chain4 HB1.out HB2.out HB3.out HB4.out⟩
end Go.Proofs.Ytedjpknkiaibjaa
