/- NatM -/
import Derived.Test.YtgjohjfehgdgbaaGreatDoorNatL
import Derived.Test.YtgjohjfehgdgbaaGreatDoorShelf
import Derived.Test.YtgjohjfehgdgbaaGreatDoorBitLen
namespace Go.Proofs.YtgjohjfehgdgbaaGreatDoor
open Go.RowKit
set_option linter.unusedVariables false
set_option linter.unusedSimpArgs false

def cmpS(a b:List Nat):Int:=if sound a&&sound b then cmpN (val a) (val b)else 0
theorem cmp_eq(x:Nat):cmpN x x=0:=by unfold cmpN; simp
set_option maxHeartbeats 1000000 in
set_option maxRecDepth 1000000 in
theorem cmp_any{w:World}{ao bo:Option Addr}{a b:List Nat}(ca cb:Nat)(ha:Rd w ao a)(hb:Rd w bo b)(la:a.length≤9223372036854775807)(lb:b.length≤9223372036854775807):
    Calls Tryz.prog 79 #[.slice ao a.length ca,.slice bo b.length cb] w fun e w'=>e=.returned (.int .i64 (cmpS a b))∧Below w.heap.size w w':=by
  have c1:=sound_any ca ha la;have c2:=sound_any cb hb lb;unfold cmpS;by_cases hs:sound a=true
  · by_cases ht:sound b=true
    · obtain⟨ea,na⟩:=sound_words ha.dig hs;obtain⟨eb,nb⟩:=sound_words hb.dig ht;rw[hs]at c1 ⊢;rw[ht]at c2 ⊢;generalize val a=x at *
      generalize val b=y at *
      subst ea eb;have c3:=order_any ca cb ha hb (by omega) (by omega);have HA:Hid _:=ha;have HBB:Hid _:=hb;have HNA:Hid _:=na;clear hs ht ha hb la lb;obtain⟨n,hn⟩:∃n,(words x).length=n:=⟨_,rfl⟩;obtain⟨m,hm⟩:∃m,(words y).length=m:=⟨_,rfl⟩;have HN:Hid _:=hn;have HM:Hid _:=hm;rw[hn]at c1 c3 ⊢;rw[hm]at c2 c3 ⊢;clear hn hm na nb;simp only[Bool.and_self,if_true];have HC3:Hid _:=c3;clear c3
      go_enter Tryz.func79,Tryz.ntmps79
      go_wp2_with fail
      refine c1.mono ?_;rintro e w' ⟨rfl,rfl⟩
      go_wp2_with fail
      refine c2.mono ?_;rintro e w' ⟨rfl,rfl⟩;clear c1 c2
      go_wp2_with fail
      refine Calls.mono HC3.out ?_;rintro e w1 ⟨rfl,hb1⟩;have HB1:Hid _:=hb1;clear hb1
      go_wp2
      go_ret
      exact⟨rfl,HB1.out⟩
    · simp only[Bool.not_eq_true]at ht;rw[hs]at c1;rw[ht]at c2;rw[hs,ht];clear ha hb la lb hs ht;generalize a.length=n at *
      generalize b.length=m at *
      go_enter Tryz.func79,Tryz.ntmps79
      go_wp2_with fail
      refine c1.mono ?_;rintro e w' ⟨rfl,rfl⟩
      go_wp2_with fail
      refine c2.mono ?_;rintro e w' ⟨rfl,rfl⟩
      go_wp2
      go_ret
      exact⟨rfl,Below.refl _ _⟩
  · simp only[Bool.not_eq_true]at hs;rw[hs]at c1 ⊢;clear ha hb la lb hs c2;generalize a.length=n at *
    generalize b.length=m at *
    go_enter Tryz.func79,Tryz.ntmps79
    go_wp2_with fail
    refine c1.mono ?_;rintro e w' ⟨rfl,rfl⟩
    go_wp2
    go_ret
    exact⟨rfl,Below.refl _ _⟩

end Go.Proofs.YtgjohjfehgdgbaaGreatDoor
