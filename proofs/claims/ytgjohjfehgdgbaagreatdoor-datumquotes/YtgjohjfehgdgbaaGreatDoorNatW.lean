/- NatW -/
import Derived.Test.YtgjohjfehgdgbaaGreatDoorNatV
namespace Go.Proofs.YtgjohjfehgdgbaaGreatDoor
open Go.RowKit
set_option linter.unusedVariables false
set_option linter.unusedSimpArgs false

theorem cmp_lt'{x y:Nat}(h:x<y):cmpN x y=-1:=by unfold cmpN; rw[if_pos h]
theorem cmp_ge'{x y:Nat}(h:¬x<y):¬cmpN x y<0:=by
  unfold cmpN;rw[if_neg h]
  split<;>omega

set_option maxHeartbeats 2000000 in
set_option maxRecDepth 1000000 in
theorem divide_less{w:World}{ao bo:Option Addr}{x y:Nat}(ca cb:Nat)(ha:Rd w ao (words x))(hb:Rd w bo (words y))(hx:(words x).length≤90000)(hy:(words y).length≤90000)(hnil:ao=none→ca=0)(hxy:x<y):
    Calls Tryz.prog 143 #[.slice ao (words x).length ca,.slice bo (words y).length cb] w (Row2 w (words (x / y)) (words (x%y))):=by
  have c1:=order_any ca cb ha hb (by omega) (by omega);rw[cmp_lt' hxy]at c1;rw[Nat.div_eq_of_lt hxy,Nat.mod_eq_of_lt hxy,words_zero];have HA:Hid _:=ha;have HNil:Hid _:=hnil;obtain⟨n,HX⟩:∃n,Hid ((words x).length=n):=⟨_,rfl⟩;obtain⟨m,HY⟩:∃m,Hid ((words y).length=m):=⟨_,rfl⟩;rw[HX.out,HY.out]at c1;rw[HX.out]at hx ⊢;rw[HY.out];have HC1:Hid _:=c1;clear c1 ha hb hnil hxy hy
  go_enter Tryz.func143,Tryz.ntmps143
  go_wp2_with fail
  refine Calls.mono HC1.out ?_;rintro e w1 ⟨rfl,b1⟩;have c2:=clone_any ca (HA.out.below b1) (by rw[HX.out]; omega) HNil.out;rw[HX.out]at c2;have HC2:Hid _:=c2;have HB1:Hid _:=b1;clear c2 b1 HC1
  go_wp2_with fail
  refine Calls.mono HC2.out ?_;rintro e w2 ⟨ro,rc,rfl,ho,b2⟩;have HO:Hid _:=ho.lower HB1.out.size;have HB2:Hid _:=HB1.out.trans (b2.mono HB1.out.size);clear ho b2 HC2
  go_wp2
  go_ret2
  exact⟨none,0,ro,rc,rfl,Own.nil _ _,HO.out,HB2.out⟩

set_option maxHeartbeats 2000000 in
set_option maxRecDepth 1000000 in
theorem divide_word{w:World}{ao bo:Option Addr}{x y:Nat}(ca cb:Nat)(ha:Rd w ao (words x))(hb:Rd w bo (words y))(hx:(words x).length≤90000)(hy:(words y).length=1)(hnil:ao=none→ca=0)(hxy:¬x<y):
    Calls Tryz.prog 143 #[.slice ao (words x).length ca,.slice bo (words y).length cb] w (Row2 w (words (x / y)) (words (x%y))):=by
  have c1:=order_any ca cb ha hb (by omega) (by omega);have hge:=cmp_ge' hxy;have hyl:=words_lt y;rw[hy,show pw 1=4294967296 from rfl]at hyl;have hy0:y≠0:=by intro e; rw[e,words_zero]at hy; simp at hy
  have hx0:words x≠[]:=fun e=>by have:=words_eq_nil.1 e; omega
  obtain⟨b2,o2,rfl,_,hc2⟩:=hb.pos (by intro e; rw[e]at hy; simp at hy);have k0:w.cell? ⟨b2,o2,none⟩=some (.int .u32 (y:Int)):=by
    have:=hc2 0 (by omega);rw[words_getD,pw_zero,Nat.div_one,Nat.mod_eq_of_lt hyl]at this;exact this
  have HA:Hid _:=ha;have HRB:Hid _:=hb;have HNil:Hid _:=hnil;obtain⟨n,HX⟩:∃n,Hid ((words x).length=n):=⟨_,rfl⟩;obtain⟨kc,hkc⟩:∃k,cmpN x y=k:=⟨_,rfl⟩;rw[hkc]at c1 hge;rw[HX.out,hy]at c1;rw[HX.out]at hx ⊢;rw[hy];have HC1:Hid _:=c1;have HX0:Hid _:=hx0;have hb2:b2<w.heap.size:=by assumption
  clear c1 ha hb hnil hxy hc2 hkc hx0 hy
  go_enter Tryz.func143,Tryz.ntmps143
  go_wp2_with fail
  refine Calls.mono HC1.out ?_;rintro e w1 ⟨rfl,b1⟩;have k2:w1.cell? ⟨b2,o2,none⟩=some (.int .u32 (y:Int)):=by
    rw[b1.cell (by exact hb2)];exact k0
  have c2:=divideByWord_any ca (HA.out.below b1) (by rw[HX.out]; omega) (show 0<y by omega) hyl;rw[HX.out]at c2;have HC2:Hid _:=c2;have HB1:Hid _:=b1;clear c2 b1 HC1 k0
  go_wp2_with fail
  refine Calls.mono HC2.out ?_;rintro e w3 ⟨qo,qc,rfl,oq,b3⟩;have HB3:Hid _:=HB1.out.trans (b3.mono HB1.out.size);have hmod:x%y<4294967296:=by have:=Nat.mod_lt x (show 0<y by omega); omega
  have hlit:=Own.lit1 w3 (x%y) hmod;have c4:=trim_any hlit (by simp);have ev:val [x%y]=x%y:=by simp[val]
  rw[ev]at c4;have HC4:Hid _:=c4;have HOQ:Hid _:=(oq.alloc (.cells #[.int .u32 ((x%y:Nat):Int)] 99)).lower HB1.out.size;have HB4:Hid (Below w.heap.size w (w3.alloc (.cells #[.int .u32 ((x%y:Nat):Int)] 99))):=HB3.out.alloc HB3.out.size _;obtain⟨r,hr⟩:∃r,x%y=r:=⟨_,rfl⟩;rw[hr]at HC4 HB4 HOQ hmod;simp only[hr];have HR:Hid _:=hr;have HSZ:Hid (w.heap.size≤w3.heap.size):=HB3.out.size;clear oq b3 hlit c4 ev hr HC2
  go_wp2_with fail
  refine Calls.mono HC4.out ?_;rintro e w4 ⟨rfl,ho4,rfl⟩;have HO4:Hid _:=ho4.lower HSZ.out;clear ho4
  go_wp2
  go_ret2
  have h:=HR.out;subst h;exact⟨_,_,_,_,rfl,HOQ.out,HO4.out,HB4.out⟩
end Go.Proofs.YtgjohjfehgdgbaaGreatDoor
