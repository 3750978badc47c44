/- NatT -/
import Derived.Test.YtgjohjfehgdgbaaGreatDoorNatS
import Derived.Test.YtgjohjfehgdgbaaGreatDoorNatP
namespace Go.Proofs.YtgjohjfehgdgbaaGreatDoor
open Go.RowKit
set_option linter.unusedVariables false
set_option linter.unusedSimpArgs false

theorem Rd.apart'{w w':World}{ao:Option Addr}{l:List Nat}{g:Nat}(h:Rd w ao l)(hg:w.grownBy w' (some g))(hne:l≠[]→∀a,ao=some a→a.block≠g):Rd w' ao l:=by
  by_cases hl:l=[]
  · subst hl;exact Rd.nil _ _
  · exact h.grown hg (fun a ha e=>by cases e; exact hne hl a ha rfl)
theorem guess_first{q head next top u0:Nat}(ht:1≤top)(hu:u0<4294967296)(h:q*(next+4294967296*top)≤u0+4294967296*head):q≤head / top:=by
  rw[Nat.le_div_iff_mul_le (by omega)];have h1:q*(4294967296*top)≤q*(next+4294967296*top):=Nat.mul_le_mul_left _ (by omega);rw[Nat.mul_left_comm]at h1;omega
theorem guess_more{q gs l head next top u0:Nat}(h:q*(next+4294967296*top)≤u0+4294967296*head)(hgl:gs*top+l=head)(hgt:l*4294967296+u0<gs*next)(hq:q≤gs):q<gs:=by
  apply Classical.byContradiction;intro hn;have e:q=gs:=by omega
  subst e;rw[Nat.mul_add,Nat.mul_left_comm]at h;omega
theorem guess_end1{gs l head next top:Nat}(hb:head≤next+4294967296*top)(hn:next<4294967296)(ht:1≤top)(hgl:gs*top+l=head)(hl:4294967296≤l):gs<4294967296:=by
  apply Classical.byContradiction;intro h;have:4294967296*top≤gs*top:=Nat.mul_le_mul_right _ (by omega);omega
theorem guess_end2{gs l head next top u0:Nat}(hn:next<4294967296)(hg:gs<4294967296)(hgl:gs*top+l=head)(h:4294967296≤l∨gs*next≤l*4294967296+u0):gs*(next+4294967296*top)≤u0+4294967296*head:=by
  rw[Nat.mul_add,Nat.mul_left_comm,←hgl,Nat.mul_add];have h1:gs*next≤18446744065119617025:=mul_bound hg hn
  omega

set_option maxHeartbeats 2000000 in
set_option maxRecDepth 1000000 in
theorem guessDigit_any{w:World}{uo vo:Option Addr}{M v:List Nat}(n cu cv:Nat)(hu:Rd w uo M)(hv:Rd w vo v)(hn:v.length=n)(hm:M.length=n+1)(h2:2≤n)(hn1:n≤1000000)(htop:v.getD (n-1) 0≠0)(hlt:val M<4294967296*val v):
    Calls Tryz.prog 185 #[.slice uo (n+1) cu,.slice vo n cv] w fun e w'=>∃d:Nat,e=.returned (.int .u32 (d:Int))∧d<4294967296∧(d=val M / val v∨d=val M / val v+1)∧Below w.heap.size w w':=by
  obtain⟨b1,o1,rfl,_,hc1⟩:=hu.pos (by intro e; rw[e]at hm; simp at hm);obtain⟨b2,o2,rfl,_,hc2⟩:=hv.pos (by intro e; rw[e]at hn; simp at hn; omega);have k0:=hc1 n (by omega);have k1:=hc1 (n-1) (by omega);have k2:=hc1 (n-2) (by omega);have k3:=hc2 (n-1) (by omega);have k4:=hc2 (n-2) (by omega);have d0:=hu.dig.getD n;have d1:=hu.dig.getD (n-1);have d2:=hu.dig.getD (n-2);have d3:=hv.dig.getD (n-1);have d4:=hv.dig.getD (n-2);have e1:=val_top3 M (n-2) (by omega);have e2:=val_top2 v (n-2) (by omega);rw[show n-2+2=n by omega,show n-2+1=n-1 by omega]at e1;rw[show n-2+1=n-1 by omega]at e2;have l1:=val_take_lt hu.dig (n-2) (by omega);have l2:=val_take_lt hv.dig (n-2) (by omega);obtain⟨u2,h2u⟩:∃x,M.getD n 0=x:=⟨_,rfl⟩;obtain⟨u1,h1u⟩:∃x,M.getD (n-1) 0=x:=⟨_,rfl⟩;obtain⟨u0,h0u⟩:∃x,M.getD (n-2) 0=x:=⟨_,rfl⟩;obtain⟨top,htp⟩:∃x,v.getD (n-1) 0=x:=⟨_,rfl⟩;obtain⟨next,hnx⟩:∃x,v.getD (n-2) 0=x:=⟨_,rfl⟩;rw[h2u]at k0 d0 e1;rw[h1u]at k1 d1 e1;rw[h0u]at k2 d2 e1;rw[htp]at k3 d3 e2 htop;rw[hnx]at k4 d4 e2;clear h2u h1u h0u htp hnx hc1 hc2 hu hv hn hm;obtain⟨head,hhd⟩:∃h,u2*4294967296+u1=h:=⟨_,rfl⟩;rw[hhd]at e1;have ht1:1≤top:=by omega
  obtain⟨q,hq⟩:∃q,val M / val v=q:=⟨_,rfl⟩;have HA:Hid _:=guess_a l1 l2 e1 e2;have HB:Hid _:=guess_b l1 l2 e1 e2 hlt;have HC:Hid (∀{g:Nat},g<4294967296→g*(next+4294967296*top)≤u0+4294967296*head→g≤q+1):=fun hg h=>by
    have:=guess_c l1 l2 e1 e2 ht1 hg h;rw[hq]at this;exact this
  rw[hq]at HA;rw[hq];have hqlt:q<4294967296:=by
    rw[←hq];exact Nat.div_lt_of_lt_mul (by rw[Nat.mul_comm]; exact hlt)
  clear hq e1 e2 l1 l2 hlt;have hor:=or_u64 (u2*4294967296) u1 (by omega) (by omega);rw[or_two u2 u1 d1,hhd]at hor;simp only[Int.natCast_mul,Int.cast_ofNat_Int]at hor;have hhb:head≤18446744073709551615:=by omega
  clear hhd;have w3:IntKind.u64.wrap ((u2:Int)*4294967296)=(u2:Int)*4294967296:=by
    have:=wrap_u64 (u2*4294967296) (by omega);simpa using this
  have t1:((n:Int)-1).toNat=n-1:=by omega
  have t2:((n:Int)-2).toNat=n-2:=by omega
  have t3:((top:Int)==0)=false:=by simp; omega
  have t4:(top:Int)≠0:=by omega
  have t5:(1:Int)≤(top:Int):=by omega
  have wI1:=wrapI ((n:Int)-1) (by omega) (by omega);have wI2:=wrapI ((n:Int)-2) (by omega) (by omega);have q1:(0:Int)≤(n:Int)-1:=by omega
  have q2:(0:Int)≤(n:Int)-2:=by omega
  have q3:(n:Int)-1<(n:Int)+1:=by omega
  have q4:(n:Int)-2<(n:Int)+1:=by omega
  have hw:IntKind.u64.wrap ((head:Int) / (top:Int))=((head / top:Nat):Int):=by
    rw[←Int.natCast_ediv];exact wrap_u64 _ (by have:=Nat.div_le_self head top; omega)
  have HW:Hid _:=hw;clear hw
  go_enter Tryz.func185,Tryz.ntmps185
  go_wp2
  go_region
  go_wp2
  go_region
  go_wp2
  go_region
  go_wp2
  try simp only[hor]
  go_loopw [9,10] (fun v9 v10 wr=>∃(gs l:Nat),v9=.int .u64 (gs:Int)∧v10=.int .u64 (l:Int)∧gs*top+l=head∧q≤gs∧l<8589934592∧Below w.heap.size w wr) (fun v9 _ _=>(intOf v9).toNat)
  case atStart=>
    refine⟨head / top,head%top,by first | rfl | (rw[HW.out]) | (rw[Int.natCast_ediv]),by first | rfl | (rw[Int.natCast_emod]),?_,guess_first ht1 d2 HA.out,?_,?_⟩
    · have:=Nat.div_add_mod head top;rw[Nat.mul_comm]at this;exact this
    · have:=Nat.mod_lt head (show 0<top by omega);omega
    · repeat apply Below.drew
      exact Below.refl _ _
  case round=>
    obtain⟨gs,l,rfl,rfl,hgl,hqg,hl2,hbw⟩:=hrel;have HGL:Hid _:=hgl;have hgs:gs≤18446744073709551615:=by
      have:gs*1≤gs*top:=Nat.mul_le_mul_left _ ht1;omega
    clear hgl;have k2':wr.cell? ⟨b1,o1+(n-2),none⟩=some (.int .u32 (u0:Int)):=by
      rw[hbw.cell (by assumption)];exact k2
    by_cases hlB:l<4294967296
    · have a1:((l:Int) / 4294967296==0)=true:=(by simp; omega);by_cases hgB:gs<4294967296
      · have a2:((gs:Int) / 4294967296 != 0)=false:=(by simp; omega);have m1:=mul_boundI hgB d4;have hor2:=or_u64 (l*4294967296) u0 (by omega) (by omega);rw[or_two l u0 d2]at hor2;simp only[Int.natCast_add,Int.natCast_mul,Int.cast_ofNat_Int]at hor2;obtain⟨pr,hpr⟩:∃pr,gs*next=pr:=⟨_,rfl⟩
        have hprI:(gs:Int)*(next:Int)=(pr:Int):=(by rw[←hpr,Int.natCast_mul]);rw[hprI]at m1;by_cases hcmp:l*4294967296+u0<pr
        · have hgt:q<gs:=guess_more HA.out HGL.out (by rw[hpr]; exact hcmp) hqg;clear hpr
          go_wp2
          go_roundw
          case rel=>
            refine⟨gs-1,l+top,by go_num,by go_num,?_,by omega,by omega,hbw⟩;have h1:=HGL.out;obtain⟨g',rfl⟩:∃g',gs=g'+1:=⟨gs-1,by omega⟩;rw[Nat.succ_mul]at h1;rw[Nat.add_sub_cancel];omega
          case measure=>simp only[intOf]; omega
        · have hend:=guess_end2 (u0:=u0) d4 hgB HGL.out (.inr (by rw[hpr]; omega));have hle:=HC.out hgB hend;clear hpr hend
          go_wp2
          go_ret
          exact⟨gs,rfl,hgB,by omega,hbw⟩
      · have a2:((gs:Int) / 4294967296 != 0)=true:=(by simp; omega);have hgt:q<gs:=by omega
        go_wp2
        go_roundw
        case rel=>
          refine⟨gs-1,l+top,by go_num,by go_num,?_,by omega,by omega,hbw⟩;have h1:=HGL.out;obtain⟨g',rfl⟩:∃g',gs=g'+1:=⟨gs-1,by omega⟩;rw[Nat.succ_mul]at h1;rw[Nat.add_sub_cancel];omega
        case measure=>simp only[intOf]; omega
    · have a1:((l:Int) / 4294967296==0)=false:=(by simp; omega);have hgB:=guess_end1 HB.out d4 ht1 HGL.out (by omega);have hend:=guess_end2 (u0:=u0) d4 hgB HGL.out (.inl (by omega));have hle:=HC.out hgB hend;clear hend
      go_wp2
      go_ret
      exact⟨gs,rfl,hgB,by omega,hbw⟩

theorem digit_math{U V q d U':Nat}{z:Bool}{B1:Nat}(hq:q=U / V)(hV:V<B1)(hV0:0<V)(hU':U'<B1)(hd:d=q∨d=q+1)(h:U'+V*d=U+B1*z.toNat):
    (z=false→d=q∧U'=U%V)∧(z=true→d=q+1∧∀X zz,X<B1→X+B1*zz=U'+V→X=U%V):=by
  have e1:=Nat.div_add_mod U V;have e2:=Nat.mod_lt U hV0;rw[←hq]at e1;generalize U%V=r at *
  rcases hd with rfl | rfl
  · cases z
    · simp at h;exact⟨fun _=>⟨rfl,by omega⟩,fun h=>by cases h⟩
    · simp at h;omega
  · rw[Nat.mul_add,Nat.mul_one]at h;cases z
    · simp at h;omega
    · simp at h;refine⟨fun h=>(by cases h),fun _=>⟨rfl,fun X zz hX hXz=>?_⟩⟩;have hzz:zz=1:=by
        rcases Nat.lt_or_ge zz 1 with h0 | h0
        · have:zz=0:=(by omega);subst this;omega
        · rcases Nat.lt_or_ge zz 2 with h1 | h1
          · omega
          · have:B1*2≤B1*zz:=Nat.mul_le_mul_left _ h1;omega
      subst hzz;omega

set_option maxHeartbeats 2000000 in
set_option maxRecDepth 1000000 in
theorem takeDigit_any{B:Nat}{w:World}{g cap j n c0 cv:Nat}{vo:Option Addr}{P M S v:List Nat}(ho:Own B w (some ⟨g,0,none⟩) cap (P++(M++S)))(hP:P.length=j)(hM:M.length=n+1)(hv:Rd w vo v)(hvn:v.length=n)(h2:2≤n)(hn:n≤1000000)(hj:j≤1000000)
    (hne:v≠[]→∀a,vo=some a→a.block≠g) (htop:v.getD (n-1) 0≠0) (hlt:val M<4294967296*val v) :
    Calls Tryz.prog 167 #[.slice (some ⟨g,j,none⟩) (n+1) c0,.slice vo n cv] w fun e w'=>∃M':List Nat,e=.returned (.int .u32 ((val M / val v:Nat):Int))∧M'.length=n+1∧Own B w' (some ⟨g,0,none⟩) cap (P++(M'++S))∧w.grownBy w' (some g)∧val M'=val M%val v:=by
  have HC1:Hid _:=guessDigit_any n c0 cv (ho.winRd hP) hv hvn hM h2 hn htop hlt;have HO:Hid _:=ho;have HR:Hid _:=hv;have HP:Hid _:=hP;have HM:Hid _:=hM;have HVN:Hid _:=hvn;have HNE:Hid _:=hne;have hV0:0<val v:=by
    apply Classical.byContradiction;intro h;have:val v=0:=(by omega);rw[this]at hlt;omega
  have HV0:Hid _:=hV0;have HVB:Hid (val v<pw (n+1)):=by
    have h1:=val_lt hv.dig;rw[hvn]at h1;exact Nat.lt_of_lt_of_le h1 (pw_le (by omega))
  clear ho hv hP hM hvn hne htop hlt hV0
  go_enter Tryz.func167,Tryz.ntmps167
  go_wp2_with fail
  refine Calls.mono HC1.out ?_;rintro e w1 ⟨d,rfl,hd,hdq,b1⟩;have gr1:w.grownBy w1 (some g):=⟨b1.os,b1.tape,b1.output,b1.size,fun k hk _=>b1.block k hk⟩;have HC2:Hid _:=subTimes_any (c0:=c0) (cv:=cv) (HO.out.below b1) HP.out HM.out (HR.out.below b1) HVN.out hn hj HNE.out hd;have HG1:Hid _:=gr1;have HR1:Hid _:=HR.out.below b1;have HDQ:Hid _:=hdq;clear b1 gr1 HC1 hdq
  go_wp2_with fail
  refine Calls.mono HC2.out ?_;rintro e w2 ⟨z,M',rfl,hM',ho',hg',hval⟩;have HM':Hid _:=hM';have HO':Hid _:=ho';have HG2:Hid _:=grown_trans HG1.out hg';have HR2:Hid _:=HR1.out.apart' hg' (fun hv a ha=>HNE.out hv a ha);have HMath:Hid _:=digit_math (U:=val M) (V:=val v) rfl HVB.out HV0.out (by have:=val_lt ho'.winDig; rw[hM']at this; exact this) HDQ.out hval;clear hM' ho' hg' hval HC2;cases z
  · have hf:=HMath.out.1 rfl;have HF:Hid _:=hf;clear hf
    go_wp2
    go_ret
    refine⟨M',?_,HM'.out,HO'.out,HG2.out,HF.out.2⟩;rw[←HF.out.1];rfl
  · have hf:=HMath.out.2 rfl;have HF:Hid _:=hf;have hd1:1≤d:=(by rw[hf.1]; exact Nat.le_add_left _ _);clear hf;have HC3:Hid _:=addBack_any (c0:=c0) (cv:=cv) HO'.out HP.out HM'.out HR2.out HVN.out hn hj HNE.out
    go_wp2_with fail
    refine Calls.mono HC3.out ?_;rintro e w3 ⟨zz,M2,rfl,hM2,ho2,hg2,hval2⟩;have HM2:Hid _:=hM2;have HO2:Hid _:=ho2;have HG3:Hid _:=grown_trans HG2.out hg2;have HV2:Hid _:=HF.out.2 (val M2) zz (by have:=val_lt ho2.winDig; rw[hM2]at this; exact this) hval2;clear hM2 ho2 hg2 hval2
    go_wp2
    go_ret
    refine⟨M2,?_,HM2.out,HO2.out,HG3.out,HV2.out⟩;have h1:=HF.out.1;have:(d:Int)-1=((val M / val v:Nat):Int):=by
      rw[h1];generalize val M / val v=qq;omega
    rw[←this];rfl
end Go.Proofs.YtgjohjfehgdgbaaGreatDoor
