/- NatX -/
import Derived.Test.YtgjohjfehgdgbaaGreatDoorNatW
import Derived.Test.YtgjohjfehgdgbaaGreatDoorArgs
namespace Go.Proofs.YtgjohjfehgdgbaaGreatDoor
open Go.RowKit
set_option linter.unusedVariables false
set_option linter.unusedSimpArgs false

set_option maxHeartbeats 4000000 in
set_option maxRecDepth 1000000 in
theorem divide_long{w:World}{ao bo:Option Addr}{x y:Nat}(ca cb:Nat)(ha:Rd w ao (words x))(hb:Rd w bo (words y))(hx:(words x).length≤90000)(h2:2≤(words y).length)(hxy:¬x<y):
    Calls Tryz.prog 143 #[.slice ao (words x).length ca,.slice bo (words y).length cb] w (Row2 w (words (x / y)) (words (x%y))):=by
  have hle:(words y).length≤(words x).length:=words_mono (Nat.le_of_not_lt hxy);have c1:=order_any ca cb ha hb (by omega) (by omega);have hge:=cmp_ge' hxy;have hy0:y≠0:=by intro e; rw[e,words_zero]at h2; simp at h2
  obtain⟨b2,o2,hbo,hb2,hc2⟩:=hb.pos (by intro e; rw[e]at h2; simp at h2);obtain⟨la,HX⟩:∃n,Hid ((words x).length=n):=⟨_,rfl⟩;obtain⟨n,HY⟩:∃n,Hid ((words y).length=n):=⟨_,rfl⟩;rw[HY.out]at h2;have k0:=hc2 (n-1) (by rw[HY.out]; omega);have d0:=(words_dig y).getD (n-1);obtain⟨up,hup⟩:∃up,up=32-bl ((words y).getD (n-1) 0):=⟨_,rfl⟩;obtain⟨N1,N2,N3⟩:=norm_bl hy0 HY.out hup;have HNL:Hid _:=norm_len hy0 HY.out hup;have HNT:Hid _:=norm_top hy0 HY.out hup;rw[HX.out,HY.out]at hle;have HNA:Hid _:=norm_top_a hy0 HY.out hup HX.out hle;obtain⟨tp,htp⟩:∃t,(words y).getD (n-1) 0=t:=⟨_,rfl⟩;rw[htp]at k0 d0 hup;have HUP:Hid _:=hup;obtain⟨kc,hkc⟩:∃k,cmpN x y=k:=⟨_,rfl⟩;rw[hkc,HX.out,HY.out]at c1;rw[hkc]at hge;have HA:Hid _:=ha;have HRB:Hid _:=hb;rw[HX.out]at hx;rw[HX.out,HY.out];have HC1:Hid _:=c1;have HBO:Hid _:=hbo;have HY0:Hid _:=hy0;clear c1 ha hb hxy hc2 hkc htp hup N1 N3 hy0;obtain⟨m,hm⟩:∃m,la-n+1=m:=⟨_,rfl⟩;have hmI:(la:Int)-(n:Int)+1=(m:Int):=by omega
  have hmk1:=run_make_row' (P:=Tryz.prog) 22 99 (.int .u32 0) 4 Tryz.underlying22 infoU rfl .i64 .i64 (la+1) (by omega) (by omega);have hmk2:=run_make_row' (P:=Tryz.prog) 22 99 (.int .u32 0) 4 Tryz.underlying22 infoU rfl .i64 .i64 m (by omega) (by omega);simp only[Int.natCast_add,Int.cast_ofNat_Int]at hmk1;have hn1:((n:Int)==1)=false:=by simp; omega
  obtain⟨V,hV⟩:∃V,y*2^up=V:=⟨_,rfl⟩;obtain⟨A,hA⟩:∃A,x*2^up=A:=⟨_,rfl⟩;rw[hV]at HNL HNT HNA;rw[hA]at HNA;have HVD:Hid _:=hV;have HAD:Hid _:=hA;rw[hm]at HNA;subst hbo;clear hV hA
  go_enter Tryz.func143,Tryz.ntmps143
  go_wp2_with fail
  refine Calls.mono HC1.out ?_;rintro e w1 ⟨rfl,b1⟩;have k1:w1.cell? ⟨b2,o2+(n-1),none⟩=some (.int .u32 (tp:Int)):=by
    rw[b1.cell (by exact hb2)];exact k0
  have c2:=leading_any tp w1 d0;rw[←HUP.out]at c2;have HC2:Hid _:=c2;have c3:=shiftUp_any cb up (HRB.out.below b1) (by rw[HY.out]; omega) (by omega);rw[HVD.out,HY.out]at c3;have HC3:Hid _:=c3;have HB1:Hid _:=b1;clear b1 c2 c3 HC1 k0
  go_wp2_with fail
  refine Calls.mono HC2.out ?_;rintro e w' ⟨rfl,hw'⟩;have hw':=hw'.symm;subst hw'
  go_wp2_with fail
  refine Calls.mono HC3.out ?_;rintro e w2 ⟨vo,vc,rfl,ov,b2'⟩;have HB2:Hid (Below w.heap.size w w2):=HB1.out.trans (b2'.mono HB1.out.size);have HV2:Hid _:=ov;have HRA2:Hid _:=HA.out.below HB2.out;have hown3:=Own.made w2 (la+1) (by omega);have hb3:Below w2.heap.size w2 (w2.alloc (.cells (madeCells #[.int .u32 0] (la+1)) 99)):=(Below.refl _ _).alloc (Nat.le_refl _) _;have c4:=shiftUp_any ca up (HRA2.out.below hb3) (by rw[HX.out]; omega) (by omega);rw[HAD.out,HX.out]at c4;have HC4:Hid _:=c4;have HO3:Hid _:=hown3;have HB3:Hid _:=hb3;rw[HNL.out];clear ov b2' hown3 hb3 c4 HC2 HC3 k1
  go_wp2_with fail
  refine Calls.mono HC4.out ?_;rintro e w4 ⟨so,sc,rfl,os,b4⟩;have HS4:Hid _:=os;have HB4:Hid _:=b4;have ho4:Own w2.heap.size w4 (some ⟨w2.heap.size,0,none⟩) (la+1) (List.replicate (la+1) 0):=HO3.out.below b4;have hfull:w4.heap[w2.heap.size]?=some (.cells (U (List.replicate (la+1) 0)).toArray 99 (0,0)):=by
    apply Own.full (B:=w2.heap.size);rw[List.length_replicate];exact ho4
  have hlen:(words A).length≤la+1:=HNA.out.2;have hA0:words A≠[]:=by
    intro e;have h1:=words_eq_nil.1 e;rw[←HAD.out]at h1;have p:0<2^up:=Nat.pow_pos (by omega);rcases Nat.mul_eq_zero.1 h1 with h3 | h3
    · have h4:=HX.out;rw[h3,words_zero]at h4;simp at h4;omega
    · omega
  obtain⟨sb,soff,hso,_,_⟩:=os.rd.pos hA0;subst hso;have hcp:=run_copy_row (P:=Tryz.prog) w4 22 22 3 99 w2.heap.size 0 (la+1) (la+1) ⟨sb,soff,none⟩ (words A).length sc (U (List.replicate (la+1) 0)).toArray 99 (U (words A)) Tryz.underlying22 (by kernel_rfl) hfull (by rw[U_length]; exact(Nat.min_eq_left hlen).symm) (Rd.cells (spot:=none) os.rd) (by rw[U_length]; simp[U_length]; omega) (U_one _);have hheap:=setRow_heap w4 w2.heap.size _ ((U (List.replicate (la+1) 0)).toArray.toList.take 0++U (words A)++(U (List.replicate (la+1) 0)).toArray.toList.drop (0+(U (words A)).length)).toArray 99 (0,0) hfull;have hb5:Below w2.heap.size w4 (w4.setRow w2.heap.size ((U (List.replicate (la+1) 0)).toArray.toList.take 0++U (words A)++(U (List.replicate (la+1) 0)).toArray.toList.drop (0+(U (words A)).length)).toArray):=below_setRow (Below.refl _ _) (Nat.le_refl _) _;obtain⟨w5,hw5⟩:∃w5,w4.setRow w2.heap.size ((U (List.replicate (la+1) 0)).toArray.toList.take 0++U (words A)++(U (List.replicate (la+1) 0)).toArray.toList.drop (0+(U (words A)).length)).toArray=w5:=⟨_,rfl⟩;rw[hw5]at hcp hheap hb5;have el:(U (List.replicate (la+1) 0)).toArray.toList.take 0++U (words A)++(U (List.replicate (la+1) 0)).toArray.toList.drop (0+(U (words A)).length)=U (words A++List.replicate (la+1-(words A).length) 0):=by
    simp[U,List.drop_replicate]
  rw[el]at hheap;have ho5:Own w2.heap.size w5 (some ⟨w2.heap.size,0,none⟩) (la+1) (words A++List.replicate (la+1-(words A).length) 0):=by
    have h1:=Own.ofFull (B:=w2.heap.size) (Nat.le_refl _) (dig_append.2 ⟨words_dig A,dig_replicate _⟩) (by rw[List.length_append,List.length_replicate]; omega) hheap;have e2:(words A++List.replicate (la+1-(words A).length) 0).length=la+1:=(by rw[List.length_append,List.length_replicate]; omega);rw[e2]at h1;exact h1
  have HO5:Hid _:=ho5;have HB5:Hid _:=hb5;rw[U_length]at hcp;have hgq:w2.heap.size<w5.heap.size:=(ho5.lt _ rfl).2;have hVlt:∀c,vo=some c→c.block<w2.heap.size:=fun c hc=>(HV2.out.lt c hc).2;have HVL:Hid _:=hVlt;have hRV:Rd w5 vo (words V):=Rd.under ((HV2.out.rd.below HB3.out).below HB4.out) hVlt hb5;have HRV:Hid _:=hRV;have hbw5:Below w.heap.size w w5:=(chain2 (chain2 HB2.out HB3.out) HB4.out).trans (hb5.mono HB2.out.size);have HBW5:Hid _:=hbw5;have HVP:Hid (V<pw n∧0<V):=⟨by have:=words_lt V; rw[HNL.out]at this; exact this,by
    rw[←HVD.out];exact Nat.mul_pos (Nat.pos_of_ne_zero HY0.out) (Nat.pow_pos (by omega))⟩
  clear hw5 el hheap ho5 hb5 hfull ho4 os b4 hA0 HC4 hVlt hRV hbw5
  go_wp2
  go_loopw [62] (fun v wr=>∃(i:Nat) (LU LQ:List Nat),i≤m∧v=.int .i64 (i:Int)∧LU.length=la+1∧LQ.length=m∧Own w.heap.size wr (some ⟨w2.heap.size,0,none⟩) (la+1) LU∧Own w.heap.size wr (some ⟨w5.heap.size,0,none⟩) m LQ∧Rd wr vo (words V)∧Below w.heap.size w wr∧val LQ*V+val LU=A∧val LU<pw (m-i)*V∧∀p,p<m-i→LQ.getD p 0=0) (fun v _=>m-(intOf v).toNat)
  case atStart=>
    refine⟨0,words A++List.replicate (la+1-(words A).length) 0,List.replicate m 0,Nat.zero_le _,rfl,by rw[List.length_append,List.length_replicate]; omega,by simp,(HO5.out.lower HB2.out.size).alloc _,(Own.made w5 m (by omega)).lower HBW5.out.size,HRV.out.below ((Below.refl _ _).alloc (Nat.le_refl _) _),HBW5.out.alloc HBW5.out.size _,?_,?_,fun p _=>?_⟩
    · rw[val_append,val_replicate,val_replicate,val_words];omega
    · rw[val_append,val_replicate,val_words,Nat.mul_zero,Nat.add_zero,Nat.sub_zero];exact HNA.out.1
    · simp only[List.getD_eq_getElem?_getD,List.getElem?_replicate]
      split<;>rfl
  case round=>
    obtain⟨i,LU,LQ,hi,rfl,hLU,hLQ,hou,hoq,hrv,hbw,hA,hlt,hz⟩:=hrel;have HLU:Hid _:=hLU;have HLQ:Hid _:=hLQ;have HAA:Hid _:=hA;have HLT:Hid _:=hlt;have HZ:Hid _:=hz;clear hLU hLQ hA hlt hz;by_cases hin:i<m
    · obtain⟨k,hk⟩:∃k,m-1-i=k:=⟨_,rfl⟩;have hkI:(m:Int)-1-(i:Int)=(k:Int):=(by omega);have hmk:m-i=k+1:=(by omega);have hkm:k<m:=(by omega);have hkl:k+n+1≤la+1:=(by omega);have hst:=fun M'=>divide_step (LU:=LU) (LQ:=LQ) (V:=V) (A:=A) (k:=k) (n:=n) (m:=m) (M':=M') (by rw[HLU.out]; omega) hou.dig HVP.out.1 HVP.out.2 (by have:=HLT.out; rw[hmk]at this; exact this) HAA.out (by rw[HLQ.out]; omega) (HZ.out k (by omega));have HST:Hid _:=hst;obtain⟨P,hP⟩:∃P,LU.take k=P:=⟨_,rfl⟩;obtain⟨M,hM⟩:∃M,(LU.drop k).take (n+1)=M:=⟨_,rfl⟩;obtain⟨S,hS⟩:∃S,LU.drop (k+n+1)=S:=⟨_,rfl⟩;have hLU2:LU=P++(M++S):=by
        rw[←hP,←hM,←hS,Nat.add_assoc,←List.drop_drop,List.take_append_drop,List.take_append_drop]
      have lP:P.length=k:=(by rw[←hP,List.length_take,HLU.out]; omega);have lM:M.length=n+1:=(by rw[←hM,List.length_take,List.length_drop,HLU.out]; omega);have lS:S.length=la+1-(k+n+1):=(by rw[←hS,List.length_drop,HLU.out]);rw[hP,hM,hS]at HST;have hou2:=hou;rw[hLU2]at hou2;have hMV:=(HST.out []).1;have c1:=takeDigit_any (c0:=la+1-k) (cv:=vc) hou2 lP lM hrv HNL.out h2 (by omega) (by omega) (fun _ a ha=>Nat.ne_of_lt (HVL.out a ha)) HNT.out (by rw[val_words]; exact hMV);rw[val_words]at c1;have HC:Hid _:=c1;have HOQ:Hid _:=hoq;have HRv:Hid _:=hrv;have HBw:Hid _:=hbw;have hdq:val M / V<4294967296:=Nat.div_lt_of_lt_mul (by rw[Nat.mul_comm]; exact hMV);obtain⟨d,hd⟩:∃d,val M / V=d:=⟨_,rfl⟩;rw[hd]at HC HST hdq;have HLEN:Hid (P.length=k∧S.length=la+1-(k+n+1)):=⟨lP,lS⟩;clear hst hP hM hS hLU2 lP lM lS hou2 hou hoq hrv hbw c1 hMV hd hk;have q1:(k:Int)≤(k:Int)+n+1:=(by omega);have q2:(k:Int)+n+1≤((la+1:Nat):Int):=(by omega);have q3:¬(la+1=k):=(by omega);have q4:((k:Int)+n+1).toNat=k+n+1:=(by omega);have q8:k+n+1-k=n+1:=by omega
      go_wp2_with fail
      refine Calls.mono HC.out ?_;rintro e w6 ⟨M',rfl,hM',ho6,hg6,hv6⟩;have hoq6:Own w.heap.size w6 (some ⟨w5.heap.size,0,none⟩) m LQ:=HOQ.out.kept hg6 (fun a ha e=>by cases ha; simp at e; omega);have k1:=hoq6.cell k (by rw[HLQ.out]; omega);have k2:=hoq6.frozen k;have HSQ:Hid _:=hoq6.set k d hdq;have hgs:=hoq6.setG k d;have HOU:Hid _:=ho6.kept hgs (fun a ha e=>by cases ha; simp at e; omega);have HRN:Hid _:=(HRv.out.apart' hg6 (fun _ a ha=>Nat.ne_of_lt (HVL.out a ha))).apart' hgs (fun _ a ha=>by have:=HVL.out a ha; omega);have hb6:Below w.heap.size w w6:=HBw.out.grown hg6 HBw.out.size (fun k hk=>by cases hk; exact HB2.out.size);have HBN:Hid _:=hb6.setCell (p:=⟨w5.heap.size,k,none⟩) HBW5.out.size (.int .u32 (d:Int));have HFI:Hid _:=(HST.out M').2 hv6 hM';have HLM:Hid _:=hM';clear hoq6 hgs hb6 hM' ho6 hg6 hv6 HC
      go_wp2
      go_roundw
      case rel=>
        refine⟨i+1,P++(M'++S),LQ.set k d,by omega,by go_num,?_,by rw[List.length_set]; exact HLQ.out,HOU.out,HSQ.out,HRN.out,HBN.out,HFI.out.1,?_,fun p hp=>?_⟩
        · rw[List.length_append,List.length_append,HLEN.out.1,HLEN.out.2,HLM.out];omega
        · rw[show m-(i+1)=k by omega];exact HFI.out.2
        · rw[getD_set_ne _ _ _ _ (by omega)];exact HZ.out p (by omega)
      case measure=>simp only[intOf]; omega
    · have e:i=m:=(by omega);subst e;have hlt:=HLT.out;rw[Nat.sub_self,pw_zero,Nat.one_mul]at hlt;have hend:=divide_end (x:=x) (y:=y) (up:=up) (Q:=val LQ) (R:=val LU) HY0.out (by rw[HVD.out,HAD.out]; exact HAA.out) (by rw[HVD.out]; exact hlt);have c1:=trim_any hoq (by rw[HLQ.out]; omega);rw[hend.1,HLQ.out]at c1;have c2:=trim_any hou (by rw[HLU.out]; omega);rw[HLU.out]at c2;have HC1:Hid _:=c1;have HC2:Hid _:=c2;have HBw:Hid _:=hbw;have HEnd:Hid _:=hend.2;clear hlt hend c1 c2 hoq hou hrv hbw
      go_wp2_with fail
      refine Calls.mono HC1.out ?_;rintro e w' ⟨rfl,ho1,hw'⟩;have hw':=hw'.symm;subst hw';have HO1:Hid _:=ho1;clear ho1
      go_wp2_with fail
      refine Calls.mono HC2.out ?_;rintro e w' ⟨rfl,ho2,hw'⟩;have hw':=hw'.symm;subst hw';have hlen2:(words (val LU)).length≤la+1:=words_length_le (by have:=val_lt (words_dig (val LU)); have h3:=HLU.out; exact Nat.lt_of_lt_of_le (words_lt (val LU)) (pw_le (by
        have h4:=ho2.caps;omega)))
      have c3:=shiftDown_any (la+1) up ho2.rd (by omega) (by omega);rw[HEnd.out]at c3;have HC3:Hid _:=c3;clear ho2 c3 HC1 HC2
      go_wp2_with fail
      refine Calls.mono HC3.out ?_;rintro e w7 ⟨ro,rc,rfl,ho7,b7⟩;have HO7:Hid _:=ho7.lower HBw.out.size;have HO1':Hid _:=HO1.out.below b7;have HB7:Hid _:=chain2 HBw.out b7;clear ho7 b7 HC3
      go_wp2
      go_ret2
      exact⟨_,_,_,_,rfl,HO1'.out,HO7.out,HB7.out⟩
end Go.Proofs.YtgjohjfehgdgbaaGreatDoor
