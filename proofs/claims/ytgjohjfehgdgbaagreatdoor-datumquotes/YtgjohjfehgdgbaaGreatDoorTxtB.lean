/- TxtB -/
import Derived.Test.YtgjohjfehgdgbaaGreatDoorTxtA
import Derived.Test.YtgjohjfehgdgbaaGreatDoorNatH
namespace Go.Proofs.YtgjohjfehgdgbaaGreatDoor
open Go.RowKit
set_option linter.unusedVariables false
set_option linter.unusedSimpArgs false

theorem words_full{L:List Nat}(hd:Dig L)(h:L.length≤(words (val L)).length):words (val L)=L:=by
  refine words_of hd ?_;by_cases h0:L=[]
  · exact .inl h0
  · right;intro ht;have hl:L.length≠0:=fun e=>h0 (List.length_eq_zero_iff.1 e);have h1:=val_take_pred (l:=L) L.length hl ht;rw[List.take_length]at h1;have h2:=val_lt (hd.take (L.length-1));rw[h1,List.length_take,Nat.min_eq_left (by omega)]at h2;have h3:=words_length_le h2;omega
theorem tp_step(L y:List Nat)(i c k m:Nat)(hi:i<L.length)(hsame:L.getD i 0=y.getD i 0)(h:val (L.take i)+pw i*c=val (y.take i)*k+m):
    val ((L.set i ((c+y.getD i 0*k)%4294967296)).take (i+1))+pw (i+1)*((c+y.getD i 0*k) / 4294967296)=val (y.take (i+1))*k+m:=by
  rw[val_set_take L i _ hi,val_take_succ y,pw_succ,Nat.add_mul];have e:=carry_step (pw i) (c+y.getD i 0*k);rw[Nat.mul_add]at e;have e2:pw i*y.getD i 0*k=pw i*(y.getD i 0*k):=Nat.mul_assoc _ _ _;omega
theorem tp_carry{c d k:Nat}(hc:c<4294967296)(hd:d<4294967296)(hk:k<4294967296):c+d*k≤18446744069414584320∧(c+d*k) / 4294967296<4294967296:=by
  have h:=mul_bound hd hk;omega

set_option maxHeartbeats 1000000 in
set_option maxRecDepth 1000000 in
theorem timesPlus_any{B:Nat}{w:World}{ao:Option Addr}{cap Y k m:Nat}(ho:Own B w ao cap (words Y))(hB:B≤w.heap.size)(hl:(words Y).length≤100000)(hk1:1≤k)(hk:k<4294967296)(hm:m<4294967296):
    Calls Tryz.prog 194 #[.slice ao (words Y).length cap,.int .u32 (k:Int),.int .u32 (m:Int)] w fun e w'=>∃ro rc,e=.returned (.slice ro (words (Y*k+m)).length rc)∧Own B w' ro rc (words (Y*k+m))∧Below B w w':=by
  obtain⟨i0,hi0,hz0,hz1,hz2⟩:=info_parts infoU;obtain⟨n,HN⟩:∃n,Hid ((words Y).length=n):=⟨_,rfl⟩;rw[HN.out]at hl ⊢;have HO0:Hid _:=ho;clear ho
  go_enter Tryz.func194,Tryz.ntmps194
  go_wp2
  go_loopw [7,13] (fun v7 v13 wr=>∃(i c:Nat) (L:List Nat),i≤n∧v13=.int .i64 (i:Int)∧v7=.int .u64 (c:Int)∧c<4294967296∧L.length=n∧Own B wr ao cap L∧Below B w wr∧val (L.take i)+pw i*c=val ((words Y).take i)*k+m∧∀p,i≤p→L.getD p 0=(words Y).getD p 0) (fun _ v13 _=>n-(intOf v13).toNat)
  case atStart=>exact⟨0,m,words Y,Nat.zero_le _,rfl,rfl,hm,HN.out,HO0.out,Below.refl _ _,by simp[val,pw_zero],fun p _=>rfl⟩
  case round=>
    obtain⟨i,c,L,hi,rfl,rfl,hc,hL,hown,hbw,hv,hsame⟩:=hrel;have HV:Hid _:=hv;have HL:Hid _:=hL;have HSM:Hid _:=hsame;have hwsz:=hbw.size;clear hv hL hsame;by_cases hin:i<n
    · have hne:ao≠none:=by
        intro e;subst e;rcases hown.row.2 with⟨_,h3⟩ | ⟨g,cap,cur,hv,_⟩
        · rw[HL.out]at h3;omega
        · simp at hv
      obtain⟨g,hao,hg1,hg2⟩:=hown.form hne;subst hao;have k1:=hown.cell i (by rw[HL.out]; omega);have k2:=hown.frozen i;have d1:=(words_dig Y).getD i;have HS:Hid _:=tp_step L (words Y) i c k m (by rw[HL.out]; omega) (HSM.out i (Nat.le_refl _)) HV.out;rw[HSM.out i (Nat.le_refl _)]at k1;obtain⟨d,hd⟩:∃d,(words Y).getD i 0=d:=⟨_,rfl⟩;rw[hd]at k1 d1 HS;obtain⟨t1,t2⟩:=tp_carry hc d1 hk;have hmI:(d:Int)*(k:Int)=((d*k:Nat):Int):=(by rw[Int.natCast_mul]);obtain⟨M,hM⟩:∃M,d*k=M:=⟨_,rfl⟩;rw[hM]at t1 t2 hmI HS;have hset:=hown.set i ((c+M)%4294967296) (Nat.mod_lt _ (by omega));have hb2:=hbw.setCell (p:=⟨g,i,none⟩) hg1 (.int .u32 (((c+M)%4294967296:Nat):Int));have HSet:Hid _:=hset;have HB2:Hid _:=hb2;clear hset hb2 hown hbw hd hM
      go_wp2
      go_roundw
      case rel=>
        refine⟨i+1,(c+M) / 4294967296,L.set i ((c+M)%4294967296),by omega,by go_num,by go_num,t2,by rw[List.length_set]; exact HL.out,HSet.out,HB2.out,HS.out,fun p hp=>?_⟩;rw[getD_set_ne _ _ _ _ (by omega)];exact HSM.out p (by omega)
      case measure=>simp only[intOf]; omega
    · have e:i=n:=(by omega);subst e;have hval:val L+pw i*c=Y*k+m:=by
        have h1:=HV.out;rw[List.take_of_length_le (by rw[HL.out]; omega),List.take_of_length_le (by rw[HN.out]; omega),val_words]at h1;exact h1
      have HVAL:Hid _:=hval;clear hval;by_cases hc0:c=0
      · subst hc0;have hw2:words (Y*k+m)=L:=by
          have h1:=HVAL.out;rw[Nat.mul_zero,Nat.add_zero]at h1;rw[←h1];apply words_full hown.dig;rw[h1,HL.out,←HN.out];apply words_mono;have:Y*1≤Y*k:=Nat.mul_le_mul_left _ hk1;omega
        have HW:Hid _:=hw2;have HO:Hid _:=hown;have HB:Hid _:=hbw;clear hw2 hown hbw
        go_wp2
        go_ret
        refine⟨ao,cap,?_,?_,HB.out⟩
        · rw[HW.out,HL.out];rfl
        · rw[HW.out];exact HO.out
      · have hw2:words (Y*k+m)=L++[c]:=by
          have h1:=HVAL.out;rw[←HL.out,←val_snoc]at h1;rw[←h1];refine words_of (dig_append.2 ⟨hown.dig,by simp[Dig]; exact hc⟩) (.inr ?_);simp;exact hc0
        have HW:Hid _:=hw2;have hrow:=hown.row;rw[HL.out]at hrow;have HD:Hid _:=hown.dig;have HB:Hid _:=hbw;have hc1:((c:Int)==0)=false:=(by simp; omega);clear hw2 hown hbw
        go_wp2_with (at_builtin; refine wpList_append_own _ rfl _ _ 22 rfl B 99 i0 (.int .u32 0) 1 4 Tryz.underlying22 hi0 hz0 hz1 hz2 rfl (by decide) _ _ _ rfl (hrow.alloc _) ⟨wr.heap.size,0,none⟩ 1 1 [.int .u32 (c:Int)] rfl rfl (by exact cell_one wr _ 99) (by intro u hu; simp at hu; subst hu; rfl) (by unfold maxLen; omega) (by omega) (by simp; omega) ?_)
        intro v' w1 hown' hgrow hiff;have hb2:=grown_below (HB.out.alloc (by omega) _) (hrow.alloc _) hgrow (by simp; omega);rw[←HL.out]at hown';obtain⟨ro',rc',e,ho⟩:=own_append HD.out hc hown';subst e;have HO:Hid _:=ho;have HB2:Hid _:=hb2;clear hown' hgrow hiff ho hb2 hrow
        go_wp2
        go_ret
        refine⟨ro',rc',?_,?_,HB2.out⟩
        · rw[HW.out];rfl
        · rw[HW.out];exact HO.out

def tval(r:Nat)(s:ByteArray):Nat→Nat
  | 0 => 0
  | i + 1 => tval r s i * r + dvn 36 (byteAt s i)
theorem tval_mono{r:Nat}(hr:1≤r)(s:ByteArray){i j:Nat}(h:i≤j):tval r s i≤tval r s j:=by
  induction j with
  | zero => have : i = 0 := by omega
            subst this; exact Nat.le_refl _
  | succ j ih =>
    by_cases e:i=j+1
    · subst e; exact Nat.le_refl _
    · have h1:=ih (by omega);have h2:tval r s j*1≤tval r s j*r:=Nat.mul_le_mul_left _ hr;rw[tval];omega
theorem group_step{n i S c:Nat}(hS:1≤S)(hi:i<n)(h:c+(n-1-i)%S+1≤S)(hne:(n-1-i)%S≠0):i+1<n∧(c+1)+(n-1-(i+1))%S+1≤S:=by
  have h1:n-1-i≠0:=fun e=>hne (by rw[e]; exact Nat.zero_mod _);have e2:n-1-i=(n-1-(i+1))+1:=by omega
  have h3:=Nat.mod_lt (n-1-(i+1)) (show 0<S by omega);refine⟨by omega,?_⟩;rw[e2]at h hne;generalize n-1-(i+1)=k at *
  by_cases hk:k%S+1=S
  · exfalso;apply hne;rw[Nat.add_mod];by_cases h1S:S=1
    · subst h1S; exact Nat.mod_one _
    · rw[Nat.mod_eq_of_lt (show 1<S by omega),hk,Nat.mod_self]
  · have e4:(k+1)%S=k%S+1:=by
      by_cases h1S:S=1
      · subst h1S;rw[Nat.mod_one]at hk;omega
      · rw[Nat.add_mod,Nat.mod_eq_of_lt (show 1<S by omega),Nat.mod_eq_of_lt (by omega)]
    rw[e4]at h;omega
theorem fitS_big{n:Nat}(h:512<(words n).length):fitS n=([],4):=by unfold fitS; rw[if_neg (by omega)]

set_option maxHeartbeats 2000000 in
set_option maxRecDepth 1000000 in
theorem valueOf_any(s:ByteArray)(r:Nat)(w:World)(hr:2≤r)(hr2:r≤36)(hs:s.size≤16384)(h0:s.size≠0)(hnum:∀i,i<s.size→dvn 36 (byteAt s i)<r):
    Calls Tryz.prog 182 #[.string s,.int .u32 (r:Int)] w (Ans w (fitS (tval r s s.size))):=by
  have HNUM:Hid _:=hnum;have HC0:Hid _:=group_any r w hr hr2;clear hnum
  go_enter Tryz.func182,Tryz.ntmps182
  go_wp2_with fail
  refine Calls.mono HC0.out ?_;rintro e w' ⟨S,PS,rfl,hPS,hS1,hPS32,hw'⟩;have hw':=hw'.symm;subst hw';have HPS:Hid _:=hPS;have hS0:((S:Int)==0)=false:=by simp; omega
  have hS32:S<32:=pow_word hr (by rw[←hPS]; exact hPS32);clear hPS HC0
  go_wp2
  go_loopw [8,9,10,19] (fun v8 v9 v10 v19 wr=>∃(i c Y V P:Nat) (ao:Option Addr) (cap:Nat),v19=.int .i64 (i:Int)∧v8=.slice ao (words Y).length cap∧v9=.int .u32 (V:Int)∧v10=.int .u32 (P:Int)∧P=r^c∧i≤s.size∧Own w.heap.size wr ao cap (words Y)∧Below w.heap.size w wr∧Y*P+V=tval r s i∧V<P∧(i<s.size→c+(s.size-1-i)%S+1≤S)∧(i=s.size→c=0)∧(words Y).length≤512) (fun _ _ _ v19 _=>s.size-(intOf v19).toNat)
  case atStart=>
    refine⟨0,0,0,0,1,none,0,rfl,by rw[words_zero]; rfl,rfl,rfl,by rw[Nat.pow_zero],by omega,by rw[words_zero]; exact Own.nil _ _,Below.refl _ _,rfl,by omega,fun _=>?_,fun _=>rfl,by rw[words_zero]; simp⟩;have:=Nat.mod_lt (s.size-1-0) (show 0<S by omega);omega
  case round=>
    obtain⟨i,c,Y,V,P,ao,cap,rfl,rfl,rfl,rfl,hP,hi,hown,hbw,hval,hVP,hgrp,hend,hlY⟩:=hrel;have HP:Hid _:=hP;have HO:Hid _:=hown;have HB:Hid _:=hbw;have HVAL:Hid _:=hval;have HG:Hid _:=hgrp;have HE:Hid _:=hend;have HLY:Hid _:=hlY;have HVP:Hid _:=hVP;obtain⟨lY,HNY⟩:∃n,Hid ((words Y).length=n):=⟨_,rfl⟩;rw[HNY.out]at hlY ⊢;clear hP hown hbw hval hgrp hend;by_cases hin:i<s.size
    · have hbe:=byteAt_eq s i hin;have hlt:=byteAt_lt s i;have hdr:=HNUM.out i hin;rw[hbe]at hlt hdr;have c1:=digitValue_any s[i].toNat wr hlt;have HT:Hid (tval r s (i+1)=tval r s i*r+dvn 36 s[i].toNat):=by
        show tval r s i*r+dvn 36 (byteAt s i)=_;rw[hbe]
      obtain⟨D,hD⟩:∃V,dvn 36 s[i].toNat=V:=⟨_,rfl⟩;rw[hD]at c1 HT hdr;have HC1:Hid _:=c1
      -- the group's bounds
      have hg:=HG.out hin;have hPr:P*r≤PS:=by
        rw[HP.out,HPS.out,←Nat.pow_succ];exact Nat.pow_le_pow_right (by omega) (by omega)
      have hVr:V*r+D<P*r:=by
        have:(V+1)*r≤P*r:=Nat.mul_le_mul_right _ hVP;rw[Nat.add_mul]at this;omega
      have hvI:(V:Int)*(r:Int)=((V*r:Nat):Int):=(by rw[Int.natCast_mul]);have hpI:(P:Int)*(r:Int)=((P*r:Nat):Int):=(by rw[Int.natCast_mul]);have hpos:1≤P*r:=(by omega);have HNEW:Hid (Y*(P*r)+(V*r+D)=tval r s (i+1)):=by
        show Y*(P*r)+(V*r+D)=tval r s (i+1);rw[HT.out,←HVAL.out,Nat.add_mul,Nat.mul_assoc];omega
      have HP2:Hid (P*r=r^(c+1)):=by
        show P*r=r^(c+1);rw[HP.out,Nat.pow_succ]
      obtain⟨Vr,hVr2⟩:∃x,V*r=x:=⟨_,rfl⟩;obtain⟨Pr,hPr2⟩:∃x,P*r=x:=⟨_,rfl⟩;rw[hVr2]at hVr hvI HNEW;rw[hPr2]at hPr hVr hpI hpos HNEW HP2;have hmodI:((s.size:Int)-1-(i:Int))%(S:Int)=(((s.size-1-i)%S:Nat):Int):=by
        rw[Int.natCast_emod]
        congr 1
        omega
      have HGS:Hid ((s.size-1-i)%S≠0→i+1<s.size∧(c+1)+(s.size-1-(i+1))%S+1≤S):=fun h=>group_step hS1 hin hg h;have HGM:Hid ((s.size-1-(i+1))%S<S):=Nat.mod_lt _ (by omega);obtain⟨Rm,hRm⟩:∃x,(s.size-1-i)%S=x:=⟨_,rfl⟩;rw[hRm]at hmodI HGS;clear c1 hbe hlt hD hg hVr2 hPr2 HVAL hRm HG hVP;by_cases hR0:Rm=0
      · subst hR0;have c2:=timesPlus_any HO.out HB.out.size (by have:=HLY.out; omega) hpos (by omega) (show Vr+D<4294967296 by omega);rw[HNEW.out,HNY.out]at c2;simp only[Int.natCast_add]at c2;have HC2:Hid _:=c2;clear c2
        go_wp2_with fail
        refine Calls.mono HC1.out ?_;rintro e w' ⟨rfl,hw'⟩;have hw':=hw'.symm;subst hw';clear HC1
        go_wp2_with fail
        refine Calls.mono HC2.out ?_;rintro e w2 ⟨ro,rc,rfl,ho2,b2⟩;have HO2:Hid _:=ho2;have HB2:Hid _:=HB.out.trans b2;clear ho2 b2 HC2;have hlen:(words (tval r s (i+1))).length≤1000:=by
          rw[←HNEW.out];have h1:=words_mul_length (x:=Y) (y:=Pr) (k:=512) (m:=1) HLY.out (words_length_le (by rw[show pw 1=4294967296 from rfl]; omega));have h2:=words_add_length (x:=Y*Pr) (y:=Vr+D) (k:=513) h1 (Nat.le_trans (words_length_le (k:=1) (by rw[show pw 1=4294967296 from rfl]; omega)) (by omega));omega
        by_cases h512:(words (tval r s (i+1))).length≤512
        · have HL2:Hid _:=h512;obtain⟨l2,hl2⟩:∃l,(words (tval r s (i+1))).length=l:=⟨_,rfl⟩;rw[hl2]at h512 hlen ⊢;have HLL:Hid _:=hl2;clear hl2
          go_wp2
          go_roundw
          case rel=>
            refine⟨i+1,0,tval r s (i+1),0,1,ro,rc,by go_num,by rw[HLL.out],rfl,rfl,by rw[Nat.pow_zero],by omega,HO2.out,HB2.out,by omega,by omega,fun _=>?_,fun _=>rfl,HL2.out⟩;have:=HGM.out;omega
          case measure=>simp only[intOf]; omega
        · have hbig:fitS (tval r s s.size)=([],4):=fitS_big (Nat.lt_of_lt_of_le (Nat.lt_of_not_le h512) (words_mono (tval_mono (by omega) s (by omega))));obtain⟨l2,hl2⟩:∃l,(words (tval r s (i+1))).length=l:=⟨_,rfl⟩;rw[hl2]at h512 hlen ⊢;have HBIG:Hid _:=hbig;clear hl2 hbig
          go_wp2
          go_ret2
          rw[HBIG.out];exact Ans.intro (Own.nil _ _) HB2.out
      · have hR1:((Rm:Int)==0)=false:=(by simp; omega);have hgs:=HGS.out hR0;have HGN:Hid _:=hgs;clear hgs
        go_wp2_with fail
        refine Calls.mono HC1.out ?_;rintro e w' ⟨rfl,hw'⟩;have hw':=hw'.symm;subst hw';clear HC1
        go_wp2
        go_roundw
        case rel=>
          refine⟨i+1,c+1,Y,Vr+D,Pr,ao,cap,by go_num,by rw[HNY.out],by go_num,rfl,HP2.out,by omega,HO.out,HB.out,HNEW.out,hVr,fun _=>HGN.out.2,fun e=>?_,HLY.out⟩;have:=HGN.out.1;omega
        case measure=>simp only[intOf]; omega
    · have e:i=s.size:=(by omega);have hc0:=HE.out e;have hY:Y=tval r s s.size:=by
        have h1:=HVAL.out;have h2:=HP.out;have h3:=HVP.out;rw[hc0,Nat.pow_zero]at h2;rw[h2]at h1 h3;rw[←e];omega
      have HY:Hid _:=hY;clear e hc0 hY
      go_wp2
      go_ret2
      rw[←HY.out];unfold fitS;rw[if_pos HLY.out];refine⟨ao,cap,?_,HO.out,HB.out⟩;rw[HNY.out];rfl

def readS(s:ByteArray)(radix:Int):List Nat×Int:=
  if decide (2≤radix∧radix≤36)then(if numeralS radix.toNat s then(if s.size≤16384 then fitS (tval radix.toNat s s.size)else([],4))else([],5))else([],1)

set_option maxHeartbeats 1000000 in
set_option maxRecDepth 1000000 in
theorem read_any(s:ByteArray)(radix:Int)(w:World)(hs:s.size≤9223372036854775807)(r0:-9223372036854775808≤radix)(r1:radix≤9223372036854775807):
    Calls Tryz.prog 163 #[.string s,.int .i64 radix] w (Ans w (readS s radix)):=by
  have c1:=isRadix_any radix w;unfold readS;by_cases hr:2≤radix∧radix≤36
  · have e1:decide (2≤radix∧radix≤36)=true:=decide_eq_true hr;rw[e1]at c1 ⊢;simp only[if_true];obtain⟨r,rfl⟩:=Int.eq_ofNat_of_zero_le (show 0≤radix by omega);rw[Int.toNat_natCast];have c2:=isNumeral_any s r w (by omega) (by omega) hs;have hr2:2≤r:=(by omega);have hr3:r≤36:=(by omega);have HN:Hid _:=numeralS_iff r s;have HC1:Hid _:=c1;clear hr e1 c1;cases hz:numeralS r s with
    | true =>
      rw[hz]at c2 HN;have hn:=HN.out.1 rfl;have HC2:Hid _:=c2;simp only[if_true];by_cases hl:s.size≤16384
      · rw[if_pos hl];have HC3:Hid _:=valueOf_any s r w hr2 hr3 hl hn.1 hn.2;clear c2 hn hz
        go_enter Tryz.func163,Tryz.ntmps163
        go_wp2_with fail
        refine Calls.mono HC1.out ?_;rintro e w' ⟨rfl,hw'⟩;have hw':=hw'.symm;subst hw'
        go_wp2_with fail
        refine Calls.mono HC2.out ?_;rintro e w' ⟨rfl,hw'⟩;have hw':=hw'.symm;subst hw'
        go_wp2_with fail
        refine Calls.mono HC3.out ?_;rintro e w3 ⟨ro,rc,rfl,ho,b3⟩;have HO:Hid _:=ho;have HB3:Hid _:=b3;clear ho b3
        go_wp2
        go_ret2
        exact⟨_,_,rfl,HO.out,HB3.out⟩
      · rw[if_neg hl];clear c2 hn hz
        go_enter Tryz.func163,Tryz.ntmps163
        go_wp2_with fail
        refine Calls.mono HC1.out ?_;rintro e w' ⟨rfl,hw'⟩;have hw':=hw'.symm;subst hw'
        go_wp2_with fail
        refine Calls.mono HC2.out ?_;rintro e w' ⟨rfl,hw'⟩;have hw':=hw'.symm;subst hw'
        go_wp2
        go_ret2
        exact Ans.intro (Own.nil _ _) (Below.refl _ _)
    | false =>
      rw[hz]at c2;have HC2:Hid _:=c2;clear c2 hz
      go_enter Tryz.func163,Tryz.ntmps163
      go_wp2_with fail
      refine Calls.mono HC1.out ?_;rintro e w' ⟨rfl,hw'⟩;have hw':=hw'.symm;subst hw'
      go_wp2_with fail
      refine Calls.mono HC2.out ?_;rintro e w' ⟨rfl,hw'⟩;have hw':=hw'.symm;subst hw'
      go_wp2
      go_ret2
      exact Ans.intro (Own.nil _ _) (Below.refl _ _)
  · have e1:decide (2≤radix∧radix≤36)=false:=decide_eq_false hr;rw[e1]at c1 ⊢;have HC1:Hid _:=c1;clear hr e1 c1
    go_enter Tryz.func163,Tryz.ntmps163
    go_wp2_with fail
    refine Calls.mono HC1.out ?_;rintro e w' ⟨rfl,hw'⟩;have hw':=hw'.symm;subst hw'
    go_wp2
    go_ret2
    exact Ans.intro (Own.nil _ _) (Below.refl _ _)
end Go.Proofs.YtgjohjfehgdgbaaGreatDoor
