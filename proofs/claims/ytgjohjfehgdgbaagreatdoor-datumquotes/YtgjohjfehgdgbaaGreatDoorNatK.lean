/- NatK -/
import Derived.Test.YtgjohjfehgdgbaaGreatDoorNatH
import Derived.Test.YtgjohjfehgdgbaaGreatDoorBits
import Derived.Test.YtgjohjfehgdgbaaGreatDoorGcdMath
namespace Go.Proofs.YtgjohjfehgdgbaaGreatDoor
open Go.RowKit
set_option linter.unusedVariables false
set_option linter.unusedSimpArgs false

def bor(x y c:Nat):Nat:=if x<y+c then 1 else 0
def dif(x y c:Nat):Nat:=(x+8589934592-y-c)%4294967296
theorem dif_eq{x y c:Nat}(hx:x<4294967296)(hy:y<4294967296)(hc:c≤1):dif x y c+y+c=x+4294967296*bor x y c:=by
  unfold dif bor
  split<;>omega
theorem dif_lt(x y c:Nat):dif x y c<4294967296:=Nat.mod_lt _ (by omega)
theorem bor_le(x y c:Nat):bor x y c≤1:=by unfold bor; split<;>omega

set_option maxHeartbeats 1000000 in
set_option maxRecDepth 1000000 in
theorem sub32_any(x y c:Nat)(w:World)(hx:x<4294967296)(hy:y<4294967296)(hc:c≤1):
    Calls Tryz.prog 188 #[.int .u32 (x:Int),.int .u32 (y:Int),.int .u32 (c:Int)] w fun e w'=>e=.returned (.tuple #[.int .u32 ((dif x y c:Nat):Int),.int .u32 ((bor x y c:Nat):Int)])∧w'=w:=by
  have e1:((x:Int)-y-c)%4294967296=((dif x y c:Nat):Int):=by unfold dif; omega
  have hd:=dif_lt x y c;have e2:bits .or .u32 (bits .and .u32 (bits .xor .u32 IntKind.u32.max (x:Int)) (y:Int)) (bits .and .u32 (bits .xor .u32 IntKind.u32.max (bits .xor .u32 (x:Int) (y:Int))) (((x:Int)-y-c)%4294967296)) / 2147483648=((bor x y c:Nat):Int):=by
    have em:IntKind.u32.max=((4294967295:Nat):Int):=rfl;have l1:4294967295 ^^^ x<4294967296:=Nat.xor_lt_two_pow (n:=32) (by omega) hx;have l2:x ^^^ y<4294967296:=Nat.xor_lt_two_pow (n:=32) hx hy;have l3:4294967295 ^^^ (x ^^^ y)<4294967296:=Nat.xor_lt_two_pow (n:=32) (by omega) l2;have l4:(4294967295 ^^^ x) &&& y<4294967296:=Nat.lt_of_le_of_lt Nat.and_le_right hy;have l5:(4294967295 ^^^ (x ^^^ y)) &&& dif x y c<4294967296:=Nat.lt_of_le_of_lt Nat.and_le_right hd;rw[e1,em,xor_u32 _ _ (by omega) hx,xor_u32 _ _ hx hy,xor_u32 _ _ (by omega) l2,and_u32 _ _ l1 hy,and_u32 _ _ l3 hd,or_u32 _ _ l4 l5];have:=sub_borrow x y c (dif x y c) hx hy hc rfl;unfold bor;rw[←this];rfl
  have HE1:Hid _:=e1;have HE2:Hid _:=e2;clear e1 e2 hd
  go_enter Tryz.func188,Tryz.ntmps188
  go_wp2
  go_ret2
  refine⟨?_,rfl⟩;rw[←HE1.out,←HE2.out];rfl

theorem diff_step(L a b:List Nat)(i c:Nat)(hi:i<L.length)(ha:Dig a)(hb:Dig b)(hc:c≤1)(h:val (L.take i)+val (b.take i)=val (a.take i)+pw i*c):
    val ((L.set i (dif (a.getD i 0) (b.getD i 0) c)).take (i+1))+val (b.take (i+1))=val (a.take (i+1))+pw (i+1)*bor (a.getD i 0) (b.getD i 0) c:=by
  rw[val_set_take L i _ hi,val_take_succ a,val_take_succ b,pw_succ];have e:=dif_eq (ha.getD i) (hb.getD i) hc;have e2:=congrArg (fun z=>pw i*z) e;simp only[Nat.mul_add]at e2;have e3:4294967296*pw i*bor (a.getD i 0) (b.getD i 0) c=pw i*(4294967296*bor (a.getD i 0) (b.getD i 0) c):=by
    rw[Nat.mul_comm 4294967296 (pw i),Nat.mul_assoc]
  rw[e3];omega
theorem diff_end{v y x P c:Nat}(h:v+y=x+P*c)(hv:v<P)(hy:y≤x):v=x-y:=by
  have h3:c=0:=by
    apply Classical.byContradiction;intro hc;have:P*1≤P*c:=Nat.mul_le_mul_left _ (by omega);omega
  subst h3;omega

set_option maxHeartbeats 2000000 in
set_option maxRecDepth 1000000 in
theorem difference_any{w:World}{ao bo:Option Addr}{x y:Nat}(ca cb:Nat)(ha:Rd w ao (words x))(hb:Rd w bo (words y))(hx:(words x).length≤100000)(hxy:y≤x):
    Calls Tryz.prog 174 #[.slice ao (words x).length ca,.slice bo (words y).length cb] w (Row1 w (words (x-y))):=by
  have c0:=order_any ca cb ha hb (by omega) (by have:=words_mono hxy; omega);obtain⟨n,HX⟩:∃n,Hid ((words x).length=n):=⟨_,rfl⟩;obtain⟨m,HY⟩:∃m,Hid ((words y).length=m):=⟨_,rfl⟩;have hmn:m≤n:=by rw[←HX.out,←HY.out]; exact words_mono hxy
  have HXY:Hid (y≤x):=hxy;have hge:¬cmpN x y<0:=by unfold cmpN; rw[if_neg (by omega)]; split<;>omega
  obtain⟨kc,hkc⟩:∃k,cmpN x y=k:=⟨_,rfl⟩;rw[hkc]at c0 hge;clear hkc;rw[HX.out,HY.out]at c0;rw[HX.out]at hx;rw[HX.out,HY.out];have HA:Hid _:=ha;have HRB:Hid _:=hb;have HC0:Hid _:=c0;clear hxy ha hb c0;have hmk:=run_make_row' (P:=Tryz.prog) 22 99 (.int .u32 0) 4 Tryz.underlying22 infoU rfl .i64 .i64 n (by omega) (by omega)
  go_enter Tryz.func174,Tryz.ntmps174
  go_wp2_with fail
  refine Calls.mono HC0.out ?_;rintro e w1 ⟨rfl,b1⟩;have HRA1:Hid _:=HA.out.below b1;have HRB1:Hid _:=HRB.out.below b1;have HB1:Hid _:=b1;clear b1 HC0
  go_wp2
  go_loopw [6,19] (fun v6 v13 wr=>∃(i c:Nat) (L:List Nat),i≤n∧v13=.int .i64 (i:Int)∧v6=.int .u32 (c:Int)∧c≤1∧L.length=n∧Own w1.heap.size wr (some ⟨w1.heap.size,0,none⟩) n L∧Below w1.heap.size w1 wr∧val (L.take i)+val ((words y).take i)=val ((words x).take i)+pw i*c) (fun _ v13 _=>n-(intOf v13).toNat)
  case atStart=>exact⟨0,0,List.replicate n 0,Nat.zero_le _,rfl,rfl,by omega,by simp,Own.made w1 n (by omega),(Below.refl _ w1).alloc (Nat.le_refl _) _,by simp[val]⟩
  case round=>
    obtain⟨i,c,L,hi,rfl,rfl,hc,hL,hown,hbw,hv⟩:=hrel;have HV:Hid _:=hv;have HL:Hid _:=hL;clear hv hL;by_cases hin:i<n
    · have ha':=HRA1.out.below hbw;have hb':=HRB1.out.below hbw;obtain⟨b1,o1,rfl,_,hc1⟩:=ha'.pos (by intro e; have:=HX.out; rw[e]at this; simp at this; omega);have k0:=hc1 i (by rw[HX.out]; omega);have k1:=hown.cell i (by rw[HL.out]; omega);have k2:=hown.frozen i;have c1:=wordAt_any cb i hb'.drew;rw[HY.out]at c1;have d1:=(words_dig x).getD i;have d2:=(words_dig y).getD i;have HS:Hid _:=diff_step L (words x) (words y) i c (by rw[HL.out]; omega) (words_dig x) (words_dig y) hc HV.out;obtain⟨s,hs⟩:∃s,(words x).getD i 0=s:=⟨_,rfl⟩;obtain⟨t,ht⟩:∃t,(words y).getD i 0=t:=⟨_,rfl⟩;rw[hs]at k0 d1 HS;rw[ht]at c1 d2 HS;clear hs ht hc1 ha' hb';have c2:=sub32_any s t c wr.drew d1 d2 hc;have hset:=hown.set i (dif s t c) (dif_lt _ _ _);have hbw':=hbw.setCell (p:=⟨w1.heap.size,i,none⟩) (Nat.le_refl _) (.int .u32 ((dif s t c:Nat):Int));have HC1:Hid _:=c1;have HC2:Hid _:=c2;have HSet:Hid _:=hset;have HB:Hid _:=hbw';clear hset hbw' hown hbw c1 c2
      go_wp2_with fail
      go_region_with (first | (go_at_call 176; refine Calls.mono HC1.out ?_; rintro e w' ⟨rfl,rfl⟩) | (go_at_call 188; refine Calls.mono HC2.out ?_; rintro e w' ⟨rfl,rfl⟩))
      all_goals
        go_wp2
        go_roundw
        case rel=>exact⟨i+1,bor s t c,L.set i (dif s t c),by omega,by go_num,rfl,bor_le _ _ _,by rw[List.length_set]; exact HL.out,HSet.out.drew,HB.out.drew,HS.out⟩
        case measure=>simp[intOf]; omega
    · have e:i=n:=(by omega);subst e;have hval:val L=x-y:=by
        have h1:=HV.out;rw[List.take_of_length_le (by rw[HL.out]; omega),List.take_of_length_le (by rw[HY.out]; omega),List.take_of_length_le (by rw[HX.out]; omega),val_words,val_words]at h1;have h2:=val_lt hown.dig;rw[HL.out]at h2;exact diff_end h1 h2 HXY.out
      have c1:=trim_any hown (by rw[HL.out]; omega);rw[hval,HL.out]at c1;have HC:Hid _:=c1;have HB:Hid _:=HB1.out.trans (hbw.mono HB1.out.size);clear hval c1 hown hbw
      go_wp2_with fail
      refine Calls.mono HC.out ?_;rintro e w' ⟨rfl,ho,rfl⟩;have HO:Hid _:=ho.lower HB1.out.size;clear ho
      go_wp2
      go_ret
      exact⟨_,_,rfl,HO.out,HB.out⟩

set_option maxHeartbeats 2000000 in
set_option maxRecDepth 1000000 in
theorem difference_lt{w:World}{ao bo:Option Addr}{x y:Nat}(ca cb:Nat)(ha:Rd w ao (words x))(hb:Rd w bo (words y))(hx:(words x).length≤100000)(hxy:y<x):
    Calls Tryz.prog 174 #[.slice bo (words y).length cb,.slice ao (words x).length ca] w (Row1 w (words (x-y))):=by
  have c0:=order_any cb ca hb ha (by have:=words_mono (Nat.le_of_lt hxy); omega) (by omega);obtain⟨n,HX⟩:∃n,Hid ((words x).length=n):=⟨_,rfl⟩;obtain⟨m,HY⟩:∃m,Hid ((words y).length=m):=⟨_,rfl⟩;have hmn:m≤n:=by rw[←HX.out,←HY.out]; exact words_mono (Nat.le_of_lt hxy)
  have HXY:Hid (y≤x):=(Nat.le_of_lt hxy);have hlt:cmpN y x=-1:=by unfold cmpN; rw[if_pos hxy]
  rw[hlt]at c0;clear hlt;rw[HX.out,HY.out]at c0;rw[HX.out]at hx;rw[HX.out,HY.out];have HA:Hid _:=ha;have HRB:Hid _:=hb;have HC0:Hid _:=c0;clear hxy ha hb c0;have hmk:=run_make_row' (P:=Tryz.prog) 22 99 (.int .u32 0) 4 Tryz.underlying22 infoU rfl .i64 .i64 n (by omega) (by omega)
  go_enter Tryz.func174,Tryz.ntmps174
  go_wp2_with fail
  refine Calls.mono HC0.out ?_;rintro e w1 ⟨rfl,b1⟩;have HRA1:Hid _:=HA.out.below b1;have HRB1:Hid _:=HRB.out.below b1;have HB1:Hid _:=b1;clear b1 HC0
  go_wp2
  go_loopw [6,19] (fun v6 v13 wr=>∃(i c:Nat) (L:List Nat),i≤n∧v13=.int .i64 (i:Int)∧v6=.int .u32 (c:Int)∧c≤1∧L.length=n∧Own w1.heap.size wr (some ⟨w1.heap.size,0,none⟩) n L∧Below w1.heap.size w1 wr∧val (L.take i)+val ((words y).take i)=val ((words x).take i)+pw i*c) (fun _ v13 _=>n-(intOf v13).toNat)
  case atStart=>exact⟨0,0,List.replicate n 0,Nat.zero_le _,rfl,rfl,by omega,by simp,Own.made w1 n (by omega),(Below.refl _ w1).alloc (Nat.le_refl _) _,by simp[val]⟩
  case round=>
    obtain⟨i,c,L,hi,rfl,rfl,hc,hL,hown,hbw,hv⟩:=hrel;have HV:Hid _:=hv;have HL:Hid _:=hL;clear hv hL;by_cases hin:i<n
    · have ha':=HRA1.out.below hbw;have hb':=HRB1.out.below hbw;obtain⟨b1,o1,rfl,_,hc1⟩:=ha'.pos (by intro e; have:=HX.out; rw[e]at this; simp at this; omega);have k0:=hc1 i (by rw[HX.out]; omega);have k1:=hown.cell i (by rw[HL.out]; omega);have k2:=hown.frozen i;have c1:=wordAt_any cb i hb'.drew;rw[HY.out]at c1;have d1:=(words_dig x).getD i;have d2:=(words_dig y).getD i;have HS:Hid _:=diff_step L (words x) (words y) i c (by rw[HL.out]; omega) (words_dig x) (words_dig y) hc HV.out;obtain⟨s,hs⟩:∃s,(words x).getD i 0=s:=⟨_,rfl⟩;obtain⟨t,ht⟩:∃t,(words y).getD i 0=t:=⟨_,rfl⟩;rw[hs]at k0 d1 HS;rw[ht]at c1 d2 HS;clear hs ht hc1 ha' hb';have c2:=sub32_any s t c wr.drew d1 d2 hc;have hset:=hown.set i (dif s t c) (dif_lt _ _ _);have hbw':=hbw.setCell (p:=⟨w1.heap.size,i,none⟩) (Nat.le_refl _) (.int .u32 ((dif s t c:Nat):Int));have HC1:Hid _:=c1;have HC2:Hid _:=c2;have HSet:Hid _:=hset;have HB:Hid _:=hbw';clear hset hbw' hown hbw c1 c2
      go_wp2_with fail
      go_region_with (first | (go_at_call 176; refine Calls.mono HC1.out ?_; rintro e w' ⟨rfl,rfl⟩) | (go_at_call 188; refine Calls.mono HC2.out ?_; rintro e w' ⟨rfl,rfl⟩))
      all_goals
        go_wp2
        go_roundw
        case rel=>exact⟨i+1,bor s t c,L.set i (dif s t c),by omega,by go_num,rfl,bor_le _ _ _,by rw[List.length_set]; exact HL.out,HSet.out.drew,HB.out.drew,HS.out⟩
        case measure=>simp[intOf]; omega
    · have e:i=n:=(by omega);subst e;have hval:val L=x-y:=by
        have h1:=HV.out;rw[List.take_of_length_le (by rw[HL.out]; omega),List.take_of_length_le (by rw[HY.out]; omega),List.take_of_length_le (by rw[HX.out]; omega),val_words,val_words]at h1;have h2:=val_lt hown.dig;rw[HL.out]at h2;exact diff_end h1 h2 HXY.out
      have c1:=trim_any hown (by rw[HL.out]; omega);rw[hval,HL.out]at c1;have HC:Hid _:=c1;have HB:Hid _:=HB1.out.trans (hbw.mono HB1.out.size);clear hval c1 hown hbw
      go_wp2_with fail
      refine Calls.mono HC.out ?_;rintro e w' ⟨rfl,ho,rfl⟩;have HO:Hid _:=ho.lower HB1.out.size;clear ho
      go_wp2
      go_ret
      exact⟨_,_,rfl,HO.out,HB.out⟩

theorem distance_any{w:World}{ao bo:Option Addr}{x y:Nat}(ca cb:Nat)(ha:Rd w ao (words x))(hb:Rd w bo (words y))(hx:(words x).length≤100000)(hy:(words y).length≤100000):
    Calls Tryz.prog 174 #[.slice ao (words x).length ca,.slice bo (words y).length cb] w (Row1 w (words (dist x y))):=by
  by_cases h:y≤x
  · rw[dist_ge h];exact difference_any ca cb ha hb hx h
  · rw[dist_lt (by omega)];exact difference_lt cb ca hb ha hy (by omega)
end Go.Proofs.YtgjohjfehgdgbaaGreatDoor
