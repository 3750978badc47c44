/- NatQ NatI ShiftRef ShiftRef2 GcdRef OverRef OverRef2 -/
import Derived.Test.YtpckmgemfkiifaaGreatDoorNatP
import Derived.Test.YtpckmgemfkiifaaGreatDoorNatH
import Derived.Test.YtpckmgemfkiifaaGreatDoorNatM
import Derived.Test.YtpckmgemfkiifaaGreatDoorNatZ
import Derived.Test.YtpckmgemfkiifaaGreatDoorGcdMath
import Derived.Deep.LoopGhost
import Derived.Test.YtpckmgemfkiifaaGreatDoorNatL
set_option linter.unusedVariables false
set_option linter.unusedSimpArgs false
set_option maxHeartbeats 1000000
namespace Go.Proofs.YtpckmgemfkiifaaGreatDoor
open Go.RowKit
theorem jfj(x:Int)(h0:0≤x)(h1:x≤18446744073709551615):IntKind.u64.wrap x=x:=by
  simp[IntKind.wrap,IntKind.bits,IntKind.signed];omega
theorem zkh(L L0 b:List Nat)(i j c k:Nat)(hi:i+j<L.length)(h:val L+pw (i+j)*c=val L0+pw i*(k*val (b.take j))):
    val (L.set (i+j) ((L.getD (i+j) 0+k*b.getD j 0+c)%4294967296))+pw (i+(j+1))*((L.getD (i+j) 0+k*b.getD j 0+c) / 4294967296)=val L0+pw i*(k*val (b.take (j+1))):=by
  have e1:=val_set L (i+j) ((L.getD (i+j) 0+k*b.getD j 0+c)%4294967296) hi;have e2:=carry_step (pw (i+j)) (L.getD (i+j) 0+k*b.getD j 0+c);have e3:pw (i+(j+1))=4294967296*pw (i+j):=by rw[←Nat.add_assoc,pw_succ]
  rw[e3,val_take_succ,Nat.mul_add k,Nat.mul_add (pw i)];have e4:pw i*(k*(pw j*b.getD j 0))=pw (i+j)*(k*b.getD j 0):=by
    rw[pw_add,Nat.mul_left_comm k,Nat.mul_assoc]
  rw[e4];rw[Nat.mul_add,Nat.mul_add]at e2;omega
theorem zki{a P c b:Nat}(h:a+P*c=b)(h2:b<P):a=b:=by
  have h3:c=0:=by
    apply Classical.byContradiction;intro hc;have:P*1≤P*c:=Nat.mul_le_mul_left _ (by omega);omega
  subst h3;omega
theorem zrh(L L0 a:List Nat)(i m c y:Nat)(ha:Dig a)(hy:y<pw m)(hv:val L0=val (a.take i)*y)(h:val L+pw (i+(m+1))*c=val L0+pw i*(a.getD i 0*y))(hi:i<a.length):val L=val (a.take (i+1))*y:=by
  have e:val (a.take (i+1))*y=val L0+pw i*(a.getD i 0*y):=by
    rw[val_take_succ,Nat.add_mul,hv,Nat.mul_assoc]
  rw[←e]at h;have h1:=val_lt (ha.take (i+1));rw[List.length_take,Nat.min_eq_left (by omega)]at h1;have h2:val (a.take (i+1))*y<pw (i+1)*pw m:=Nat.mul_lt_mul'' h1 hy;rw[←pw_add,show i+1+m=i+(m+1)by omega]at h2;exact zki h h2

set_option maxRecDepth 1000000 in
theorem xq{w:World}{ao bo:Option Addr}{x y:Nat}(ca cb:Nat)(ha:Rd w ao (words x))(hb:Rd w bo (words y))(hx:(words x).length≤100000)(hy:(words y).length≤100000):
    Calls Tryz.prog 113 #[.slice ao (words x).length ca,.slice bo (words y).length cb] w (Row1 w (words (x*y))):=by
  obtain⟨n,HX⟩:∃n,Hid ((words x).length=n):=⟨_,rfl⟩;obtain⟨m,HY⟩:∃m,Hid ((words y).length=m):=⟨_,rfl⟩;rw[HX.out]at hx ⊢;rw[HY.out]at hy ⊢;have hmk:=run_make_row' (P:=Tryz.prog) 22 78 (.int .u32 0) 4 Tryz.underlying22 infoU rfl .i64 .i64 (n+m+1) (by omega) (by omega);simp only[Int.natCast_add,Int.cast_ofNat_Int]at hmk
  go_enter Tryz.func113,Tryz.ntmps113
  go_wp2
  go_loopw [6] (fun v wr=>∃(i:Nat) (L:List Nat),i≤n∧v=.int .i64 (i:Int)∧L.length=n+m+1∧Own w.heap.size wr (some ⟨w.heap.size,0,none⟩) (n+m+1) L∧Below w.heap.size w wr∧val L=val ((words x).take i)*y) (fun v _=>n-(intOf v).toNat)
  case atStart=>exact⟨0,List.replicate (n+m+1) 0,Nat.zero_le _,rfl,by simp,Own.made w (n+m+1) (by omega),(Below.refl _ w).alloc (Nat.le_refl _) _,by simp[val_replicate,val]⟩
  case round=>
    obtain⟨i,L,hi,rfl,hL,hown,hbw,hv⟩:=hrel;have HV:Hid _:=hv;have HL:Hid _:=hL;clear hv hL;by_cases hin:i<n
    · obtain⟨k,hk⟩:∃k,(words x).getD i 0=k:=⟨_,rfl⟩;have HK:Hid _:=hk;have d0:=(words_dig x).getD i;rw[hk]at d0;clear hk
      go_wp2
      go_loopw [7,8] (fun v7 v8 wr=>∃(j c:Nat) (L':List Nat),j≤m+1∧v8=.int .i64 (j:Int)∧v7=.int .u64 (c:Int)∧c<4294967296∧L'.length=n+m+1∧Own w.heap.size wr (some ⟨w.heap.size,0,none⟩) (n+m+1) L'∧Below w.heap.size w wr∧val L'+pw (i+j)*c=val L+pw i*(k*val ((words y).take j))) (fun _ v8 _=>m+1-(intOf v8).toNat)
      case atStart=>exact⟨0,0,L,Nat.zero_le _,rfl,rfl,by omega,HL.out,hown,hbw,by simp[val]⟩
      case round=>
        clear hown hbw;obtain⟨j,c,L',hj,rfl,rfl,hc,hL',hown,hbw,hv⟩:=hrel;have HV':Hid _:=hv;have HL':Hid _:=hL';clear hv hL';by_cases hjm:j≤m
        · have ha':=ha.below hbw;have hb':=hb.below hbw;obtain⟨b1,o1,rfl,_,hc1⟩:=ha'.pos (by intro e; have:=HX.out; rw[e]at this; simp at this; omega);have k0:=hc1 i (by rw[HX.out]; omega);rw[HK.out]at k0;have k1:=hown.cell (i+j) (by rw[HL'.out]; omega);have k2:=hown.frozen (i+j);have d1:=hown.dig.getD (i+j);have d2:=(words_dig y).getD j;have HS:Hid _:=zkh L' L (words y) i j c k (by rw[HL'.out]; omega) HV'.out;have c1:=rword_any cb j hb'.drew;rw[HY.out]at c1;obtain⟨t,ht⟩:∃t,L'.getD (i+j) 0=t:=⟨_,rfl⟩;obtain⟨q,hq⟩:∃q,(words y).getD j 0=q:=⟨_,rfl⟩;rw[hq]at c1 d2 HS;rw[ht]at k1 d1 HS;clear ht hq hc1 ha' hb';have m1:=mul_boundI d0 d2;have m2:=mul_bound d0 d2;have w1:=wrapI ((i:Int)+j) (by omega) (by omega);have w2:=jfj ((k:Int)*q) (by omega) (by omega);have w3:=jfj ((t:Int)+(k:Int)*q) (by omega) (by omega);have w4:=jfj ((t:Int)+(k:Int)*q+c) (by omega) (by omega);have q4:((i:Int)+j).toNat=i+j:=(by omega);have q5:(0:Int)≤(i:Int)+j:=(by omega);have q6:(i:Int)+j<(n:Int)+m+1:=(by omega);have hset:=hown.set (i+j) ((t+k*q+c)%4294967296) (Nat.mod_lt _ (by omega));have hbw':=hbw.setCell (p:=⟨w.heap.size,i+j,none⟩) (Nat.le_refl _) (.int .u32 (((t+k*q+c)%4294967296:Nat):Int));have HSet:Hid _:=hset;have HB:Hid _:=hbw';have HC:Hid _:=c1;clear hset hbw' hown hbw ha hb c1
          go_wp2_with fail
          go_region_with (go_at_call 134; refine Calls.mono HC.out ?_; rintro e w' ⟨rfl,rfl⟩)
          all_goals go_wp2
          all_goals
            go_roundw
            case rel=>
              have hlt:(t+k*q+c) / 4294967296<4294967296:=Nat.div_lt_of_lt_mul (by omega);exact⟨j+1,(t+k*q+c) / 4294967296,L'.set (i+j) ((t+k*q+c)%4294967296),by omega,by go_num,rfl,hlt,by rw[List.length_set]; exact HL'.out,HSet.out.drew,HB.out.drew,HS.out⟩
            case measure=>simp[intOf]; omega
        · have e:j=m+1:=(by omega);subst e;have hval:=HV'.out;rw[List.take_of_length_le (by rw[HY.out]; omega),val_words,←HK.out]at hval;have hfin:=zrh L' L (words x) i m c y (words_dig x) (by have:=words_lt y; rw[HY.out]at this; exact this) HV.out hval (by rw[HX.out]; omega);have HF:Hid _:=hfin;have HO:Hid _:=hown;have HB:Hid _:=hbw;clear hval hfin hown hbw ha hb
          go_wp2
          go_roundw
          case rel=>exact⟨i+1,L',by omega,by go_num,HL'.out,HO.out,HB.out,HF.out⟩
          case measure=>simp[intOf]; omega
    · have e:i=n:=(by omega);subst e;have hval:=HV.out;rw[List.take_of_length_le (by rw[HX.out]; omega),val_words]at hval;have c1:=norm_any (i+m+1) hown.rd (by rw[HL.out]; omega) hown.caps (by simp);rw[hval,HL.out]at c1;have HC:Hid _:=c1;have HB:Hid _:=hbw;clear hval c1 hown hbw ha hb
      go_wp2_with fail
      refine Calls.mono HC.out ?_;rintro e w2 ⟨so,sc,rfl,ho,hb3⟩;have HO:Hid _:=ho.lower HB.out.size;have HB3:Hid _:=HB.out.trans (hb3.mono HB.out.size);clear ho hb3
      go_wp2
      go_ret
      exact⟨_,_,rfl,HO.out,HB3.out⟩
theorem jga(acc a:List Nat)(W i r c:Nat)(hl:acc.length=W+i)(h:val acc+pw (W+i)*c=pw W*(val (a.take i)*2^r)):
    val (acc++[(c+a.getD i 0*2^r)%4294967296])+pw (W+(i+1))*((c+a.getD i 0*2^r) / 4294967296)=pw W*(val (a.take (i+1))*2^r):=by
  rw[val_snoc,hl,val_take_succ,Nat.add_mul,Nat.mul_add (pw W)];have e:=carry_step (pw (W+i)) (c+a.getD i 0*2^r);have e2:pw (W+(i+1))=4294967296*pw (W+i):=by rw[←Nat.add_assoc,pw_succ]
  have e3:pw W*(pw i*a.getD i 0*2^r)=pw (W+i)*(a.getD i 0*2^r):=by rw[pw_add]; simp only[Nat.mul_assoc]
  rw[e2,e3];rw[Nat.mul_add]at e;omega
theorem jgb{c d r:Nat}(hc:c<2^r)(hd:d<4294967296):(c+d*2^r) / 4294967296<2^r:=by
  rw[Nat.div_lt_iff_lt_mul (by omega)];have:(d+1)*2^r≤4294967296*2^r:=Nat.mul_le_mul_right _ (by omega);rw[Nat.add_mul,Nat.one_mul]at this;rw[Nat.mul_comm (2^r)];omega

set_option maxRecDepth 1000000 in
theorem zgg{w:World}{ao:Option Addr}{x:Nat}(ca k:Nat)(ha:Rd w ao (words x))(hx:(words x).length≤100000)(hk:k≤1000000):
    Calls Tryz.prog 133 #[.slice ao (words x).length ca,.int .i64 (k:Int)] w (Row1 w (words (x*2^k))):=by
  obtain⟨i0,hi0,hz0,hz1,hz2⟩:=info_parts infoU;obtain⟨n,HX⟩:∃n,Hid ((words x).length=n):=⟨_,rfl⟩;rw[HX.out]at hx ⊢;obtain⟨W,hW⟩:∃W,k / 32=W:=⟨_,rfl⟩;obtain⟨r,hr⟩:∃r,k%32=r:=⟨_,rfl⟩;have hr32:r<32:=by omega
  have hWk:W≤100000:=by omega
  have e1:(k:Int) / 32=(W:Int):=by omega
  have e2:(k:Int)%32=(r:Int):=by omega
  have HKK:Hid (2^k=pw W*2^r):=by
    show 2^k=pw W*2^r;rw[pw_two,←Nat.pow_add]
    congr 1
    omega
  have hmk:=run_make_row' (P:=Tryz.prog) 22 78 (.int .u32 0) 4 Tryz.underlying22 infoU rfl .i64 .i64 W (by omega) (by omega);clear hW hr
  go_enter Tryz.func133,Tryz.ntmps133
  go_wp2
  go_loopw [5,6,7] (fun v5 v6 v7 wr=>∃(i c:Nat) (acc:List Nat) (ro:Option Addr) (rc:Nat),i≤n+1∧v7=.int .i64 (i:Int)∧v6=.int .u64 (c:Int)∧c<2^r∧v5=.slice ro (W+i) rc∧acc.length=W+i∧Own w.heap.size wr ro rc acc∧Below w.heap.size w wr∧val acc+pw (W+i)*c=pw W*(val ((words x).take i)*2^r)) (fun _ _ v7 _=>n+1-(intOf v7).toNat)
  case atStart=>
    refine⟨0,0,List.replicate W 0,some ⟨w.heap.size,0,none⟩,W,Nat.zero_le _,rfl,rfl,Nat.pow_pos (by omega),rfl,by simp,Own.made w W (by omega),(Below.refl _ w).alloc (Nat.le_refl _) _,by simp[val,val_replicate]⟩
  case round=>
    obtain⟨i,c,acc,ro,rc,hi,rfl,rfl,hc,rfl,hacc,hown,hbw,hv⟩:=hrel;have HV:Hid _:=hv;have HL:Hid _:=hacc;have HCc:Hid _:=hc;have hwsz:=hbw.size;have hc32:c<4294967296:=Nat.lt_of_lt_of_le hc (by have:=Nat.pow_le_pow_right (show 0<2 by omega) (show r≤32 by omega); omega);clear hv hacc hc;by_cases hin:i≤n
    · have c1:=rword_any ca i (ha.below hbw);rw[HX.out]at c1;have d1:=(words_dig x).getD i;have HS:Hid _:=jga acc (words x) W i r c HL.out HV.out;obtain⟨d,hd⟩:∃d,(words x).getD i 0=d:=⟨_,rfl⟩;rw[hd]at c1 d1 HS;clear hd ha;have hrow:=hown.row;rw[HL.out]at hrow;have HD:Hid _:=hown.dig;have HB:Hid _:=hbw;have HU:Hid _:=jgb HCc.out d1;have s1:=shl_lt d r d1 hr32;obtain⟨p,hp⟩:∃p,d*2^r=p:=⟨_,rfl⟩;have hpI:(d:Int)*2^r=(p:Int):=(by rw[←hp,Int.natCast_mul,Int.natCast_pow]; rfl);have hor:bits BinOp.or IntKind.u64 (c:Int) (p:Int)=((c+p:Nat):Int):=by
        rw[or_u64 _ _ (by omega) (by omega),Nat.or_comm,←hp,or_add _ _ _ HCc.out,Nat.add_comm]
      rw[hp]at HS HU s1;obtain⟨t,ht⟩:∃t,c+p=t:=⟨_,rfl⟩;rw[ht]at hor HS HU;have htb:t≤18446744073709551615:=(by omega);clear hown hbw hp ht
      go_wp2_with fail
      refine c1.mono ?_;rintro e w' ⟨rfl,hw'⟩;have hw':=hw'.symm;subst hw';clear c1
      go_wp2_with (at_builtin; refine wpList_append_own _ rfl _ _ 22 rfl w.heap.size 78 i0 (.int .u32 0) 1 4 Tryz.underlying22 hi0 hz0 hz1 hz2 rfl (by decide) _ _ _ rfl (hrow.alloc _) ⟨wr.heap.size,0,none⟩ 1 1 [.int .u32 ((t%4294967296:Nat):Int)] rfl rfl (by exact cell_one wr _ 78) (by intro u hu; simp at hu; subst hu; rfl) (by unfold maxLen; omega) (by omega) (by simp; omega) ?_)
      intro v' w1 hown' hgrow hiff;have hb2:=grown_below (HB.out.alloc (by omega) _) (hrow.alloc _) hgrow (by simp; omega);rw[←HL.out]at hown';obtain⟨ro',rc',e,ho⟩:=own_append HD.out (Nat.mod_lt _ (by omega)) hown';subst e;have HO:Hid _:=ho;have HB2:Hid _:=hb2;clear hown' hgrow hiff ho hb2 hrow
      go_wp2
      go_roundw
      case rel=>
        refine⟨i+1,t / 4294967296,acc++[t%4294967296],ro',rc',by omega,by go_num,rfl,HU.out,by rw[List.length_append,HL.out]; rfl,by rw[List.length_append,HL.out]; rfl,HO.out,HB2.out,HS.out⟩
      case measure=>simp only[intOf]; omega
    · have e:i=n+1:=(by omega);subst e;have hval:val acc=x*2^k:=by
        have h1:=HV.out;rw[List.take_of_length_le (by rw[HX.out]; omega),val_words]at h1;rw[HKK.out,Nat.mul_left_comm];refine zki h1 ?_;have h2:x<pw n:=(by have:=words_lt x; rw[HX.out]at this; exact this);have h3:2^r<pw 1:=by
          rw[show pw 1=2^32 from rfl];exact Nat.pow_lt_pow_right (by omega) hr32
        have h4:x*2^r<pw n*pw 1:=Nat.mul_lt_mul'' h2 h3;rw[←pw_add]at h4;rw[pw_add W];exact Nat.mul_lt_mul_of_pos_left h4 (pw_pos W)
      have c3:=norm_any rc hown.rd (by rw[HL.out]; omega) hown.caps (fun e=>by subst e; exact hown.none_cap);rw[hval,HL.out]at c3;have HC:Hid _:=c3;have HB:Hid _:=hbw;clear hval c3 hown hbw ha
      go_wp2_with fail
      refine Calls.mono HC.out ?_;rintro e w2 ⟨so,sc,rfl,ho,hb3⟩;have HO:Hid _:=ho.lower HB.out.size;have HB3:Hid _:=HB.out.trans (hb3.mono HB.out.size);clear ho hb3
      go_wp2
      go_ret
      exact⟨_,_,rfl,HO.out,HB3.out⟩
theorem zri(acc:List Nat)(x W j r:Nat)(hl:acc.length=j)(hr:r<32)(h:val acc=x / (pw W*2^r)%pw j):
    val (acc++[((words x).getD (W+j+1) 0*4294967296+(words x).getD (W+j) 0) / 2^r%4294967296])=x / (pw W*2^r)%pw (j+1):=by
  have:=down_step (acc++[0]) x W j r (by simp[hl]) hr (by rw[List.take_append_of_le_length (by omega),List.take_of_length_le (by omega)]; exact h);rw[←this]
  congr 1
  rw[List.take_of_length_le (by simp[hl])];rw[List.set_append_right _ _ (by omega)];simp[hl]

set_option maxRecDepth 1000000 in
theorem zzi{w:World}{ao:Option Addr}{x:Nat}(ca k:Nat)(ha:Rd w ao (words x))(hx:(words x).length≤100000)(hk:k≤1000000):
    Calls Tryz.prog 151 #[.slice ao (words x).length ca,.int .i64 (k:Int)] w (Row1 w (words (x / 2^k))):=by
  obtain⟨i0,hi0,hz0,hz1,hz2⟩:=info_parts infoU;obtain⟨n,HX⟩:∃n,Hid ((words x).length=n):=⟨_,rfl⟩;rw[HX.out]at hx ⊢;obtain⟨W,hW⟩:∃W,k / 32=W:=⟨_,rfl⟩;obtain⟨r,hr⟩:∃r,k%32=r:=⟨_,rfl⟩;have hr32:r<32:=by omega
  have hWk:W≤100000:=by omega
  have e1:(k:Int) / 32=(W:Int):=by omega
  have e2:(k:Int)%32=(r:Int):=by omega
  have HKK:Hid (2^k=pw W*2^r):=by
    show 2^k=pw W*2^r;rw[pw_two,←Nat.pow_add]
    congr 1
    omega
  clear hW hr
  go_enter Tryz.func151,Tryz.ntmps151
  go_wp2
  go_loopw [5,6] (fun v5 v6 wr=>∃(j:Nat) (acc:List Nat) (ro:Option Addr) (rc:Nat),(W+j≤n∨j=0)∧v6=.int .i64 ((W+j:Nat):Int)∧v5=.slice ro j rc∧acc.length=j∧Own w.heap.size wr ro rc acc∧Below w.heap.size w wr∧val acc=x / (pw W*2^r)%pw j) (fun _ v6 _=>n-(intOf v6).toNat)
  case atStart=>
    refine⟨0,[],some ⟨w.heap.size,0,none⟩,0,.inr rfl,rfl,rfl,rfl,⟨dig_nil,World.ownsRow_made w #[] 0 (Nat.le_refl _) (by decide) rfl⟩,(Below.refl _ w).alloc (Nat.le_refl _) _,by simp[val,pw_zero,Nat.mod_one]⟩
  case round=>
    obtain⟨j,acc,ro,rc,hj,rfl,rfl,hacc,hown,hbw,hv⟩:=hrel;have HV:Hid _:=hv;have HL:Hid _:=hacc;have hwsz:=hbw.size;clear hv hacc;by_cases hin:W+j<n
    · have c1:=rword_any ca (W+j) (ha.below hbw);have c2:=rword_any ca (W+j+1) (ha.below hbw);rw[HX.out]at c1 c2;simp only[Int.natCast_add,Int.cast_ofNat_Int]at c1 c2;have d1:=(words_dig x).getD (W+j);have d2:=(words_dig x).getD (W+j+1);have HS:Hid _:=zri acc x W j r HL.out hr32 HV.out;obtain⟨q,hq⟩:∃q,(words x).getD (W+j) 0=q:=⟨_,rfl⟩;obtain⟨p,hp⟩:∃p,(words x).getD (W+j+1) 0=p:=⟨_,rfl⟩;rw[hq]at c1 d1 HS;rw[hp]at c2 d2 HS;clear hq hp ha;have hrow:=hown.row;rw[HL.out]at hrow;have HD:Hid _:=hown.dig;have HB:Hid _:=hbw;have hor:=or_u64 q (p*4294967296) (by omega) (by omega);rw[Nat.or_comm,or_two p q d1]at hor;simp only[Int.natCast_mul,Int.cast_ofNat_Int]at hor;obtain⟨t,ht⟩:∃t,p*4294967296+q=t:=⟨_,rfl⟩;rw[ht]at HS;have horT:bits BinOp.or IntKind.u64 (q:Int) ((p:Int)*4294967296)=(t:Int):=(by rw[hor,←ht]);have htb:t≤18446744073709551615:=(by omega);have hdig:((t:Int) / 2^r%4294967296)=((t / 2^r%4294967296:Nat):Int):=(by rw[Int.natCast_emod,Int.natCast_ediv,Int.natCast_pow]; rfl);have HDG:Hid _:=hdig;clear hown hbw hor ht hdig;simp only[Int.natCast_add]
      go_wp2_with fail
      refine c1.mono ?_;rintro e w' ⟨rfl,hw'⟩;have hw':=hw'.symm;subst hw'
      go_wp2_with fail
      refine c2.mono ?_;rintro e w' ⟨rfl,hw'⟩;have hw':=hw'.symm;subst hw';clear c1 c2
      go_wp2_with (at_builtin; refine wpList_append_own _ rfl _ _ 22 rfl w.heap.size 78 i0 (.int .u32 0) 1 4 Tryz.underlying22 hi0 hz0 hz1 hz2 rfl (by decide) _ _ _ rfl (hrow.alloc _) ⟨wr.heap.size,0,none⟩ 1 1 [.int .u32 ((t:Int) / 2^r%4294967296)] rfl rfl (by exact cell_one wr _ 78) (by intro u hu; simp at hu; subst hu; rfl) (by unfold maxLen; omega) (by omega) (by simp; omega) ?_)
      intro v' w1 hown' hgrow hiff;have hb2:=grown_below (HB.out.alloc (by omega) _) (hrow.alloc _) hgrow (by simp; omega);rw[←HL.out,HDG.out]at hown';obtain⟨ro',rc',e,ho⟩:=own_append HD.out (Nat.mod_lt _ (by omega)) hown';subst e;have HO:Hid _:=ho;have HB2:Hid _:=hb2;clear hown' hgrow hiff ho hb2 hrow
      go_wp2
      go_roundw
      case rel=>
        refine⟨j+1,acc++[t / 2^r%4294967296],ro',rc',.inl (by omega),by go_num,by rw[List.length_append,HL.out]; rfl,by rw[List.length_append,HL.out]; rfl,HO.out,HB2.out,HS.out⟩
      case measure=>simp only[intOf]; omega
    · have hval:val acc=x / 2^k:=by
        rw[HV.out,HKK.out];apply Nat.mod_eq_of_lt;have h1:x<pw n:=(by have:=words_lt x; rw[HX.out]at this; exact this);have h2:x / (pw W*2^r)≤x / pw W:=by
          rw[←Nat.div_div_eq_div_mul];exact Nat.div_le_self _ _
        have h3:x / pw W<pw j:=by
          rw[Nat.div_lt_iff_lt_mul (pw_pos W),←pw_add];exact Nat.lt_of_lt_of_le h1 (pw_le (by omega))
        omega
      have c3:=norm_any rc hown.rd (by rw[HL.out]; omega) hown.caps (fun e=>by subst e; exact hown.none_cap);rw[hval,HL.out]at c3;have HC:Hid _:=c3;have HB:Hid _:=hbw;clear hval c3 hown hbw ha
      go_wp2_with fail
      refine Calls.mono HC.out ?_;rintro e w2 ⟨so,sc,rfl,ho,hb3⟩;have HO:Hid _:=ho.lower HB.out.size;have HB3:Hid _:=HB.out.trans (hb3.mono HB.out.size);clear ho hb3
      go_wp2
      go_ret
      exact⟨_,_,rfl,HO.out,HB3.out⟩
theorem uk: [1]=words 1:=by rw[words_pos (by omega)]; simp[words_zero]
theorem zbi{x i:Nat}(h:x%2^i=0)(h0:x≠0):i<bl x:=by
  have h1:=low_bound h h0;have h2:=lt_bl x;apply Classical.byContradiction;intro h3;have:=Nat.pow_le_pow_right (show 0<2 by omega) (Nat.le_of_not_lt h3);omega
theorem qpc{x i k:Nat}(hi:x / 2^i%2=1)(hk:x%2^k=0):k≤i:=by
  apply Classical.byContradiction;intro h;obtain⟨d,rfl⟩:∃d,k=i+1+d:=⟨k-(i+1),by omega⟩;have e:x / 2^i%2=0:=by
    have h1:2^(i+1+d)∣x:=Nat.dvd_of_mod_eq_zero hk;have h2:2^(i+1)∣x:=Nat.dvd_trans ⟨2^d,by rw[Nat.pow_add]⟩ h1;obtain⟨c,rfl⟩:=h2;rw[Nat.pow_succ,Nat.mul_assoc,Nat.mul_div_cancel_left _ (Nat.pow_pos (by omega))];omega
  omega
theorem jgc{x:Nat}(h:x≠0):bl x=1↔x=1:=by
  constructor
  · intro h1;have h2:=lt_bl x;rw[h1]at h2;omega
  · intro h1;subst h1;decide

set_option maxRecDepth 1000000 in
theorem qtd{w:World}{ao:Option Addr}{x:Nat}(ca:Nat)(ha:Rd w ao (words x))(hx:(words x).length≤30000)(h0:x≠0):
    Calls Tryz.prog 131 #[.slice ao (words x).length ca] w fun e w'=>∃n,x%2^n=0∧x / 2^n%2=1∧Row1 w (words (x / 2^n)) e w':=by
  obtain⟨n,HN⟩:∃n,Hid ((words x).length=n):=⟨_,rfl⟩;have hbl:=bl_len hx;rw[HN.out];have H0:Hid _:=h0;have HA:Hid _:=ha;have HX:Hid _:=hx;clear h0 ha hx
  go_enter Tryz.func131,Tryz.ntmps131
  go_wp2
  go_loopw [3] (fun v wr=>wr=w∧∃i:Nat,v=.int .i64 (i:Int)∧x%2^i=0) (fun v _=>bl x-(intOf v).toNat)
  case atStart=>exact⟨rfl,0,rfl,by rw[Nat.pow_zero,Nat.mod_one]⟩
  case round=>
    obtain⟨rfl,i,rfl,hi⟩:=hrel;have hlt:=zbi hi H0.out;have HI:Hid _:=hi;have c1:=bit_any ca i HA.out (by omega);rw[HN.out]at c1;clear hi;by_cases hb:x / 2^i%2=0
    · rw[hb]at c1;have HB:Hid _:=hb;have HC1:Hid _:=c1;clear hb c1
      go_wp2_with fail
      refine Calls.mono HC1.out ?_;rintro e w' ⟨rfl,hw'⟩;have hw':=hw'.symm;subst hw'
      go_wp2
      go_roundw
      case rel=>exact⟨trivial,i+1,by go_num,mod_two_succ HI.out HB.out⟩
      case measure=>simp only[intOf]; omega
    · have hb1:x / 2^i%2=1:=(by omega);rw[hb1]at c1;have HB:Hid _:=hb1;have HC1:Hid _:=c1;have c2:=zzi ca i HA.out (by have:=HX.out; omega) (by omega);rw[HN.out]at c2;have HC2:Hid _:=c2;clear hb hb1 c1 c2
      go_wp2_with fail
      refine Calls.mono HC1.out ?_;rintro e w' ⟨rfl,hw'⟩;have hw':=hw'.symm;subst hw'
      go_wp2_with fail
      refine Calls.mono HC2.out ?_;rintro e w2 ⟨ro,rc,rfl,ho,b2⟩;have HO:Hid _:=ho;have HB2:Hid _:=b2;clear ho b2
      go_wp2
      go_ret
      exact⟨i,HI.out,HB.out,_,_,rfl,HO.out,HB2.out⟩

set_option maxRecDepth 1000000 in
theorem yy{w:World}{ao bo:Option Addr}{x y:Nat}(ca cb:Nat)(ha:Rd w ao (words x))(hb:Rd w bo (words y))(hx:(words x).length≤10000)(hy:(words y).length≤10000)(cca:(words x).length≤ca)(ccb:(words y).length≤cb)(hna:ao=none→ca=0)(hnb:bo=none→cb=0):
    Calls Tryz.prog 112 #[.slice ao (words x).length ca,.slice bo (words y).length cb] w (Row1 w (words (Nat.gcd x y))):=by
  by_cases hx0:x=0
  · subst hx0;have c1:=norm_any cb hb (by omega) ccb hnb;rw[val_words]at c1;have e0:(words 0).length=0:=(by rw[words_zero]; rfl);rw[e0,Nat.gcd_zero_left];obtain⟨m,HM⟩:∃n,Hid ((words y).length=n):=⟨_,rfl⟩;rw[HM.out]at c1 ⊢;have HC1:Hid _:=c1;clear ha hb c1 hx hy cca ccb hna hnb e0
    go_enter Tryz.func112,Tryz.ntmps112
    go_wp2_with fail
    refine Calls.mono HC1.out ?_;rintro e w2 ⟨ro,rc,rfl,ho,b2⟩;have HO:Hid _:=ho;have HB2:Hid _:=b2;clear ho b2
    go_wp2
    go_ret
    exact⟨_,_,rfl,HO.out,HB2.out⟩
  · by_cases hy0:y=0
    · subst hy0;have c1:=norm_any ca ha (by omega) cca hna;rw[val_words]at c1;have e0:(words 0).length=0:=(by rw[words_zero]; rfl);rw[e0,Nat.gcd_zero_right];have hl0:(words x).length≠0:=fun e=>hx0 (words_eq_nil.1 (List.length_eq_zero_iff.1 e));obtain⟨n,HN⟩:∃n,Hid ((words x).length=n):=⟨_,rfl⟩;rw[HN.out]at c1 hl0 ⊢;have hl1:((n:Int)==0)=false:=(by simp; omega);have HC1:Hid _:=c1;clear ha hb c1 hx hy cca ccb hna hnb e0 hx0
      go_enter Tryz.func112,Tryz.ntmps112
      go_wp2_with fail
      refine Calls.mono HC1.out ?_;rintro e w2 ⟨ro,rc,rfl,ho,b2⟩;have HO:Hid _:=ho;have HB2:Hid _:=b2;clear ho b2
      go_wp2
      go_ret
      exact⟨_,_,rfl,HO.out,HB2.out⟩
    · have hl0:(words x).length≠0:=fun e=>hx0 (words_eq_nil.1 (List.length_eq_zero_iff.1 e));have hm0:(words y).length≠0:=fun e=>hy0 (words_eq_nil.1 (List.length_eq_zero_iff.1 e));have hblx:=bl_len hx;obtain⟨n,HN⟩:∃n,Hid ((words x).length=n):=⟨_,rfl⟩;obtain⟨m,HM⟩:∃n,Hid ((words y).length=n):=⟨_,rfl⟩;rw[HN.out]at hl0;rw[HM.out]at hm0;have hl1:((n:Int)==0)=false:=(by simp; omega);have hm1:((m:Int)==0)=false:=(by simp; omega);have HA:Hid _:=ha;have HRB:Hid _:=hb;have HX:Hid _:=hx;have HY:Hid _:=hy;have HX0:Hid _:=hx0;have HY0:Hid _:=hy0;rw[HN.out,HM.out];clear ha hb hx hy hx0 hy0 cca ccb hna hnb
      go_enter Tryz.func112,Tryz.ntmps112
      go_wp2
      go_loopw [5] (fun v wr=>wr=w∧∃i:Nat,v=.int .i64 (i:Int)∧x%2^i=0∧y%2^i=0) (fun v _=>bl x-(intOf v).toNat)
      case atStart=>exact⟨rfl,0,rfl,by rw[Nat.pow_zero,Nat.mod_one],by rw[Nat.pow_zero,Nat.mod_one]⟩
      case round=>
        obtain⟨hwr,i,rfl,hi,hj⟩:=hrel;have hwr:=hwr.symm;subst hwr;have hlt:=zbi hi HX0.out;have HI:Hid _:=hi;have HJ:Hid _:=hj;have c1:=bit_any ca i HA.out (by omega);have c2:=bit_any cb i HRB.out (by omega);rw[HN.out]at c1;rw[HM.out]at c2;clear hi hj;by_cases hboth:x / 2^i%2=0∧y / 2^i%2=0
        · rw[hboth.1]at c1;rw[hboth.2]at c2;have HB:Hid _:=hboth;have HC1:Hid _:=c1;have HC2:Hid _:=c2;clear hboth c1 c2
          go_wp2_with fail
          refine Calls.mono HC1.out ?_;rintro e w' ⟨rfl,hw'⟩;have hw':=hw'.symm;subst hw'
          go_wp2_with fail
          refine Calls.mono HC2.out ?_;rintro e w' ⟨rfl,hw'⟩;have hw':=hw'.symm;subst hw'
          go_wp2
          go_roundw
          case rel=>exact⟨trivial,i+1,by go_num,mod_two_succ HI.out HB.out.1,mod_two_succ HJ.out HB.out.2⟩
          case measure=>simp only[intOf]; omega
        · have HK:Hid (x / 2^i%2=1∨y / 2^i%2=1):=by
            show x / 2^i%2=1∨y / 2^i%2=1;omega
          have c3:=qtd ca HA.out (by have:=HX.out; omega) HX0.out;rw[HN.out]at c3;have HC3:Hid _:=c3;have hi5:i≤320000:=(by omega);clear c3 hlt hblx;rcases Nat.mod_two_eq_zero_or_one (x / 2^i)with hbx | hbx;all_goals
            rw[hbx]at c1;have HC1:Hid _:=c1;have HC2:Hid _:=c2;have hby:x / 2^i%2=1∨y / 2^i%2=1:=HK.out;have HC2':Hid (x / 2^i%2=0→y / 2^i%2=1):=fun h=>(by omega);clear c1 c2 hboth hby
            go_wp2_with fail
            refine Calls.mono HC1.out ?_;rintro e w' ⟨rfl,hw'⟩;have hw':=hw'.symm;subst hw';have HBX:Hid _:=hbx;clear hbx;first
            | (have c2 := HC2.out
               rw[HC2'.out HBX.out]at c2;have HC2y:Hid _:=c2;clear c2 HC2
               go_wp2_with fail
               refine Calls.mono HC2y.out ?_;rintro e w' ⟨rfl,hw'⟩;have hw':=hw'.symm;subst hw')
            | skip
            go_wp2_with fail
            refine Calls.mono HC3.out ?_;rintro e w3 ⟨i1,hi1,hi1o,ro,rc,rfl,ho3,b3⟩;have c4:=qtd cb (HRB.out.below b3) (by have:=HY.out; omega) HY0.out;rw[HM.out]at c4;have HC4:Hid _:=c4;have HB3:Hid _:=b3;have HO3:Hid _:=ho3;have HI1:Hid _:=hi1;have HI1o:Hid _:=hi1o;clear b3 ho3 hi1 hi1o c4 HC3
            go_wp2_with fail
            refine Calls.mono HC4.out ?_;rintro e w4 ⟨j1,hj1,hj1o,so,sc,rfl,ho4,b4⟩;have HO4:Hid _:=ho4.lower HB3.out.size;have HO34:Hid _:=HO3.out.below b4;have HB4:Hid _:=chain2 HB3.out b4;have HG:Hid (Nat.gcd x y=Nat.gcd (x / 2^i1) (y / 2^j1)*2^i):=gcd_twos HI1.out hj1 (qpc HI1o.out HI.out) (qpc hj1o HJ.out) (by
              rcases HK.out with h | h
              · left;exact Nat.le_antisymm (qpc h HI1.out) (qpc HI1o.out HI.out)
              · right;exact Nat.le_antisymm (qpc h hj1) (qpc hj1o HJ.out)) HI1o.out hj1o
            have HL3:Hid ((words (x / 2^i1)).length≤10000):=Nat.le_trans (words_mono (Nat.div_le_self _ _)) HX.out;have HL4:Hid ((words (y / 2^j1)).length≤10000):=Nat.le_trans (words_mono (Nat.div_le_self _ _)) HY.out;have HJ1o:Hid _:=hj1o;clear hj1 hj1o ho4 b4 HC4 HB3 HO3
            go_wp2
            go_loopg [0,1] (x / 2^i1+y / 2^j1) (fun g v0 v1 wr=>∃(a b:Nat) (po qo:Option Addr) (pc qc:Nat),g=a+b∧v0=.slice po (words a).length pc∧v1=.slice qo (words b).length qc∧Rd wr po (words a)∧Rd wr qo (words b)∧a%2=1∧b%2=1∧(words a).length≤10000∧(words b).length≤10000∧Nat.gcd x y=Nat.gcd a b*2^i∧Below w.heap.size w wr)
            case atStart=>exact⟨_,_,ro,so,rc,sc,rfl,rfl,rfl,HO34.out.rd,HO4.out.rd,HI1o.out,HJ1o.out,HL3.out,HL4.out,HG.out,HB4.out⟩
            case round=>
              obtain⟨a,b,po,qo,pc,qc,hg,rfl,rfl,hpa,hqb,oa,ob,la,lb,hgcd,hbw⟩:=hrel;have HGK:Hid _:=hg;have HGCD:Hid _:=hgcd;have HOA:Hid (a%2=1):=oa;have HOB:Hid (b%2=1):=ob;have HLA:Hid _:=la;have HLB:Hid _:=lb;have ha0:a≠0:=(by intro e; rw[e]at oa; omega);have hb0:b≠0:=(by intro e; rw[e]at ob; omega);have HA0:Hid _:=ha0;have HB0:Hid _:=hb0;have c5:=rorder_any pc qc hpa hqb (by omega) (by omega);have HPA:Hid _:=hpa;have HQB:Hid _:=hqb;have HBW:Hid _:=hbw;obtain⟨na,HNA⟩:∃n,Hid ((words a).length=n):=⟨_,rfl⟩;obtain⟨nb,HNB⟩:∃n,Hid ((words b).length=n):=⟨_,rfl⟩;rw[HNA.out,HNB.out]at c5;rw[HNA.out]at la;rw[HNB.out]at lb;rw[HNA.out,HNB.out];clear hg hgcd oa ob ha0 hb0 hpa hqb hbw;by_cases hab:a=b
              · subst hab;rw[cmp_eq]at c5;have HC5:Hid _:=c5;clear c5
                go_wp2_with fail
                refine Calls.mono HC5.out ?_;rintro e w5 ⟨rfl,b5⟩;have c6:=zgg pc i (HPA.out.below b5) (by have:=HLA.out; omega) (by omega);rw[HNA.out]at c6;have HC6:Hid _:=c6;have HB5:Hid _:=chain2 HBW.out b5;clear b5 c6 HC5
                go_wp2_with fail
                refine Calls.mono HC6.out ?_;rintro e w6 ⟨uo,uc,rfl,ou,b6⟩;have HOU:Hid _:=ou.lower HB5.out.size;have HB6:Hid _:=chain2 HB5.out b6;clear ou b6 HC6
                go_wp2
                go_ret
                have e1:Nat.gcd x y=a*2^i:=(by rw[HGCD.out,Nat.gcd_self]);rw[e1];exact⟨_,_,rfl,HOU.out,HB6.out⟩
              · have hne:cmpN a b≠0:=by
                  unfold cmpN
                  split
                  · omega
                  · split<;>omega
                have hkb:cmpN a b=(if a<b then -1 else 1):=by
                  unfold cmpN
                  split
                  · rfl
                  · rw[if_pos (by omega)]
                have HKB:Hid _:=hkb;obtain⟨kc,hkc⟩:∃k,cmpN a b=k:=⟨_,rfl⟩;rw[hkc]at c5 hne HKB;have hne':(kc==0)=false:=(by simpa using hne);have HC5:Hid _:=c5;have HKC:Hid _:=hkc;have HAB:Hid _:=hab;clear c5 hab hne hkb hkc
                go_wp2_with fail
                refine Calls.mono HC5.out ?_;rintro e w5 ⟨rfl,b5⟩;have c6:=size_any pc (HPA.out.below b5) (by rw[HNA.out]; omega);have c7:=size_any qc (HQB.out.below b5) (by rw[HNB.out]; omega);rw[HNA.out]at c6;rw[HNB.out]at c7;have hbone:=jgc HA0.out;have hbone2:=jgc HB0.out;clear HC5;by_cases h1:a=1
                · rw[hbone.2 h1]at c6;have HC6:Hid _:=c6;have H1:Hid _:=h1;clear c6 c7 hbone hbone2 h1
                  go_wp2_with fail
                  refine Calls.mono HC6.out ?_;rintro e w' ⟨rfl,hw'⟩;have hw':=hw'.symm;subst hw';have HG1:Hid (Nat.gcd x y=2^i):=by
                    show Nat.gcd x y=2^i;rw[HGCD.out,H1.out,Nat.gcd_one_left,Nat.one_mul]
                  have l4:=Rd.lit1 w5 1 (by omega);have e4:Below w5.heap.size w5 (w5.alloc (.cells #[.int .u32 ((1:Nat):Int)] 78)):=(Below.refl _ _).alloc (Nat.le_refl _) _;rw[uk]at l4;have c7:=zgg 1 i l4 (by rw[←uk]; simp) (by omega);rw[←uk,Nat.one_mul]at c7;have HC7:Hid _:=c7;have HB5:Hid _:=chain2 (chain2 HBW.out b5) e4;clear b5 l4 e4 c7
                  go_wp2_with fail
                  refine Calls.mono HC7.out ?_;rintro e w7 ⟨uo,uc,rfl,ou,b7⟩;have HOU:Hid _:=ou.lower HB5.out.size;have HB7:Hid _:=chain2 HB5.out b7;clear ou b7 HC7
                  go_wp2
                  go_ret
                  rw[HG1.out];exact⟨_,_,rfl,HOU.out,HB7.out⟩
                · have hb1:((bl a:Int)==1)=false:=by
                    have:bl a≠1:=fun e=>h1 (hbone.1 e);simp;omega
                  obtain⟨ba,HBA⟩:∃z,Hid (bl a=z):=⟨_,rfl⟩;rw[HBA.out]at c6 hb1;have HC6:Hid _:=c6;clear c6 hbone h1
                  go_wp2_with fail
                  refine Calls.mono HC6.out ?_;rintro e w' ⟨rfl,hw'⟩;have hw':=hw'.symm;subst hw';clear HC6;by_cases h2:b=1
                  · rw[hbone2.2 h2]at c7;have HC6:Hid _:=c7;have H1:Hid _:=h2;clear c7 hbone2 h2
                    go_wp2_with fail
                    refine Calls.mono HC6.out ?_;rintro e w' ⟨rfl,hw'⟩;have hw':=hw'.symm;subst hw';have HG1:Hid (Nat.gcd x y=2^i):=by
                      show Nat.gcd x y=2^i;rw[HGCD.out,H1.out,Nat.gcd_one_right,Nat.one_mul]
                    have l4:=Rd.lit1 w5 1 (by omega);have e4:Below w5.heap.size w5 (w5.alloc (.cells #[.int .u32 ((1:Nat):Int)] 78)):=(Below.refl _ _).alloc (Nat.le_refl _) _;rw[uk]at l4;have c7:=zgg 1 i l4 (by rw[←uk]; simp) (by omega);rw[←uk,Nat.one_mul]at c7;have HC7:Hid _:=c7;have HB5:Hid _:=chain2 (chain2 HBW.out b5) e4;clear b5 l4 e4 c7
                    go_wp2_with fail
                    refine Calls.mono HC7.out ?_;rintro e w7 ⟨uo,uc,rfl,ou,b7⟩;have HOU:Hid _:=ou.lower HB5.out.size;have HB7:Hid _:=chain2 HB5.out b7;clear ou b7 HC7
                    go_wp2
                    go_ret
                    rw[HG1.out];exact⟨_,_,rfl,HOU.out,HB7.out⟩
                  · have hb2:((bl b:Int)==1)=false:=by
                      have:bl b≠1:=fun e=>h2 (hbone2.1 e);simp;omega
                    obtain⟨bb,HBB⟩:∃z,Hid (bl b=z):=⟨_,rfl⟩;rw[HBB.out]at c7 hb2;have HC7:Hid _:=c7;have c8:=rorder_any pc qc (HPA.out.below b5) (HQB.out.below b5) (by rw[HNA.out]; omega) (by rw[HNB.out]; omega);rw[HNA.out,HNB.out,HKC.out]at c8;clear c7 hbone2 h2
                    go_wp2_with fail
                    refine Calls.mono HC7.out ?_;rintro e w' ⟨rfl,hw'⟩;have hw':=hw'.symm;subst hw';clear HC7;by_cases hlt:a<b
                    · have hk1:kc=-1:=(by rw[HKB.out,if_pos hlt]);rw[hk1]at c8;have HC6:Hid _:=c8;have HLT:Hid _:=hlt;clear c8 hlt hk1 hne'
                      go_wp2_with fail
                      refine Calls.mono HC6.out ?_;rintro e w7 ⟨rfl,b7⟩;have c8:=rless_any qc pc ((HQB.out.below b5).below b7) ((HPA.out.below b5).below b7) (by rw[HNB.out]; omega) (Nat.le_of_lt HLT.out);rw[HNB.out,HNA.out]at c8;have HC8:Hid _:=c8;have HB7:Hid _:=chain2 (chain2 HBW.out b5) b7;have HRS:Hid _:=(HPA.out.below b5).below b7;clear b5 b7 c8 HC6
                      go_wp2_with fail
                      refine Calls.mono HC8.out ?_;rintro e w8 ⟨do_,dc,rfl,od,b8⟩;have hd0:b-a≠0:=(by have:=HLT.out; omega);have c9:=qtd dc od.rd (Nat.le_trans (words_mono (Nat.sub_le _ _)) (by rw[HNB.out]; omega)) hd0;have HC9:Hid _:=c9;have HB8:Hid _:=chain2 HB7.out b8;have HRS8:Hid _:=HRS.out.below b8;clear od b8 c9 hd0 HC8
                      go_wp2_with fail
                      refine Calls.mono HC9.out ?_;rintro e w9 ⟨k9,hk9,ho9,fo,fc,rfl,of,b9⟩;have HOF:Hid _:=of;have HRS9:Hid _:=HRS8.out.below b9;have HB9:Hid _:=chain2 HB8.out b9;have HK9:Hid _:=hk9;have HO9:Hid _:=ho9;clear of b9 hk9 ho9 HC9
                      go_wp2
                      go_roundg ((b-a) / 2^k9+a)
                      case measure=>
                        have h1:(b-a) / 2^k9≤b-a:=Nat.div_le_self _ _;have h2:=HLT.out;have h3:=Nat.pos_of_ne_zero HA0.out;have h4:=HGK.out;omega
                      case rel=>
                        refine⟨(b-a) / 2^k9,a,fo,po,fc,pc,rfl,rfl,by rw[HNA.out],HOF.out.rd,HRS9.out,HO9.out,HOA.out,?_,HLA.out,?_,HB9.out⟩
                        · exact Nat.le_trans (words_mono (Nat.le_trans (Nat.div_le_self _ _) (Nat.sub_le _ _))) HLB.out
                        · rw[gcd_less (Nat.le_of_lt HLT.out) HOA.out HK9.out,Nat.gcd_comm b a];exact HGCD.out
                    · have hk1:kc=1:=(by rw[HKB.out,if_neg hlt]);rw[hk1]at c8;have HC6:Hid _:=c8;have HLT:Hid (b<a):=Nat.lt_of_le_of_ne (Nat.le_of_not_lt hlt) (fun e=>HAB.out e.symm);clear c8 hlt hk1 hne'
                      go_wp2_with fail
                      refine Calls.mono HC6.out ?_;rintro e w7 ⟨rfl,b7⟩;have c8:=rless_any pc qc ((HPA.out.below b5).below b7) ((HQB.out.below b5).below b7) (by rw[HNA.out]; omega) (Nat.le_of_lt HLT.out);rw[HNA.out,HNB.out]at c8;have HC8:Hid _:=c8;have HB7:Hid _:=chain2 (chain2 HBW.out b5) b7;have HRS:Hid _:=(HQB.out.below b5).below b7;clear b5 b7 c8 HC6
                      go_wp2_with fail
                      refine Calls.mono HC8.out ?_;rintro e w8 ⟨do_,dc,rfl,od,b8⟩;have hd0:a-b≠0:=(by have:=HLT.out; omega);have c9:=qtd dc od.rd (Nat.le_trans (words_mono (Nat.sub_le _ _)) (by rw[HNA.out]; omega)) hd0;have HC9:Hid _:=c9;have HB8:Hid _:=chain2 HB7.out b8;have HRS8:Hid _:=HRS.out.below b8;clear od b8 c9 hd0 HC8
                      go_wp2_with fail
                      refine Calls.mono HC9.out ?_;rintro e w9 ⟨k9,hk9,ho9,fo,fc,rfl,of,b9⟩;have HOF:Hid _:=of;have HRS9:Hid _:=HRS8.out.below b9;have HB9:Hid _:=chain2 HB8.out b9;have HK9:Hid _:=hk9;have HO9:Hid _:=ho9;clear of b9 hk9 ho9 HC9
                      go_wp2
                      go_roundg ((a-b) / 2^k9+b)
                      case measure=>
                        have h1:(a-b) / 2^k9≤a-b:=Nat.div_le_self _ _;have h2:=HLT.out;have h3:=Nat.pos_of_ne_zero HB0.out;have h4:=HGK.out;omega
                      case rel=>
                        refine⟨(a-b) / 2^k9,b,fo,qo,fc,qc,rfl,rfl,by rw[HNB.out],HOF.out.rd,HRS9.out,HO9.out,HOB.out,?_,HLB.out,?_,HB9.out⟩
                        · exact Nat.le_trans (words_mono (Nat.le_trans (Nat.div_le_self _ _) (Nat.sub_le _ _))) HLA.out
                        · rw[gcd_less (Nat.le_of_lt HLT.out) HOB.out HK9.out];exact HGCD.out
theorem jrh(d c:Nat)(hc:c≤1):(d*2%4294967296 ||| c)=d*2%4294967296+c:=by
  have e:d*2%4294967296=(d%2147483648)*2^1:=by omega
  rw[e,or_add _ _ 1 (by omega)]
theorem zkj(acc a:List Nat)(i c b:Nat)(hl:acc.length=i)(ha:Dig a)(hc:c≤1)(h:val acc+pw i*c=2*val (a.take i)+b):
    val (acc++[a.getD i 0*2%4294967296+c])+pw (i+1)*(a.getD i 0 / 2147483648)=2*val (a.take (i+1))+b:=by
  rw[val_snoc,hl,val_take_succ,pw_succ];have hd:=ha.getD i;have e1:a.getD i 0*2%4294967296+4294967296*(a.getD i 0 / 2147483648)=2*a.getD i 0:=by omega
  have e2:=congrArg (fun t=>pw i*t) e1;simp only[Nat.mul_add]at e2;rw[Nat.mul_add,Nat.mul_add];have e3:4294967296*pw i*(a.getD i 0 / 2147483648)=pw i*(4294967296*(a.getD i 0 / 2147483648)):=by rw[Nat.mul_comm 4294967296,Nat.mul_assoc]
  have e4:2*(pw i*a.getD i 0)=pw i*(2*a.getD i 0):=Nat.mul_left_comm _ _ _;rw[e3,e4];omega

set_option maxRecDepth 1000000 in
theorem zrj{w:World}{ao:Option Addr}{x b:Nat}(ca:Nat)(ha:Rd w ao (words x))(hx:(words x).length≤100000)(hb:b≤1):
    Calls Tryz.prog 152 #[.slice ao (words x).length ca,.int .u32 (b:Int)] w (Row1 w (words (2*x+b))):=by
  obtain⟨i0,hi0,hz0,hz1,hz2⟩:=info_parts infoU;obtain⟨n,HX⟩:∃n,Hid ((words x).length=n):=⟨_,rfl⟩;rw[HX.out]at hx ⊢
  go_enter Tryz.func152,Tryz.ntmps152
  go_wp2
  go_loopw [1,5,6] (fun v1 v5 v6 wr=>∃(i c:Nat) (acc:List Nat) (ro:Option Addr) (rc:Nat),i≤n∧v6=.int .i64 (i:Int)∧v1=.int .u32 (c:Int)∧c≤1∧v5=.slice ro i rc∧acc.length=i∧Own w.heap.size wr ro rc acc∧Below w.heap.size w wr∧val acc+pw i*c=2*val ((words x).take i)+b) (fun _ _ v6 _=>n-(intOf v6).toNat)
  case atStart=>
    refine⟨0,b,[],some ⟨w.heap.size,0,none⟩,0,Nat.zero_le _,rfl,rfl,hb,rfl,rfl,⟨dig_nil,World.ownsRow_made w #[] 0 (Nat.le_refl _) (by decide) rfl⟩,(Below.refl _ w).alloc (Nat.le_refl _) _,by simp[val,pw_zero]⟩
  case round=>
    obtain⟨i,c,acc,ro,rc,hi,rfl,rfl,hc,rfl,hacc,hown,hbw,hv⟩:=hrel;have HV:Hid _:=hv;have HL:Hid _:=hacc;have hwsz:=hbw.size;clear hv hacc;by_cases hin:i<n
    · obtain⟨b1,o1,rfl,hlt1,hc1⟩:=(ha.below hbw).pos (by intro e; have:=HX.out; rw[e]at this; simp at this; omega);have k0:=hc1 i (by rw[HX.out]; omega);have d1:=(words_dig x).getD i;have HS:Hid _:=zkj acc (words x) i c b HL.out (words_dig x) hc HV.out;obtain⟨d,hd⟩:∃d,(words x).getD i 0=d:=⟨_,rfl⟩;rw[hd]at k0 d1 HS;clear hd hc1;have hrow:=hown.row;rw[HL.out]at hrow;have HD:Hid _:=hown.dig;have HB:Hid _:=hbw;have HR:Hid _:=ha;have hor:bits BinOp.or IntKind.u32 ((d:Int)*2%4294967296) (c:Int)=((d*2%4294967296+c:Nat):Int):=by
        have e:(d:Int)*2%4294967296=((d*2%4294967296:Nat):Int):=(by rw[Int.natCast_emod,Int.natCast_mul]; rfl);rw[e,or_u32 _ _ (Nat.mod_lt _ (by omega)) (by omega),jrh d c hc]
      obtain⟨t,ht⟩:∃t,d*2%4294967296+c=t:=⟨_,rfl⟩;have htb:t<4294967296:=(by omega);rw[ht]at hor HS;clear hown hbw ha ht
      go_wp2_with (at_builtin; refine wpList_append_own _ rfl _ _ 22 rfl w.heap.size 78 i0 (.int .u32 0) 1 4 Tryz.underlying22 hi0 hz0 hz1 hz2 rfl (by decide) _ _ _ rfl (hrow.alloc _) ⟨wr.heap.size,0,none⟩ 1 1 [.int .u32 (t:Int)] rfl rfl (by exact cell_one wr _ 78) (by intro u hu; simp at hu; subst hu; rfl) (by unfold maxLen; omega) (by omega) (by simp; omega) ?_)
      intro v' w1 hown' hgrow hiff;have hb2:=grown_below (HB.out.alloc (by omega) _) (hrow.alloc _) hgrow (by simp; omega);rw[←HL.out]at hown';obtain⟨ro',rc',e,ho⟩:=own_append HD.out htb hown';have hlen:(acc++[t]).length=i+1:=(by rw[List.length_append,HL.out]; rfl);rw[hlen]at e;subst e;obtain⟨b2,o2,he2,_,hc2⟩:=(HR.out.below hb2).pos (by intro e; have:=HX.out; rw[e]at this; simp at this; omega);cases he2
      have k3:w1.cell? ⟨b1,o1+i,none⟩=some (.int .u32 (d:Int)):=by
        have h1:=hb2.cell (p:=⟨b1,o1+i,none⟩) (by
          have:=HR.out.pos (by intro e; have:=HX.out; rw[e]at this; simp at this; omega);obtain⟨b3,o3,e3,h3,_⟩:=this;cases e3
          exact h3)
        have h2:=HB.out.cell (p:=⟨b1,o1+i,none⟩) (by
          have:=HR.out.pos (by intro e; have:=HX.out; rw[e]at this; simp at this; omega);obtain⟨b3,o3,e3,h3,_⟩:=this;cases e3
          exact h3)
        rw[h1,←h2];exact k0
      have HO:Hid _:=ho;have HB2:Hid _:=hb2;clear hown' hgrow hiff ho hb2 hrow hc2 hlen k0
      go_wp2
      go_roundw
      case rel=>
        refine⟨i+1,d / 2147483648,acc++[t],ro',rc',by omega,by go_num,rfl,by omega,rfl,by rw[List.length_append,HL.out]; rfl,HO.out,HB2.out,HS.out⟩
      case measure=>simp only[intOf]; omega
    · have e:i=n:=(by omega);subst e;have hval:val (acc++[c])=2*x+b:=by
        have h1:=HV.out;rw[List.take_of_length_le (by rw[HX.out]; omega),val_words]at h1;rw[val_snoc,HL.out];exact h1
      have HVV:Hid _:=hval;have hrow:=hown.row;rw[HL.out]at hrow;have HD:Hid _:=hown.dig;have HB:Hid _:=hbw;clear hval hown hbw ha
      go_wp2_with (at_builtin; refine wpList_append_own _ rfl _ _ 22 rfl w.heap.size 78 i0 (.int .u32 0) 1 4 Tryz.underlying22 hi0 hz0 hz1 hz2 rfl (by decide) _ _ _ rfl (hrow.alloc _) ⟨wr.heap.size,0,none⟩ 1 1 [.int .u32 (c:Int)] rfl rfl (by exact cell_one wr _ 78) (by intro u hu; simp at hu; subst hu; rfl) (by unfold maxLen; omega) (by omega) (by simp; omega) ?_)
      intro v' w1 hown' hgrow hiff;have hb2:=grown_below (HB.out.alloc (by omega) _) (hrow.alloc _) hgrow (by simp; omega);rw[←HL.out]at hown';obtain⟨ro',rc',e,ho⟩:=own_append HD.out (by omega) hown';have hlen:(acc++[c]).length=i+1:=(by rw[List.length_append,HL.out]; rfl);rw[hlen]at e;subst e;have c3:=norm_any rc' ho.rd (by rw[hlen]; omega) ho.caps (fun e=>by subst e; exact ho.none_cap);rw[HVV.out,hlen]at c3;have HC:Hid _:=c3;have HB2:Hid _:=hb2;clear hown' hgrow hiff ho hb2 hrow c3 hlen
      go_wp2_with fail
      refine Calls.mono HC.out ?_;rintro e w2 ⟨so,sc,rfl,ho,hb3⟩;have HO:Hid _:=ho.lower HB2.out.size;have HB3:Hid _:=HB2.out.trans (hb3.mono HB2.out.size);clear ho hb3
      go_wp2
      go_ret
      exact⟨_,_,rfl,HO.out,HB3.out⟩
theorem zsa(d m:Nat)(h:d / 2^m%2=0):d ||| 2^m=d+2^m:=by
  have p:0<2^m:=Nat.pow_pos (by omega);obtain⟨hi,hhi⟩:∃hi,d / 2^m=2*hi:=⟨d / 2^m / 2,by generalize d / 2^m=z at *; omega⟩;obtain⟨lo,hlo⟩:∃lo,d%2^m=lo:=⟨_,rfl⟩;have hl:lo<2^m:=by rw[←hlo]; exact Nat.mod_lt _ p
  have e:d=hi*2^(m+1)+lo:=by
    have h1:=Nat.div_add_mod d (2^m);rw[hhi,hlo]at h1;rw[Nat.pow_succ,←Nat.mul_assoc,Nat.mul_comm (hi*2^m) 2,←h1]
    congr 1
    rw[Nat.mul_left_comm,Nat.mul_comm hi (2^m)]
  have hp1:lo<2^(m+1):=by rw[Nat.pow_succ]; omega
  have hp2:2^m+lo<2^(m+1):=by rw[Nat.pow_succ]; omega
  have o1:2^m ||| lo=2^m+lo:=by
    have:=or_add 1 lo m hl;rw[Nat.one_mul]at this;exact this
  rw[e,←or_add hi lo (m+1) hp1,Nat.or_assoc,Nat.or_comm lo,o1,or_add hi _ (m+1) hp2,or_add hi lo (m+1) hp1];omega
theorem jgd{l:List Nat}(hd:Dig l)(p:Nat):l.getD p 0=val l / pw p%4294967296:=by
  induction l generalizing p with
  | nil => simp [val]
  | cons d l ih =>
    have h1:=dig_cons.1 hd;cases p with
    | zero =>
      rw[pw_zero,Nat.div_one,val_cons];simp;omega
    | succ p =>
      rw[List.getD_cons_succ,ih h1.2,pw_succ,←Nat.div_div_eq_div_mul]
      congr 2
      rw[val_cons];omega
theorem zzj{l:List Nat}{Q j:Nat}(hd:Dig l)(h:val l=Q*2^(j+1)):l.getD (j / 32) 0 / 2^(j%32)%2=0:=by
  rw[jgd hd,bit_word,h,Nat.pow_succ,←Nat.mul_assoc,Nat.mul_comm Q,Nat.mul_assoc,Nat.mul_div_cancel_left _ (Nat.pow_pos (by omega))];omega
theorem zbj(x j:Nat):x / 2^j=2*(x / 2^(j+1))+x / 2^j%2:=by
  rw[Nat.pow_succ,←Nat.div_div_eq_div_mul];generalize x / 2^j=z;omega
theorem jge{x y Q r j:Nat}(h:x / 2^(j+1)=Q*y+r)(hge:y≤2*r+x / 2^j%2):x / 2^j=(2*Q+1)*y+(2*r+x / 2^j%2-y):=by
  have h1:=zbj x j;rw[h]at h1;rw[Nat.add_mul,Nat.one_mul,Nat.mul_assoc];rw[Nat.mul_add]at h1;generalize x / 2^j=z at *
  omega
theorem jmj{x y Q r j:Nat}(h:x / 2^(j+1)=Q*y+r):x / 2^j=2*Q*y+(2*r+x / 2^j%2):=by
  have h1:=zbj x j;rw[h]at h1;rw[Nat.mul_assoc];rw[Nat.mul_add]at h1;generalize x / 2^j=z at *
  omega

set_option maxRecDepth 1000000 in
theorem qni{w:World}{ao bo:Option Addr}{x y:Nat}(ca cb:Nat)(ha:Rd w ao (words x))(hb:Rd w bo (words y))(hx:(words x).length≤9000)(hy:(words y).length≤9000)(hy0:y≠0):
    Calls Tryz.prog 135 #[.slice ao (words x).length ca,.slice bo (words y).length cb] w (Row2 w (words (x / y)) (words (x%y))):=by
  obtain⟨n,HX⟩:∃n,Hid ((words x).length=n):=⟨_,rfl⟩;obtain⟨m,HY⟩:∃n,Hid ((words y).length=n):=⟨_,rfl⟩;have hbl:=bl_len (Nat.le_of_eq HX.out);have HY0:Hid (0<y):=Nat.pos_of_ne_zero hy0;rw[HX.out]at hx;rw[HY.out]at hy;rw[HX.out,HY.out];clear hy0;have hmk:=run_make_row' (P:=Tryz.prog) 22 78 (.int .u32 0) 4 Tryz.underlying22 infoU rfl .i64 .i64 n (by omega) (by omega);have b1:Below w.heap.size w ((w.alloc (.cells (madeCells #[.int .u32 0] n) 78)).alloc (.cells #[] 78)):=((Below.refl _ _).alloc (Nat.le_refl _) _).alloc (by simp) _;have oq:Own w.heap.size ((w.alloc (.cells (madeCells #[.int .u32 0] n) 78)).alloc (.cells #[] 78)) (some ⟨w.heap.size,0,none⟩) n (List.replicate n 0):=(Own.made w n (by omega)).alloc _;have zs:(w.alloc (.cells (madeCells #[.int .u32 0] n) 78)).heap.size=w.heap.size+1:=by simp
  have or0:Own (w.heap.size+1) ((w.alloc (.cells (madeCells #[.int .u32 0] n) 78)).alloc (.cells #[] 78)) (some ⟨w.heap.size+1,0,none⟩) 0 []:=by
    have:=World.ownsRow_made (e:=78) (size:=1) (base:=w.heap.size+1) (w.alloc (.cells (madeCells #[.int .u32 0] n) 78)) #[] 0 (by rw[zs]; exact Nat.le_refl _) (by decide) rfl;rw[zs]at this;exact⟨dig_nil,this⟩
  have c1:=size_any ca (ha.below b1) (by rw[HX.out]; omega);rw[HX.out]at c1;have HA:Hid _:=ha;have HRB:Hid _:=hb;have HC1:Hid _:=c1;have HB1:Hid _:=b1;have HOQ:Hid _:=oq;have HOR:Hid _:=or0;have HBL:Hid (x<2^bl x):=lt_bl x;obtain⟨bx,hbx⟩:∃b,bl x=b:=⟨_,rfl⟩;rw[hbx]at HC1 hbl HBL;clear ha hb c1 b1 oq or0 zs hbx
  go_enter Tryz.func135,Tryz.ntmps135
  go_wp2_with fail
  refine Calls.mono HC1.out ?_;rintro e w' ⟨rfl,hw'⟩;have hw':=hw'.symm;subst hw';clear HC1
  go_wp2
  go_loopw [7,8] (fun v7 v8 wr=>∃(kk r Q:Nat) (LQ:List Nat) (ro:Option Addr) (rc:Nat),kk≤bx∧v8=.int .i64 ((kk:Int)-1)∧v7=.slice ro (words r).length rc∧LQ.length=n∧Own w.heap.size wr (some ⟨w.heap.size,0,none⟩) n LQ∧Own (w.heap.size+1) wr ro rc (words r)∧Below w.heap.size w wr∧val LQ=Q*2^kk∧x / 2^kk=Q*y+r∧r<y) (fun _ v8 _=>(intOf v8+1).toNat)
  case atStart=>
    refine⟨bx,0,0,List.replicate n 0,some ⟨w.heap.size+1,0,none⟩,0,Nat.le_refl _,rfl,by rw[words_zero]; rfl,by simp,HOQ.out,by rw[words_zero]; exact HOR.out,HB1.out,by rw[val_replicate,Nat.zero_mul],?_,HY0.out⟩;rw[Nat.div_eq_of_lt HBL.out,Nat.zero_mul]
  case round=>
    obtain⟨kk,r,Q,LQ,ro,rc,hkk,rfl,rfl,hLQ,hoq,hor,hbw,hval,hdiv,hr⟩:=hrel;have HLQ:Hid _:=hLQ;have HVAL:Hid _:=hval;have HDIV:Hid _:=hdiv;have HRY:Hid _:=hr;clear hLQ hval hdiv hr;by_cases hk0:kk=0
    · subst hk0;have hfin:val LQ=x / y∧r=x%y:=by
        have h1:=HVAL.out;have h2:=HDIV.out;rw[Nat.pow_zero,Nat.mul_one]at h1;rw[Nat.pow_zero,Nat.div_one]at h2;have h3:=Nat.div_mod_unique (a:=x) (b:=y) (c:=r) (d:=Q) HY0.out;have h4:=h3.2 ⟨by rw[Nat.mul_comm]; omega,HRY.out⟩;exact⟨h1.trans h4.1.symm,h4.2.symm⟩
      have c1:=norm_any n hoq.rd (by rw[HLQ.out]; omega) hoq.caps (by simp);rw[hfin.1,HLQ.out]at c1;have HC1:Hid _:=c1;have HOR2:Hid _:=hor;have HBW:Hid _:=hbw;have HFin:Hid _:=hfin.2;clear c1 hfin hoq hor hbw
      go_wp2_with fail
      refine Calls.mono HC1.out ?_;rintro e w2 ⟨so,sc,rfl,ho,b2⟩;have HO2:Hid _:=ho.lower HBW.out.size;have HOR3:Hid _:=(HOR2.out.below b2).lower (Nat.le_succ w.heap.size);have HB2:Hid _:=chain2 HBW.out b2;clear ho b2 HC1
      go_wp2
      go_ret2
      have e:=HFin.out;subst e;exact⟨_,_,_,_,rfl,HO2.out,HOR3.out,HB2.out⟩
    · obtain⟨j,rfl⟩:∃j,kk=j+1:=⟨kk-1,by omega⟩;have e1:(((j+1:Nat):Int)-1)=(j:Int):=(by omega);simp only[e1];have c1:=bit_any ca j (HA.out.below hbw) (by omega);rw[HX.out]at c1;have hrl:(words r).length≤9000:=by
        have:=words_mono (Nat.le_of_lt HRY.out);rw[HY.out]at this;omega
      have hb1:x / 2^j%2≤1:=(by omega);have c2:=zrj (b:=x / 2^j%2) rc hor.rd (by omega) hb1;have HYES:Hid _:=@jge x y Q r j HDIV.out;have HNO:Hid _:=@jmj x y Q r j HDIV.out;obtain⟨bt,hbt⟩:∃b,x / 2^j%2=b:=⟨_,rfl⟩;rw[hbt]at c1 c2 hb1 HYES HNO;have HC1:Hid _:=c1;have HC2:Hid _:=c2;have HOQ2:Hid _:=hoq;have HBW:Hid _:=hbw;have HRL:Hid _:=hrl;have hsz:w.heap.size+1≤wr.heap.size:=Nat.succ_le_of_lt (hoq.lt _ rfl).2;clear c1 c2 hoq hor hbw hbt hrl
      go_wp2_with fail
      refine Calls.mono HC1.out ?_;rintro e w' ⟨rfl,hw'⟩;have hw':=hw'.symm;subst hw';clear HC1
      go_wp2_with fail
      refine Calls.mono HC2.out ?_;rintro e w2 ⟨do_,dc,rfl,od,b2⟩;have hdl:(words (2*r+bt)).length≤9001:=by
        apply words_length_le;have h1:=words_length_iff.1 HRL.out;have e:pw 9001=4294967296*pw 9000:=pw_succ 9000;generalize pw 9000=Z at *
        omega
      have HOD:Hid _:=od.lower hsz;have HOQ3:Hid _:=HOQ2.out.below b2;have HBW2:Hid _:=chain2 HBW.out b2;have hsz2:w.heap.size+1≤w2.heap.size:=Nat.le_trans hsz b2.size;have c3:=rorder_any dc cb od.rd (HRB.out.below HBW2.out) (by omega) (by rw[HY.out]; omega);rw[HY.out]at c3;clear od b2 HC2;by_cases hcmp:2*r+bt<y
      · rw[cmp_lt hcmp]at c3;have HC3:Hid _:=c3;have HCMP:Hid _:=hcmp;clear c3 hcmp
        go_wp2_with fail
        refine Calls.mono HC3.out ?_;rintro e w3 ⟨rfl,b3⟩;have HOD3:Hid _:=HOD.out.below b3;have HOQ4:Hid _:=HOQ3.out.below b3;have HBW3:Hid _:=chain2 HBW2.out b3;clear b3 HC3
        go_wp2
        go_roundw
        case rel=>
          refine⟨j,2*r+bt,2*Q,LQ,do_,dc,by omega,by go_num,rfl,HLQ.out,HOQ4.out,HOD3.out,HBW3.out,?_,HNO.out,HCMP.out⟩;rw[HVAL.out,Nat.pow_succ,←Nat.mul_assoc,Nat.mul_comm (Q*2^j) 2,Nat.mul_assoc]
        case measure=>simp only[intOf]; omega
      · have hge:=cmp_ge' hcmp;obtain⟨kc,hkc⟩:∃k,cmpN (2*r+bt) y=k:=⟨_,rfl⟩;rw[hkc]at c3 hge;have hge2:(0:Int)≤kc:=(by omega);have HC3:Hid _:=c3;have hyle:y≤2*r+bt:=Nat.le_of_not_lt hcmp;have HCMP:Hid _:=hyle;clear c3 hcmp hkc hge hyle
        go_wp2_with fail
        refine Calls.mono HC3.out ?_;rintro e w3 ⟨rfl,b3⟩;have c4:=rless_any dc cb (HOD.out.rd.below b3) (HRB.out.below (chain2 HBW2.out b3)) (by omega) HCMP.out;rw[HY.out]at c4;have HC4:Hid _:=c4;have HOQ4:Hid _:=HOQ3.out.below b3;have HBW3:Hid _:=chain2 HBW2.out b3;have hsz3:w.heap.size+1≤w3.heap.size:=Nat.le_trans hsz2 b3.size;clear b3 c4 HC3
        go_wp2_with fail
        refine Calls.mono HC4.out ?_;rintro e w4 ⟨so,sc,rfl,os,b4⟩;have HOS:Hid _:=os.lower hsz3;have hoq5:=HOQ4.out.below b4;have HBW4:Hid _:=chain2 HBW3.out b4;have k1:=hoq5.cell (j / 32) (by rw[HLQ.out]; omega);have k2:=hoq5.frozen (j / 32);have d1:=hoq5.dig.getD (j / 32);have HCL:Hid _:=zzj hoq5.dig HVAL.out;have HVS:Hid _:=val_set LQ (j / 32) (LQ.getD (j / 32) 0+2^(j%32)) (by rw[HLQ.out]; omega);obtain⟨d,hd⟩:∃d,LQ.getD (j / 32) 0=d:=⟨_,rfl⟩;rw[hd]at k1 d1 HCL HVS;have hp2:2^(j%32)<4294967296:=by
          have:=Nat.pow_lt_pow_right (show 1<2 by omega) (Nat.mod_lt j (show 0<32 by omega));exact this
        have horb:=zsa d (j%32) HCL.out;have hsum:d+2^(j%32)<4294967296:=by
          rw[←horb];exact Nat.or_lt_two_pow (n:=32) d1 hp2
        have hor:bits BinOp.or IntKind.u32 (d:Int) (2^(j%32)%4294967296)=((d+2^(j%32):Nat):Int):=by
          have e:((2:Int)^(j%32)%4294967296)=((2^(j%32):Nat):Int):=by
            have e2:((2:Int)^(j%32))=((2^(j%32):Nat):Int):=(by rw[Int.natCast_pow]; rfl);rw[e2];generalize 2^(j%32)=z at *
            omega
          rw[e,or_u32 _ _ d1 hp2,horb]
        have hset:=hoq5.set (j / 32) (d+2^(j%32)) hsum;have hgs:=hoq5.setG (j / 32) (d+2^(j%32));rw[←hor]at hset hgs;have HSet:Hid _:=hset;have HOS5:Hid _:=HOS.out.kept hgs (fun a ha e=>by have h1:=(HOS.out.lt a ha).1; simp only[Option.some.injEq]at e; omega);have HBW5:Hid _:=HBW4.out.setCell (p:=⟨w.heap.size,j / 32,none⟩) (Nat.le_refl _) (.int .u32 (bits BinOp.or IntKind.u32 (d:Int) (2^(j%32)%4294967296)));have HPW:Hid (pw (j / 32)*2^(j%32)=2^j):=by
          show pw (j / 32)*2^(j%32)=2^j;rw[pw_two,←Nat.pow_add]
          congr 1
          omega
        clear os b4 hoq5 hd HC4 hset hgs hor hsum horb
        go_wp2
        go_region
        all_goals
          go_wp2
          go_roundw
          case rel=>
            refine⟨j,2*r+bt-y,2*Q+1,LQ.set (j / 32) (d+2^(j%32)),so,sc,by omega,by go_num,rfl,by rw[List.length_set]; exact HLQ.out,HSet.out.drew,HOS5.out.drew,HBW5.out.drew,?_,HYES.out HCMP.out,?_⟩
            · have h1:=HVS.out;rw[Nat.mul_add,HPW.out,HVAL.out,Nat.pow_succ,←Nat.mul_assoc]at h1;rw[Nat.add_mul,Nat.one_mul,Nat.mul_assoc];generalize Q*2^j=A at *
              omega
            · have h1:=HRY.out;have h2:=HCMP.out;omega
          case measure=>simp only[intOf]; omega
end Go.Proofs.YtpckmgemfkiifaaGreatDoor
