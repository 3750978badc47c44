/- NatQ NatI ShiftRef ShiftRef2 GcdRef OverRef OverRef2 -/
import Derived.Test.YtgjohjfehgdgbaaGreatDoorNatP
import Derived.Test.YtgjohjfehgdgbaaGreatDoorNatH
import Derived.Test.YtgjohjfehgdgbaaGreatDoorNatM
import Derived.Test.YtgjohjfehgdgbaaGreatDoorNatZ
import Derived.Test.YtgjohjfehgdgbaaGreatDoorGcdMath
import Derived.Deep.LoopGhost
import Derived.Test.YtgjohjfehgdgbaaGreatDoorNatL
set_option linter.unusedVariables false
set_option linter.unusedSimpArgs false
set_option maxHeartbeats 1000000
namespace Go.Proofs.YtgjohjfehgdgbaaGreatDoor
open Go.RowKit
theorem jfb{a P c b:Nat}(h:a+P*c=b)(h2:b<P):a=b:=by
  have h3:c=0:=by
    apply Classical.byContradiction;intro hc;have:P*1≤P*c:=Nat.mul_le_mul_left _ (by omega);omega
  subst h3;omega
theorem jgb(acc a:List Nat)(W i r c:Nat)(hl:acc.length=W+i)(h:val acc+pw (W+i)*c=pw W*(val (a.take i)*2^r)):
    val (acc++[(c+a.getD i 0*2^r)%4294967296])+pw (W+(i+1))*((c+a.getD i 0*2^r) / 4294967296)=pw W*(val (a.take (i+1))*2^r):=by
  rw[val_snoc,hl,val_take_succ,Nat.add_mul,Nat.mul_add (pw W)];have e:=carry_step (pw (W+i)) (c+a.getD i 0*2^r);have e2:pw (W+(i+1))=4294967296*pw (W+i):=by rw[←Nat.add_assoc,pw_succ]
  have e3:pw W*(pw i*a.getD i 0*2^r)=pw (W+i)*(a.getD i 0*2^r):=by rw[pw_add]; simp only[Nat.mul_assoc]
  rw[e2,e3];rw[Nat.mul_add]at e;omega
theorem jgc{c d r:Nat}(hc:c<2^r)(hd:d<4294967296):(c+d*2^r) / 4294967296<2^r:=by
  rw[Nat.div_lt_iff_lt_mul (by omega)];have:(d+1)*2^r≤4294967296*2^r:=Nat.mul_le_mul_right _ (by omega);rw[Nat.add_mul,Nat.one_mul]at this;rw[Nat.mul_comm (2^r)];omega

set_option maxRecDepth 1000000 in
theorem zca{w:World}{ao:Option Addr}{x:Nat}(ca k:Nat)(ha:Rd w ao (words x))(hx:(words x).length≤100000)(hk:k≤1000000):
    Calls Tryz.prog 131 #[.slice ao (words x).length ca,.int .i64 (k:Int)] w (Row1 w (words (x*2^k))):=by
  obtain⟨i0,hi0,hz0,hz1,hz2⟩:=info_parts infoU;obtain⟨n,HX⟩:∃n,Hid ((words x).length=n):=⟨_,rfl⟩;rw[HX.out]at hx ⊢;obtain⟨W,hW⟩:∃W,k / 32=W:=⟨_,rfl⟩;obtain⟨r,hr⟩:∃r,k%32=r:=⟨_,rfl⟩;have hr32:r<32:=by omega
  have hWk:W≤100000:=by omega
  have e1:(k:Int) / 32=(W:Int):=by omega
  have e2:(k:Int)%32=(r:Int):=by omega
  have HKK:Hid (2^k=pw W*2^r):=by
    show 2^k=pw W*2^r;rw[pw_two,←Nat.pow_add]
    congr 1
    omega
  have hmk:=run_make_row' (P:=Tryz.prog) 22 99 (.int .u32 0) 4 Tryz.underlying22 infoU rfl .i64 .i64 W (by omega) (by omega);clear hW hr
  go_enter Tryz.func131,Tryz.ntmps131
  go_wp2
  go_loopw [5,6,7] (fun v5 v6 v7 wr=>∃(i c:Nat) (acc:List Nat) (ro:Option Addr) (rc:Nat),i≤n+1∧v7=.int .i64 (i:Int)∧v6=.int .u64 (c:Int)∧c<2^r∧v5=.slice ro (W+i) rc∧acc.length=W+i∧Own w.heap.size wr ro rc acc∧Below w.heap.size w wr∧val acc+pw (W+i)*c=pw W*(val ((words x).take i)*2^r)) (fun _ _ v7 _=>n+1-(intOf v7).toNat)
  case atStart=>
    refine⟨0,0,List.replicate W 0,some ⟨w.heap.size,0,none⟩,W,Nat.zero_le _,rfl,rfl,Nat.pow_pos (by omega),rfl,by simp,Own.made w W (by omega),(Below.refl _ w).alloc (Nat.le_refl _) _,by simp[val,val_replicate]⟩
  case round=>
    obtain⟨i,c,acc,ro,rc,hi,rfl,rfl,hc,rfl,hacc,hown,hbw,hv⟩:=hrel;have HV:Hid _:=hv;have HL:Hid _:=hacc;have HCc:Hid _:=hc;have hwsz:=hbw.size;have hc32:c<4294967296:=Nat.lt_of_lt_of_le hc (by have:=Nat.pow_le_pow_right (show 0<2 by omega) (show r≤32 by omega); omega);clear hv hacc hc;by_cases hin:i≤n
    · have c1:=rword_any ca i (ha.below hbw);rw[HX.out]at c1;have d1:=(words_dig x).getD i;have HS:Hid _:=jgb acc (words x) W i r c HL.out HV.out;obtain⟨d,hd⟩:∃d,(words x).getD i 0=d:=⟨_,rfl⟩;rw[hd]at c1 d1 HS;clear hd ha;have hrow:=hown.row;rw[HL.out]at hrow;have HD:Hid _:=hown.dig;have HB:Hid _:=hbw;have HU:Hid _:=jgc HCc.out d1;have s1:=shl_lt d r d1 hr32;obtain⟨p,hp⟩:∃p,d*2^r=p:=⟨_,rfl⟩;have hpI:(d:Int)*2^r=(p:Int):=(by rw[←hp,Int.natCast_mul,Int.natCast_pow]; rfl);have hor:bits BinOp.or IntKind.u64 (c:Int) (p:Int)=((c+p:Nat):Int):=by
        rw[or_u64 _ _ (by omega) (by omega),Nat.or_comm,←hp,or_add _ _ _ HCc.out,Nat.add_comm]
      rw[hp]at HS HU s1;obtain⟨t,ht⟩:∃t,c+p=t:=⟨_,rfl⟩;rw[ht]at hor HS HU;have htb:t≤18446744073709551615:=(by omega);clear hown hbw hp ht
      go_wp2_with fail
      refine c1.mono ?_;rintro e w' ⟨rfl,hw'⟩;have hw':=hw'.symm;subst hw';clear c1
      go_wp2_with (at_builtin; refine wpList_append_own _ rfl _ _ 22 rfl w.heap.size 99 i0 (.int .u32 0) 1 4 Tryz.underlying22 hi0 hz0 hz1 hz2 rfl (by decide) _ _ _ rfl (hrow.alloc _) ⟨wr.heap.size,0,none⟩ 1 1 [.int .u32 ((t%4294967296:Nat):Int)] rfl rfl (by exact cell_one wr _ 99) (by intro u hu; simp at hu; subst hu; rfl) (by unfold maxLen; omega) (by omega) (by simp; omega) ?_)
      intro v' w1 hown' hgrow hiff;have hb2:=grown_below (HB.out.alloc (by omega) _) (hrow.alloc _) hgrow (by simp; omega);rw[←HL.out]at hown';obtain⟨ro',rc',e,ho⟩:=own_append HD.out (Nat.mod_lt _ (by omega)) hown';subst e;have HO:Hid _:=ho;have HB2:Hid _:=hb2;clear hown' hgrow hiff ho hb2 hrow
      go_wp2
      go_roundw
      case rel=>
        refine⟨i+1,t / 4294967296,acc++[t%4294967296],ro',rc',by omega,by go_num,rfl,HU.out,by rw[List.length_append,HL.out]; rfl,by rw[List.length_append,HL.out]; rfl,HO.out,HB2.out,HS.out⟩
      case measure=>simp only[intOf]; omega
    · have e:i=n+1:=(by omega);subst e;have hval:val acc=x*2^k:=by
        have h1:=HV.out;rw[List.take_of_length_le (by rw[HX.out]; omega),val_words]at h1;rw[HKK.out,Nat.mul_left_comm];refine jfb h1 ?_;have h2:x<pw n:=(by have:=words_lt x; rw[HX.out]at this; exact this);have h3:2^r<pw 1:=by
          rw[show pw 1=2^32 from rfl];exact Nat.pow_lt_pow_right (by omega) hr32
        have h4:x*2^r<pw n*pw 1:=Nat.mul_lt_mul'' h2 h3;rw[←pw_add]at h4;rw[pw_add W];exact Nat.mul_lt_mul_of_pos_left h4 (pw_pos W)
      have c3:=norm_any rc hown.rd (by rw[HL.out]; omega) hown.caps (fun e=>by subst e; exact hown.none_cap);rw[hval,HL.out]at c3;have HC:Hid _:=c3;have HB:Hid _:=hbw;clear hval c3 hown hbw ha
      go_wp2_with fail
      refine Calls.mono HC.out ?_;rintro e w2 ⟨so,sc,rfl,ho,hb3⟩;have HO:Hid _:=ho.lower HB.out.size;have HB3:Hid _:=HB.out.trans (hb3.mono HB.out.size);clear ho hb3
      go_wp2
      go_ret
      exact⟨_,_,rfl,HO.out,HB3.out⟩
theorem zpb(acc:List Nat)(x W j r:Nat)(hl:acc.length=j)(hr:r<32)(h:val acc=x / (pw W*2^r)%pw j):
    val (acc++[((words x).getD (W+j+1) 0*4294967296+(words x).getD (W+j) 0) / 2^r%4294967296])=x / (pw W*2^r)%pw (j+1):=by
  have:=down_step (acc++[0]) x W j r (by simp[hl]) hr (by rw[List.take_append_of_le_length (by omega),List.take_of_length_le (by omega)]; exact h);rw[←this]
  congr 1
  rw[List.take_of_length_le (by simp[hl])];rw[List.set_append_right _ _ (by omega)];simp[hl]

set_option maxRecDepth 1000000 in
theorem zyi{w:World}{ao:Option Addr}{x:Nat}(ca k:Nat)(ha:Rd w ao (words x))(hx:(words x).length≤100000)(hk:k≤1000000):
    Calls Tryz.prog 151 #[.slice ao (words x).length ca,.int .i64 (k:Int)] w (Row1 w (words (x / 2^k))):=by
  obtain⟨i0,hi0,hz0,hz1,hz2⟩:=info_parts infoU;obtain⟨n,HX⟩:∃n,Hid ((words x).length=n):=⟨_,rfl⟩;rw[HX.out]at hx ⊢;obtain⟨W,hW⟩:∃W,k / 32=W:=⟨_,rfl⟩;obtain⟨r,hr⟩:∃r,k%32=r:=⟨_,rfl⟩;have hr32:r<32:=by omega
  have hWk:W≤100000:=by omega
  have e1:(k:Int) / 32=(W:Int):=by omega
  have e2:(k:Int)%32=(r:Int):=by omega
  have HKK:Hid (2^k=pw W*2^r):=by
    show 2^k=pw W*2^r;rw[pw_two,←Nat.pow_add]
    congr 1
    omega
  clear hW hr
  go_enter Tryz.func151,Tryz.ntmps151
  go_wp2
  go_loopw [5,6] (fun v5 v6 wr=>∃(j:Nat) (acc:List Nat) (ro:Option Addr) (rc:Nat),(W+j≤n∨j=0)∧v6=.int .i64 ((W+j:Nat):Int)∧v5=.slice ro j rc∧acc.length=j∧Own w.heap.size wr ro rc acc∧Below w.heap.size w wr∧val acc=x / (pw W*2^r)%pw j) (fun _ v6 _=>n-(intOf v6).toNat)
  case atStart=>
    refine⟨0,[],some ⟨w.heap.size,0,none⟩,0,.inr rfl,rfl,rfl,rfl,⟨dig_nil,World.ownsRow_made w #[] 0 (Nat.le_refl _) (by decide) rfl⟩,(Below.refl _ w).alloc (Nat.le_refl _) _,by simp[val,pw_zero,Nat.mod_one]⟩
  case round=>
    obtain⟨j,acc,ro,rc,hj,rfl,rfl,hacc,hown,hbw,hv⟩:=hrel;have HV:Hid _:=hv;have HL:Hid _:=hacc;have hwsz:=hbw.size;clear hv hacc;by_cases hin:W+j<n
    · have c1:=rword_any ca (W+j) (ha.below hbw);have c2:=rword_any ca (W+j+1) (ha.below hbw);rw[HX.out]at c1 c2;simp only[Int.natCast_add,Int.cast_ofNat_Int]at c1 c2;have d1:=(words_dig x).getD (W+j);have d2:=(words_dig x).getD (W+j+1);have HS:Hid _:=zpb acc x W j r HL.out hr32 HV.out;obtain⟨q,hq⟩:∃q,(words x).getD (W+j) 0=q:=⟨_,rfl⟩;obtain⟨p,hp⟩:∃p,(words x).getD (W+j+1) 0=p:=⟨_,rfl⟩;rw[hq]at c1 d1 HS;rw[hp]at c2 d2 HS;clear hq hp ha;have hrow:=hown.row;rw[HL.out]at hrow;have HD:Hid _:=hown.dig;have HB:Hid _:=hbw;have hor:=or_u64 q (p*4294967296) (by omega) (by omega);rw[Nat.or_comm,or_two p q d1]at hor;simp only[Int.natCast_mul,Int.cast_ofNat_Int]at hor;obtain⟨t,ht⟩:∃t,p*4294967296+q=t:=⟨_,rfl⟩;rw[ht]at HS;have horT:bits BinOp.or IntKind.u64 (q:Int) ((p:Int)*4294967296)=(t:Int):=(by rw[hor,←ht]);have htb:t≤18446744073709551615:=(by omega);have hdig:((t:Int) / 2^r%4294967296)=((t / 2^r%4294967296:Nat):Int):=(by rw[Int.natCast_emod,Int.natCast_ediv,Int.natCast_pow]; rfl);have HDG:Hid _:=hdig;clear hown hbw hor ht hdig;simp only[Int.natCast_add]
      go_wp2_with fail
      refine c1.mono ?_;rintro e w' ⟨rfl,hw'⟩;have hw':=hw'.symm;subst hw'
      go_wp2_with fail
      refine c2.mono ?_;rintro e w' ⟨rfl,hw'⟩;have hw':=hw'.symm;subst hw';clear c1 c2
      go_wp2_with (at_builtin; refine wpList_append_own _ rfl _ _ 22 rfl w.heap.size 99 i0 (.int .u32 0) 1 4 Tryz.underlying22 hi0 hz0 hz1 hz2 rfl (by decide) _ _ _ rfl (hrow.alloc _) ⟨wr.heap.size,0,none⟩ 1 1 [.int .u32 ((t:Int) / 2^r%4294967296)] rfl rfl (by exact cell_one wr _ 99) (by intro u hu; simp at hu; subst hu; rfl) (by unfold maxLen; omega) (by omega) (by simp; omega) ?_)
      intro v' w1 hown' hgrow hiff;have hb2:=grown_below (HB.out.alloc (by omega) _) (hrow.alloc _) hgrow (by simp; omega);rw[←HL.out,HDG.out]at hown';obtain⟨ro',rc',e,ho⟩:=own_append HD.out (Nat.mod_lt _ (by omega)) hown';subst e;have HO:Hid _:=ho;have HB2:Hid _:=hb2;clear hown' hgrow hiff ho hb2 hrow
      go_wp2
      go_roundw
      case rel=>
        refine⟨j+1,acc++[t / 2^r%4294967296],ro',rc',.inl (by omega),by go_num,by rw[List.length_append,HL.out]; rfl,by rw[List.length_append,HL.out]; rfl,HO.out,HB2.out,HS.out⟩
      case measure=>simp only[intOf]; omega
    · have hval:val acc=x / 2^k:=by
        rw[HV.out,HKK.out];apply Nat.mod_eq_of_lt;have h1:x<pw n:=(by have:=words_lt x; rw[HX.out]at this; exact this);have h2:x / (pw W*2^r)≤x / pw W:=by
          rw[←Nat.div_div_eq_div_mul];exact Nat.div_le_self _ _
        have h3:x / pw W<pw j:=by
          rw[Nat.div_lt_iff_lt_mul (pw_pos W),←pw_add];exact Nat.lt_of_lt_of_le h1 (pw_le (by omega))
        omega
      have c3:=norm_any rc hown.rd (by rw[HL.out]; omega) hown.caps (fun e=>by subst e; exact hown.none_cap);rw[hval,HL.out]at c3;have HC:Hid _:=c3;have HB:Hid _:=hbw;clear hval c3 hown hbw ha
      go_wp2_with fail
      refine Calls.mono HC.out ?_;rintro e w2 ⟨so,sc,rfl,ho,hb3⟩;have HO:Hid _:=ho.lower HB.out.size;have HB3:Hid _:=HB.out.trans (hb3.mono HB.out.size);clear ho hb3
      go_wp2
      go_ret
      exact⟨_,_,rfl,HO.out,HB3.out⟩
theorem ud: [1]=words 1:=by rw[words_pos (by omega)]; simp[words_zero]
theorem qyh{x i:Nat}(h:x%2^i=0)(h0:x≠0):i<bl x:=by
  have h1:=low_bound h h0;have h2:=lt_bl x;apply Classical.byContradiction;intro h3;have:=Nat.pow_le_pow_right (show 0<2 by omega) (Nat.le_of_not_lt h3);omega
theorem qoi{x i k:Nat}(hi:x / 2^i%2=1)(hk:x%2^k=0):k≤i:=by
  apply Classical.byContradiction;intro h;obtain⟨d,rfl⟩:∃d,k=i+1+d:=⟨k-(i+1),by omega⟩;have e:x / 2^i%2=0:=by
    have h1:2^(i+1+d)∣x:=Nat.dvd_of_mod_eq_zero hk;have h2:2^(i+1)∣x:=Nat.dvd_trans ⟨2^d,by rw[Nat.pow_add]⟩ h1;obtain⟨c,rfl⟩:=h2;rw[Nat.pow_succ,Nat.mul_assoc,Nat.mul_div_cancel_left _ (Nat.pow_pos (by omega))];omega
  omega
theorem jgd{x:Nat}(h:x≠0):bl x=1↔x=1:=by
  constructor
  · intro h1;have h2:=lt_bl x;rw[h1]at h2;omega
  · intro h1;subst h1;decide

set_option maxRecDepth 1000000 in
theorem qbf{w:World}{ao:Option Addr}{x:Nat}(ca:Nat)(ha:Rd w ao (words x))(hx:(words x).length≤30000)(h0:x≠0):
    Calls Tryz.prog 128 #[.slice ao (words x).length ca] w fun e w'=>∃n,x%2^n=0∧x / 2^n%2=1∧Row1 w (words (x / 2^n)) e w':=by
  obtain⟨n,HN⟩:∃n,Hid ((words x).length=n):=⟨_,rfl⟩;have hbl:=bl_len hx;rw[HN.out];have H0:Hid _:=h0;have HA:Hid _:=ha;have HX:Hid _:=hx;clear h0 ha hx
  go_enter Tryz.func128,Tryz.ntmps128
  go_wp2
  go_loopw [3] (fun v wr=>wr=w∧∃i:Nat,v=.int .i64 (i:Int)∧x%2^i=0) (fun v _=>bl x-(intOf v).toNat)
  case atStart=>exact⟨rfl,0,rfl,by rw[Nat.pow_zero,Nat.mod_one]⟩
  case round=>
    obtain⟨rfl,i,rfl,hi⟩:=hrel;have hlt:=qyh hi H0.out;have HI:Hid _:=hi;have c1:=bit_any ca i HA.out (by omega);rw[HN.out]at c1;clear hi;by_cases hb:x / 2^i%2=0
    · rw[hb]at c1;have HB:Hid _:=hb;have HC1:Hid _:=c1;clear hb c1
      go_wp2_with fail
      refine Calls.mono HC1.out ?_;rintro e w' ⟨rfl,hw'⟩;have hw':=hw'.symm;subst hw'
      go_wp2
      go_roundw
      case rel=>exact⟨trivial,i+1,by go_num,mod_two_succ HI.out HB.out⟩
      case measure=>simp only[intOf]; omega
    · have hb1:x / 2^i%2=1:=(by omega);rw[hb1]at c1;have HB:Hid _:=hb1;have HC1:Hid _:=c1;have c2:=zyi ca i HA.out (by have:=HX.out; omega) (by omega);rw[HN.out]at c2;have HC2:Hid _:=c2;clear hb hb1 c1 c2
      go_wp2_with fail
      refine Calls.mono HC1.out ?_;rintro e w' ⟨rfl,hw'⟩;have hw':=hw'.symm;subst hw'
      go_wp2_with fail
      refine Calls.mono HC2.out ?_;rintro e w2 ⟨ro,rc,rfl,ho,b2⟩;have HO:Hid _:=ho;have HB2:Hid _:=b2;clear ho b2
      go_wp2
      go_ret
      exact⟨i,HI.out,HB.out,_,_,rfl,HO.out,HB2.out⟩

set_option maxRecDepth 1000000 in
theorem qei{w:World}{ao bo:Option Addr}{x y:Nat}(ca cb:Nat)(ha:Rd w ao (words x))(hb:Rd w bo (words y))(hx:(words x).length≤10000)(hy:(words y).length≤10000)(cca:(words x).length≤ca)(ccb:(words y).length≤cb)(hna:ao=none→ca=0)(hnb:bo=none→cb=0):
    Calls Tryz.prog 104 #[.slice ao (words x).length ca,.slice bo (words y).length cb] w (Row1 w (words (Nat.gcd x y))):=by
  by_cases hx0:x=0
  · subst hx0;have c1:=norm_any cb hb (by omega) ccb hnb;rw[val_words]at c1;have e0:(words 0).length=0:=(by rw[words_zero]; rfl);rw[e0,Nat.gcd_zero_left];obtain⟨m,HM⟩:∃n,Hid ((words y).length=n):=⟨_,rfl⟩;rw[HM.out]at c1 ⊢;have HC1:Hid _:=c1;clear ha hb c1 hx hy cca ccb hna hnb e0
    go_enter Tryz.func104,Tryz.ntmps104
    go_wp2_with fail
    refine Calls.mono HC1.out ?_;rintro e w2 ⟨ro,rc,rfl,ho,b2⟩;have HO:Hid _:=ho;have HB2:Hid _:=b2;clear ho b2
    go_wp2
    go_ret
    exact⟨_,_,rfl,HO.out,HB2.out⟩
  · by_cases hy0:y=0
    · subst hy0;have c1:=norm_any ca ha (by omega) cca hna;rw[val_words]at c1;have e0:(words 0).length=0:=(by rw[words_zero]; rfl);rw[e0,Nat.gcd_zero_right];have hl0:(words x).length≠0:=fun e=>hx0 (words_eq_nil.1 (List.length_eq_zero_iff.1 e));obtain⟨n,HN⟩:∃n,Hid ((words x).length=n):=⟨_,rfl⟩;rw[HN.out]at c1 hl0 ⊢;have hl1:((n:Int)==0)=false:=(by simp; omega);have HC1:Hid _:=c1;clear ha hb c1 hx hy cca ccb hna hnb e0 hx0
      go_enter Tryz.func104,Tryz.ntmps104
      go_wp2_with fail
      refine Calls.mono HC1.out ?_;rintro e w2 ⟨ro,rc,rfl,ho,b2⟩;have HO:Hid _:=ho;have HB2:Hid _:=b2;clear ho b2
      go_wp2
      go_ret
      exact⟨_,_,rfl,HO.out,HB2.out⟩
    · have hl0:(words x).length≠0:=fun e=>hx0 (words_eq_nil.1 (List.length_eq_zero_iff.1 e));have hm0:(words y).length≠0:=fun e=>hy0 (words_eq_nil.1 (List.length_eq_zero_iff.1 e));have hblx:=bl_len hx;obtain⟨n,HN⟩:∃n,Hid ((words x).length=n):=⟨_,rfl⟩;obtain⟨m,HM⟩:∃n,Hid ((words y).length=n):=⟨_,rfl⟩;rw[HN.out]at hl0;rw[HM.out]at hm0;have hl1:((n:Int)==0)=false:=(by simp; omega);have hm1:((m:Int)==0)=false:=(by simp; omega);have HA:Hid _:=ha;have HRB:Hid _:=hb;have HX:Hid _:=hx;have HY:Hid _:=hy;have HX0:Hid _:=hx0;have HY0:Hid _:=hy0;rw[HN.out,HM.out];clear ha hb hx hy hx0 hy0 cca ccb hna hnb
      go_enter Tryz.func104,Tryz.ntmps104
      go_wp2
      go_loopw [5] (fun v wr=>wr=w∧∃i:Nat,v=.int .i64 (i:Int)∧x%2^i=0∧y%2^i=0) (fun v _=>bl x-(intOf v).toNat)
      case atStart=>exact⟨rfl,0,rfl,by rw[Nat.pow_zero,Nat.mod_one],by rw[Nat.pow_zero,Nat.mod_one]⟩
      case round=>
        obtain⟨hwr,i,rfl,hi,hj⟩:=hrel;have hwr:=hwr.symm;subst hwr;have hlt:=qyh hi HX0.out;have HI:Hid _:=hi;have HJ:Hid _:=hj;have c1:=bit_any ca i HA.out (by omega);have c2:=bit_any cb i HRB.out (by omega);rw[HN.out]at c1;rw[HM.out]at c2;clear hi hj;by_cases hboth:x / 2^i%2=0∧y / 2^i%2=0
        · rw[hboth.1]at c1;rw[hboth.2]at c2;have HB:Hid _:=hboth;have HC1:Hid _:=c1;have HC2:Hid _:=c2;clear hboth c1 c2
          go_wp2_with fail
          refine Calls.mono HC1.out ?_;rintro e w' ⟨rfl,hw'⟩;have hw':=hw'.symm;subst hw'
          go_wp2_with fail
          refine Calls.mono HC2.out ?_;rintro e w' ⟨rfl,hw'⟩;have hw':=hw'.symm;subst hw'
          go_wp2
          go_roundw
          case rel=>exact⟨trivial,i+1,by go_num,mod_two_succ HI.out HB.out.1,mod_two_succ HJ.out HB.out.2⟩
          case measure=>simp only[intOf]; omega
        · have HK:Hid (x / 2^i%2=1∨y / 2^i%2=1):=by
            show x / 2^i%2=1∨y / 2^i%2=1;omega
          have c3:=qbf ca HA.out (by have:=HX.out; omega) HX0.out;rw[HN.out]at c3;have HC3:Hid _:=c3;have hi5:i≤320000:=(by omega);clear c3 hlt hblx;rcases Nat.mod_two_eq_zero_or_one (x / 2^i)with hbx | hbx;all_goals
            rw[hbx]at c1;have HC1:Hid _:=c1;have HC2:Hid _:=c2;have hby:x / 2^i%2=1∨y / 2^i%2=1:=HK.out;have HC2':Hid (x / 2^i%2=0→y / 2^i%2=1):=fun h=>(by omega);clear c1 c2 hboth hby
            go_wp2_with fail
            refine Calls.mono HC1.out ?_;rintro e w' ⟨rfl,hw'⟩;have hw':=hw'.symm;subst hw';have HBX:Hid _:=hbx;clear hbx;first
            | (have c2 := HC2.out
               rw[HC2'.out HBX.out]at c2;have HC2y:Hid _:=c2;clear c2 HC2
               go_wp2_with fail
               refine Calls.mono HC2y.out ?_;rintro e w' ⟨rfl,hw'⟩;have hw':=hw'.symm;subst hw')
            | skip
            go_wp2_with fail
            refine Calls.mono HC3.out ?_;rintro e w3 ⟨i1,hi1,hi1o,ro,rc,rfl,ho3,b3⟩;have c4:=qbf cb (HRB.out.below b3) (by have:=HY.out; omega) HY0.out;rw[HM.out]at c4;have HC4:Hid _:=c4;have HB3:Hid _:=b3;have HO3:Hid _:=ho3;have HI1:Hid _:=hi1;have HI1o:Hid _:=hi1o;clear b3 ho3 hi1 hi1o c4 HC3
            go_wp2_with fail
            refine Calls.mono HC4.out ?_;rintro e w4 ⟨j1,hj1,hj1o,so,sc,rfl,ho4,b4⟩;have HO4:Hid _:=ho4.lower HB3.out.size;have HO34:Hid _:=HO3.out.below b4;have HB4:Hid _:=chain2 HB3.out b4;have HG:Hid (Nat.gcd x y=Nat.gcd (x / 2^i1) (y / 2^j1)*2^i):=gcd_twos HI1.out hj1 (qoi HI1o.out HI.out) (qoi hj1o HJ.out) (by
              rcases HK.out with h | h
              · left;exact Nat.le_antisymm (qoi h HI1.out) (qoi HI1o.out HI.out)
              · right;exact Nat.le_antisymm (qoi h hj1) (qoi hj1o HJ.out)) HI1o.out hj1o
            have HL3:Hid ((words (x / 2^i1)).length≤10000):=Nat.le_trans (words_mono (Nat.div_le_self _ _)) HX.out;have HL4:Hid ((words (y / 2^j1)).length≤10000):=Nat.le_trans (words_mono (Nat.div_le_self _ _)) HY.out;have HJ1o:Hid _:=hj1o;clear hj1 hj1o ho4 b4 HC4 HB3 HO3
            go_wp2
            go_loopg [0,1] (x / 2^i1+y / 2^j1) (fun g v0 v1 wr=>∃(a b:Nat) (po qo:Option Addr) (pc qc:Nat),g=a+b∧v0=.slice po (words a).length pc∧v1=.slice qo (words b).length qc∧Rd wr po (words a)∧Rd wr qo (words b)∧a%2=1∧b%2=1∧(words a).length≤10000∧(words b).length≤10000∧Nat.gcd x y=Nat.gcd a b*2^i∧Below w.heap.size w wr)
            case atStart=>exact⟨_,_,ro,so,rc,sc,rfl,rfl,rfl,HO34.out.rd,HO4.out.rd,HI1o.out,HJ1o.out,HL3.out,HL4.out,HG.out,HB4.out⟩
            case round=>
              obtain⟨a,b,po,qo,pc,qc,hg,rfl,rfl,hpa,hqb,oa,ob,la,lb,hgcd,hbw⟩:=hrel;have HGK:Hid _:=hg;have HGCD:Hid _:=hgcd;have HOA:Hid (a%2=1):=oa;have HOB:Hid (b%2=1):=ob;have HLA:Hid _:=la;have HLB:Hid _:=lb;have ha0:a≠0:=(by intro e; rw[e]at oa; omega);have hb0:b≠0:=(by intro e; rw[e]at ob; omega);have HA0:Hid _:=ha0;have HB0:Hid _:=hb0;have c5:=rorder_any pc qc hpa hqb (by omega) (by omega);have HPA:Hid _:=hpa;have HQB:Hid _:=hqb;have HBW:Hid _:=hbw;obtain⟨na,HNA⟩:∃n,Hid ((words a).length=n):=⟨_,rfl⟩;obtain⟨nb,HNB⟩:∃n,Hid ((words b).length=n):=⟨_,rfl⟩;rw[HNA.out,HNB.out]at c5;rw[HNA.out]at la;rw[HNB.out]at lb;rw[HNA.out,HNB.out];clear hg hgcd oa ob ha0 hb0 hpa hqb hbw;by_cases hab:a=b
              · subst hab;rw[cmp_eq]at c5;have HC5:Hid _:=c5;clear c5
                go_wp2_with fail
                refine Calls.mono HC5.out ?_;rintro e w5 ⟨rfl,b5⟩;have c6:=zca pc i (HPA.out.below b5) (by have:=HLA.out; omega) (by omega);rw[HNA.out]at c6;have HC6:Hid _:=c6;have HB5:Hid _:=chain2 HBW.out b5;clear b5 c6 HC5
                go_wp2_with fail
                refine Calls.mono HC6.out ?_;rintro e w6 ⟨uo,uc,rfl,ou,b6⟩;have HOU:Hid _:=ou.lower HB5.out.size;have HB6:Hid _:=chain2 HB5.out b6;clear ou b6 HC6
                go_wp2
                go_ret
                have e1:Nat.gcd x y=a*2^i:=(by rw[HGCD.out,Nat.gcd_self]);rw[e1];exact⟨_,_,rfl,HOU.out,HB6.out⟩
              · have hne:cmpN a b≠0:=by
                  unfold cmpN
                  split
                  · omega
                  · split<;>omega
                have hkb:cmpN a b=(if a<b then -1 else 1):=by
                  unfold cmpN
                  split
                  · rfl
                  · rw[if_pos (by omega)]
                have HKB:Hid _:=hkb;obtain⟨kc,hkc⟩:∃k,cmpN a b=k:=⟨_,rfl⟩;rw[hkc]at c5 hne HKB;have hne':(kc==0)=false:=(by simpa using hne);have HC5:Hid _:=c5;have HKC:Hid _:=hkc;have HAB:Hid _:=hab;clear c5 hab hne hkb hkc
                go_wp2_with fail
                refine Calls.mono HC5.out ?_;rintro e w5 ⟨rfl,b5⟩;have c6:=size_any pc (HPA.out.below b5) (by rw[HNA.out]; omega);have c7:=size_any qc (HQB.out.below b5) (by rw[HNB.out]; omega);rw[HNA.out]at c6;rw[HNB.out]at c7;have hbone:=jgd HA0.out;have hbone2:=jgd HB0.out;clear HC5;by_cases h1:a=1
                · rw[hbone.2 h1]at c6;have HC6:Hid _:=c6;have H1:Hid _:=h1;clear c6 c7 hbone hbone2 h1
                  go_wp2_with fail
                  refine Calls.mono HC6.out ?_;rintro e w' ⟨rfl,hw'⟩;have hw':=hw'.symm;subst hw';have HG1:Hid (Nat.gcd x y=2^i):=by
                    show Nat.gcd x y=2^i;rw[HGCD.out,H1.out,Nat.gcd_one_left,Nat.one_mul]
                  have l4:=Rd.lit1 w5 1 (by omega);have e4:Below w5.heap.size w5 (w5.alloc (.cells #[.int .u32 ((1:Nat):Int)] 99)):=(Below.refl _ _).alloc (Nat.le_refl _) _;rw[ud]at l4;have c7:=zca 1 i l4 (by rw[←ud]; simp) (by omega);rw[←ud,Nat.one_mul]at c7;have HC7:Hid _:=c7;have HB5:Hid _:=chain2 (chain2 HBW.out b5) e4;clear b5 l4 e4 c7
                  go_wp2_with fail
                  refine Calls.mono HC7.out ?_;rintro e w7 ⟨uo,uc,rfl,ou,b7⟩;have HOU:Hid _:=ou.lower HB5.out.size;have HB7:Hid _:=chain2 HB5.out b7;clear ou b7 HC7
                  go_wp2
                  go_ret
                  rw[HG1.out];exact⟨_,_,rfl,HOU.out,HB7.out⟩
                · have hb1:((bl a:Int)==1)=false:=by
                    have:bl a≠1:=fun e=>h1 (hbone.1 e);simp;omega
                  obtain⟨ba,HBA⟩:∃z,Hid (bl a=z):=⟨_,rfl⟩;rw[HBA.out]at c6 hb1;have HC6:Hid _:=c6;clear c6 hbone h1
                  go_wp2_with fail
                  refine Calls.mono HC6.out ?_;rintro e w' ⟨rfl,hw'⟩;have hw':=hw'.symm;subst hw';clear HC6;by_cases h2:b=1
                  · rw[hbone2.2 h2]at c7;have HC6:Hid _:=c7;have H1:Hid _:=h2;clear c7 hbone2 h2
                    go_wp2_with fail
                    refine Calls.mono HC6.out ?_;rintro e w' ⟨rfl,hw'⟩;have hw':=hw'.symm;subst hw';have HG1:Hid (Nat.gcd x y=2^i):=by
                      show Nat.gcd x y=2^i;rw[HGCD.out,H1.out,Nat.gcd_one_right,Nat.one_mul]
                    have l4:=Rd.lit1 w5 1 (by omega);have e4:Below w5.heap.size w5 (w5.alloc (.cells #[.int .u32 ((1:Nat):Int)] 99)):=(Below.refl _ _).alloc (Nat.le_refl _) _;rw[ud]at l4;have c7:=zca 1 i l4 (by rw[←ud]; simp) (by omega);rw[←ud,Nat.one_mul]at c7;have HC7:Hid _:=c7;have HB5:Hid _:=chain2 (chain2 HBW.out b5) e4;clear b5 l4 e4 c7
                    go_wp2_with fail
                    refine Calls.mono HC7.out ?_;rintro e w7 ⟨uo,uc,rfl,ou,b7⟩;have HOU:Hid _:=ou.lower HB5.out.size;have HB7:Hid _:=chain2 HB5.out b7;clear ou b7 HC7
                    go_wp2
                    go_ret
                    rw[HG1.out];exact⟨_,_,rfl,HOU.out,HB7.out⟩
                  · have hb2:((bl b:Int)==1)=false:=by
                      have:bl b≠1:=fun e=>h2 (hbone2.1 e);simp;omega
                    obtain⟨bb,HBB⟩:∃z,Hid (bl b=z):=⟨_,rfl⟩;rw[HBB.out]at c7 hb2;have HC7:Hid _:=c7;have c8:=rorder_any pc qc (HPA.out.below b5) (HQB.out.below b5) (by rw[HNA.out]; omega) (by rw[HNB.out]; omega);rw[HNA.out,HNB.out,HKC.out]at c8;clear c7 hbone2 h2
                    go_wp2_with fail
                    refine Calls.mono HC7.out ?_;rintro e w' ⟨rfl,hw'⟩;have hw':=hw'.symm;subst hw';clear HC7;by_cases hlt:a<b
                    · have hk1:kc=-1:=(by rw[HKB.out,if_pos hlt]);rw[hk1]at c8;have HC6:Hid _:=c8;have HLT:Hid _:=hlt;clear c8 hlt hk1 hne'
                      go_wp2_with fail
                      refine Calls.mono HC6.out ?_;rintro e w7 ⟨rfl,b7⟩;have c8:=rless_any qc pc ((HQB.out.below b5).below b7) ((HPA.out.below b5).below b7) (by rw[HNB.out]; omega) (Nat.le_of_lt HLT.out);rw[HNB.out,HNA.out]at c8;have HC8:Hid _:=c8;have HB7:Hid _:=chain2 (chain2 HBW.out b5) b7;have HRS:Hid _:=(HPA.out.below b5).below b7;clear b5 b7 c8 HC6
                      go_wp2_with fail
                      refine Calls.mono HC8.out ?_;rintro e w8 ⟨do_,dc,rfl,od,b8⟩;have hd0:b-a≠0:=(by have:=HLT.out; omega);have c9:=qbf dc od.rd (Nat.le_trans (words_mono (Nat.sub_le _ _)) (by rw[HNB.out]; omega)) hd0;have HC9:Hid _:=c9;have HB8:Hid _:=chain2 HB7.out b8;have HRS8:Hid _:=HRS.out.below b8;clear od b8 c9 hd0 HC8
                      go_wp2_with fail
                      refine Calls.mono HC9.out ?_;rintro e w9 ⟨k9,hk9,ho9,fo,fc,rfl,of,b9⟩;have HOF:Hid _:=of;have HRS9:Hid _:=HRS8.out.below b9;have HB9:Hid _:=chain2 HB8.out b9;have HK9:Hid _:=hk9;have HO9:Hid _:=ho9;clear of b9 hk9 ho9 HC9
                      go_wp2
                      go_roundg ((b-a) / 2^k9+a)
                      case measure=>
                        have h1:(b-a) / 2^k9≤b-a:=Nat.div_le_self _ _;have h2:=HLT.out;have h3:=Nat.pos_of_ne_zero HA0.out;have h4:=HGK.out;omega
                      case rel=>
                        refine⟨(b-a) / 2^k9,a,fo,po,fc,pc,rfl,rfl,by rw[HNA.out],HOF.out.rd,HRS9.out,HO9.out,HOA.out,?_,HLA.out,?_,HB9.out⟩
                        · exact Nat.le_trans (words_mono (Nat.le_trans (Nat.div_le_self _ _) (Nat.sub_le _ _))) HLB.out
                        · rw[gcd_less (Nat.le_of_lt HLT.out) HOA.out HK9.out,Nat.gcd_comm b a];exact HGCD.out
                    · have hk1:kc=1:=(by rw[HKB.out,if_neg hlt]);rw[hk1]at c8;have HC6:Hid _:=c8;have HLT:Hid (b<a):=Nat.lt_of_le_of_ne (Nat.le_of_not_lt hlt) (fun e=>HAB.out e.symm);clear c8 hlt hk1 hne'
                      go_wp2_with fail
                      refine Calls.mono HC6.out ?_;rintro e w7 ⟨rfl,b7⟩;have c8:=rless_any pc qc ((HPA.out.below b5).below b7) ((HQB.out.below b5).below b7) (by rw[HNA.out]; omega) (Nat.le_of_lt HLT.out);rw[HNA.out,HNB.out]at c8;have HC8:Hid _:=c8;have HB7:Hid _:=chain2 (chain2 HBW.out b5) b7;have HRS:Hid _:=(HQB.out.below b5).below b7;clear b5 b7 c8 HC6
                      go_wp2_with fail
                      refine Calls.mono HC8.out ?_;rintro e w8 ⟨do_,dc,rfl,od,b8⟩;have hd0:a-b≠0:=(by have:=HLT.out; omega);have c9:=qbf dc od.rd (Nat.le_trans (words_mono (Nat.sub_le _ _)) (by rw[HNA.out]; omega)) hd0;have HC9:Hid _:=c9;have HB8:Hid _:=chain2 HB7.out b8;have HRS8:Hid _:=HRS.out.below b8;clear od b8 c9 hd0 HC8
                      go_wp2_with fail
                      refine Calls.mono HC9.out ?_;rintro e w9 ⟨k9,hk9,ho9,fo,fc,rfl,of,b9⟩;have HOF:Hid _:=of;have HRS9:Hid _:=HRS8.out.below b9;have HB9:Hid _:=chain2 HB8.out b9;have HK9:Hid _:=hk9;have HO9:Hid _:=ho9;clear of b9 hk9 ho9 HC9
                      go_wp2
                      go_roundg ((a-b) / 2^k9+b)
                      case measure=>
                        have h1:(a-b) / 2^k9≤a-b:=Nat.div_le_self _ _;have h2:=HLT.out;have h3:=Nat.pos_of_ne_zero HB0.out;have h4:=HGK.out;omega
                      case rel=>
                        refine⟨(a-b) / 2^k9,b,fo,qo,fc,qc,rfl,rfl,by rw[HNB.out],HOF.out.rd,HRS9.out,HO9.out,HOB.out,?_,HLB.out,?_,HB9.out⟩
                        · exact Nat.le_trans (words_mono (Nat.le_trans (Nat.div_le_self _ _) (Nat.sub_le _ _))) HLA.out
                        · rw[gcd_less (Nat.le_of_lt HLT.out) HOB.out HK9.out];exact HGCD.out

end Go.Proofs.YtgjohjfehgdgbaaGreatDoor
