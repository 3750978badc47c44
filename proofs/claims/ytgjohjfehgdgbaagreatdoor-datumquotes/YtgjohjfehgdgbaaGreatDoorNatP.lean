/- NatP -/
import Derived.Test.YtgjohjfehgdgbaaGreatDoorNatG
import Derived.Test.YtgjohjfehgdgbaaGreatDoorBits
namespace Go.Proofs.YtgjohjfehgdgbaaGreatDoor
open Go.RowKit
set_option linter.unusedVariables false
set_option linter.unusedSimpArgs false

theorem getD_set_eq(l:List Nat)(i d:Nat)(h:i<l.length):(l.set i d).getD i 0=d:=by simp[h]
theorem or_low(h a r:Nat)(hr:r<32)(hh:h<2^r):(h ||| (a*2^r%4294967296))=h+a*2^r%4294967296:=by
  have e:a*2^r%4294967296=(a%2^(32-r))*2^r:=by
    have e2:4294967296=2^(32-r)*2^r:=(by rw[←Nat.pow_add,show 32-r+r=32 by omega]);rw[e2,Nat.mul_mod_mul_right]
  rw[e,Nat.or_comm,or_add _ _ _ hh,Nat.add_comm]
theorem low_lt(h a r:Nat)(hr:r<32)(hh:h<2^r):h+a*2^r%4294967296<4294967296:=by
  rw[←or_low h a r hr hh];have h1:h<2^32:=Nat.lt_of_lt_of_le hh (Nat.pow_le_pow_right (by omega) (by omega));exact Nat.or_lt_two_pow (n:=32) h1 (Nat.mod_lt _ (by omega))
theorem high_lt(a r:Nat)(ha:a<4294967296):a*2^r / 4294967296<2^r:=by
  rw[Nat.div_lt_iff_lt_mul (by omega),Nat.mul_comm];exact Nat.mul_lt_mul_of_pos_left ha (Nat.pow_pos (by omega))
theorem shl_lt(a r:Nat)(ha:a<4294967296)(hr:r<32):a*2^r≤9223372034707292160:=by
  have h1:2^r≤2^31:=Nat.pow_le_pow_right (by omega) (by omega);have h2:a*2^r≤4294967295*2^31:=Nat.mul_le_mul (by omega) h1;omega
theorem up_step(L a:List Nat)(W i r:Nat)(hi:W+i+1<L.length)(hr:r<32)(hv:val L=pw W*(val (a.take i)*2^r))(h1:L.getD (W+i) 0<2^r)(h0:L.getD (W+i+1) 0=0):
    val ((L.set (W+i) (L.getD (W+i) 0+a.getD i 0*2^r%4294967296)).set (W+i+1) (a.getD i 0*2^r / 4294967296))=pw W*(val (a.take (i+1))*2^r):=by
  have e1:=val_set L (W+i) (L.getD (W+i) 0+a.getD i 0*2^r%4294967296) (by omega);have e2:=val_set (L.set (W+i) (L.getD (W+i) 0+a.getD i 0*2^r%4294967296)) (W+i+1) (a.getD i 0*2^r / 4294967296) (by rw[List.length_set]; omega);rw[getD_set_ne _ _ _ _ (by omega),h0]at e2;have e3:=carry_step (pw (W+i)) (a.getD i 0*2^r);rw[pw_succ]at e2;rw[Nat.mul_add]at e1;have e4:pw W*(val (a.take (i+1))*2^r)=val L+pw (W+i)*(a.getD i 0*2^r):=by
    rw[val_take_succ,Nat.add_mul,Nat.mul_add,hv,pw_add];simp only[Nat.mul_assoc]
  rw[e4];omega

set_option maxHeartbeats 2000000 in
set_option maxRecDepth 1000000 in
theorem shiftUp_any{w:World}{ao:Option Addr}{x:Nat}(ca k:Nat)(ha:Rd w ao (words x))(hx:(words x).length≤100000)(hk:k≤1000000):
    Calls Tryz.prog 166 #[.slice ao (words x).length ca,.int .i64 (k:Int)] w (Row1 w (words (x*2^k))):=by
  obtain⟨n,HX⟩:∃n,Hid ((words x).length=n):=⟨_,rfl⟩;rw[HX.out]at hx ⊢;obtain⟨W,hW⟩:∃W,k / 32=W:=⟨_,rfl⟩;obtain⟨r,hr⟩:∃r,k%32=r:=⟨_,rfl⟩;have hr32:r<32:=by omega
  have hWk:W≤100000:=by omega
  have e1:(k:Int) / 32=(W:Int):=by omega
  have e2:(k:Int)%32=(r:Int):=by omega
  have HKK:Hid (2^k=pw W*2^r):=by
    show 2^k=pw W*2^r;rw[pw_two,←Nat.pow_add]
    congr 1
    omega
  have hmk:=run_make_row' (P:=Tryz.prog) 22 99 (.int .u32 0) 4 Tryz.underlying22 infoU rfl .i64 .i64 (W+n+1) (by omega) (by omega);simp only[Int.natCast_add,Int.cast_ofNat_Int]at hmk;clear hW hr
  go_enter Tryz.func166,Tryz.ntmps166
  go_wp2
  go_loopw [22] (fun v wr=>∃(i:Nat) (L:List Nat),i≤n∧v=.int .i64 (i:Int)∧L.length=W+n+1∧Own w.heap.size wr (some ⟨w.heap.size,0,none⟩) (W+n+1) L∧Below w.heap.size w wr∧val L=pw W*(val ((words x).take i)*2^r)∧L.getD (W+i) 0<2^r∧∀p,W+i<p→L.getD p 0=0) (fun v _=>n-(intOf v).toNat)
  case atStart=>
    have hz:∀p,(List.replicate (W+n+1) 0).getD p 0=0:=by
      intro p;simp only[List.getD_eq_getElem?_getD,List.getElem?_replicate]
      split<;>rfl
    exact⟨0,List.replicate (W+n+1) 0,Nat.zero_le _,rfl,by simp,Own.made w (W+n+1) (by omega),(Below.refl _ w).alloc (Nat.le_refl _) _,by simp[val_replicate,val],by rw[hz]; exact Nat.pow_pos (by omega),fun p _=>hz p⟩
  case round=>
    obtain⟨i,L,hi,rfl,hL,hown,hbw,hv,hcar,hz⟩:=hrel;have HV:Hid _:=hv;have HL:Hid _:=hL;have HZ:Hid _:=hz;have HCar:Hid _:=hcar;clear hv hL hz hcar;by_cases hin:i<n
    · have ha':=ha.below hbw;obtain⟨b1,o1,rfl,_,hc1⟩:=ha'.pos (by intro e; have:=HX.out; rw[e]at this; simp at this; omega);have k0:=hc1 i (by rw[HX.out]; omega);have k1:=hown.cell (W+i) (by rw[HL.out]; omega);have k2:=hown.frozen (W+i);have d0:=(words_dig x).getD i;have d1:=hown.dig.getD (W+i);have HS:Hid _:=up_step L (words x) W i r (by rw[HL.out]; omega) hr32 HV.out HCar.out (HZ.out _ (by omega));have k3:=hown.cell (W+i+1) (by rw[HL.out]; omega);have k4:=hown.frozen (W+i+1);obtain⟨d,hd⟩:∃d,(words x).getD i 0=d:=⟨_,rfl⟩;obtain⟨h,hh⟩:∃h,L.getD (W+i) 0=h:=⟨_,rfl⟩;rw[hd]at k0 d0 HS;rw[hh]at k1 d1 HS HCar;clear hd hh hc1 ha';have hset:=hown.set (W+i) (h+d*2^r%4294967296) (low_lt h d r hr32 HCar.out);have hset2:=hset.set (W+i+1) (d*2^r / 4294967296) (by have:=shl_lt d r d0 hr32; omega);have hb2:=(hbw.setCell (p:=⟨w.heap.size,W+i,none⟩) (Nat.le_refl _) (.int .u32 ((h+d*2^r%4294967296:Nat):Int))).setCell (p:=⟨w.heap.size,W+i+1,none⟩) (Nat.le_refl _) (.int .u32 ((d*2^r / 4294967296:Nat):Int));have s1:=shl_lt d r d0 hr32;have s1i:(d:Int)*2^r≤9223372034707292160∧0≤(d:Int)*2^r:=by
        have e:(d:Int)*2^r=((d*2^r:Nat):Int):=(by rw[Int.natCast_mul,Int.natCast_pow]; rfl);rw[e];omega
      have hor:bits BinOp.or IntKind.u32 (h:Int) ((d:Int)*2^r%4294967296)=((h+d*2^r%4294967296:Nat):Int):=by
        have e:(d:Int)*2^r%4294967296=((d*2^r%4294967296:Nat):Int):=(by rw[Int.natCast_emod,Int.natCast_mul,Int.natCast_pow]; rfl);rw[e,or_u32 _ _ d1 (Nat.mod_lt _ (by omega)),or_low h d r hr32 HCar.out]
      simp only[Int.natCast_add,Int.natCast_emod,Int.natCast_mul,Int.natCast_pow,Int.natCast_ediv,Int.cast_ofNat_Int]at hset2 hb2;have HSet:Hid _:=hset2;have HB:Hid _:=hb2;clear hset hset2 hb2 hown hbw ha
      go_wp2
      go_roundw
      case rel=>
        refine⟨i+1,(L.set (W+i) (h+d*2^r%4294967296)).set (W+i+1) (d*2^r / 4294967296),by omega,by go_num,by rw[List.length_set,List.length_set]; exact HL.out,HSet.out,HB.out,HS.out,?_,fun p hp=>?_⟩
        · rw[show W+(i+1)=W+i+1 by omega,getD_set_eq _ _ _ (by rw[List.length_set,HL.out]; omega)];exact high_lt d r d0
        · rw[getD_set_ne _ _ _ _ (by omega),getD_set_ne _ _ _ _ (by omega)];exact HZ.out p (by omega)
      case measure=>simp only[intOf]; omega
    · have e:i=n:=(by omega);subst e;have hval:val L=x*2^k:=by
        have h1:=HV.out;rw[List.take_of_length_le (by rw[HX.out]; omega),val_words]at h1;rw[h1,HKK.out,Nat.mul_left_comm]
      have c1:=trim_any hown (by rw[HL.out]; omega);rw[hval,HL.out]at c1;have HC:Hid _:=c1;have HB:Hid _:=hbw;clear hval c1 hown hbw ha
      go_wp2_with fail
      refine Calls.mono HC.out ?_;rintro e w' ⟨rfl,ho,rfl⟩;have HO:Hid _:=ho;clear ho
      go_wp2
      go_ret
      exact⟨_,_,rfl,HO.out,HB.out⟩

theorem down_step(L:List Nat)(x W i r:Nat)(hi:i<L.length)(hr:r<32)(h:val (L.take i)=x / (pw W*2^r)%pw i):
    val ((L.set i (((words x).getD (W+i+1) 0*4294967296+(words x).getD (W+i) 0) / 2^r%4294967296)).take (i+1))=x / (pw W*2^r)%pw (i+1):=by
  rw[val_set_take L i _ hi,h,pw_succ,Nat.mul_comm 4294967296 (pw i),Nat.mod_mul]
  congr 2
  rw[words_getD,words_getD];have e1:x / (pw W*2^r) / pw i=x / pw (W+i) / 2^r:=by
    rw[Nat.div_div_eq_div_mul,Nat.div_div_eq_div_mul,pw_add,Nat.mul_assoc,Nat.mul_comm (2^r) (pw i),Nat.mul_assoc]
  have e2:x / pw (W+i+1)=x / pw (W+i) / 4294967296:=by
    rw[Nat.div_div_eq_div_mul,pw_succ,Nat.mul_comm]
  rw[e1,e2];generalize x / pw (W+i)=y;have e3:y / 4294967296%4294967296*4294967296+y%4294967296=y%18446744073709551616:=by omega
  rw[e3];have e4:y%18446744073709551616 / 2^r%4294967296=y / 2^r%4294967296:=by
    have h1:18446744073709551616=2^r*(2^(32-r)*4294967296):=by
      rw[←Nat.mul_assoc,←Nat.pow_add,show r+(32-r)=32 by omega]
    have h2:y%(2^r*(2^(32-r)*4294967296)) / 2^r=y / 2^r%(2^(32-r)*4294967296):=Nat.mod_mul_right_div_self _ _ _;rw[h1,h2,Nat.mod_mul_left_mod]
  rw[e4]

theorem or_two(p q:Nat)(hq:q<4294967296):(p*4294967296 ||| q)=p*4294967296+q:=or_add p q 32 hq

set_option maxHeartbeats 2000000 in
set_option maxRecDepth 1000000 in
theorem shiftDown_any{w:World}{ao:Option Addr}{x:Nat}(ca k:Nat)(ha:Rd w ao (words x))(hx:(words x).length≤100000)(hk:k≤1000000):
    Calls Tryz.prog 168 #[.slice ao (words x).length ca,.int .i64 (k:Int)] w (Row1 w (words (x / 2^k))):=by
  obtain⟨n,HX⟩:∃n,Hid ((words x).length=n):=⟨_,rfl⟩;rw[HX.out]at hx ⊢;obtain⟨W,hW⟩:∃W,k / 32=W:=⟨_,rfl⟩;obtain⟨r,hr⟩:∃r,k%32=r:=⟨_,rfl⟩;have hr32:r<32:=by omega
  have hWk:W≤100000:=by omega
  have e1:(k:Int) / 32=(W:Int):=by omega
  have e2:(k:Int)%32=(r:Int):=by omega
  have HKK:Hid (2^k=pw W*2^r):=by
    show 2^k=pw W*2^r;rw[pw_two,←Nat.pow_add]
    congr 1
    omega
  clear hW hr;obtain⟨m,hm,hor⟩:∃m:Nat,m=n-W∧((W≤n∧((n:Int)-W)=m)∨(n<W∧m=0)):=⟨n-W,rfl,by omega⟩;have hmk:=run_make_row' (P:=Tryz.prog) 22 99 (.int .u32 0) 4 Tryz.underlying22 infoU rfl .i64 .i64 m (by omega) (by omega);have HMM:Hid _:=hm;clear hm;have HEnd:Hid (x / (pw W*2^r)%pw m=x / 2^k):=by
    show x / (pw W*2^r)%pw m=x / 2^k;rw[HKK.out];apply Nat.mod_eq_of_lt;have h1:x<pw n:=(by have:=words_lt x; rw[HX.out]at this; exact this);have h2:x / (pw W*2^r)≤x / pw W:=by
      rw[←Nat.div_div_eq_div_mul];exact Nat.div_le_self _ _
    have h3:x / pw W<pw m:=by
      rw[Nat.div_lt_iff_lt_mul (pw_pos W),←pw_add];exact Nat.lt_of_lt_of_le h1 (pw_le (by rw[HMM.out]; omega))
    omega
  have hmn:m≤n:=by rw[HMM.out]; omega
  have hsum:W+m≤n∨m=0:=by rw[HMM.out]; omega
  rcases hor with⟨hWn,hnm⟩ | ⟨hWn,hm0⟩;all_goals
    first
    | (subst hm0
       have hmk0:∀w,(Instr.makeSlice 22 (.int .i64 0) (.int .i64 0)).run Tryz.prog w=.ok (.slice (some ⟨w.heap.size,0,none⟩) 0 0) (w.alloc (.cells (madeCells #[.int .u32 0] 0) 99)):=hmk;clear hmk
       go_enter Tryz.func168,Tryz.ntmps168)
    | go_enter Tryz.func168, Tryz.ntmps168
    go_wp2
  · try simp only[e1,e2]
    go_loopw [22] (fun v wr=>∃(i:Nat) (L:List Nat),i≤m∧v=.int .i64 (i:Int)∧L.length=m∧Own w.heap.size wr (some ⟨w.heap.size,0,none⟩) m L∧Below w.heap.size w wr∧val (L.take i)=x / (pw W*2^r)%pw i) (fun v _=>m-(intOf v).toNat)
    case atStart=>exact⟨0,List.replicate m 0,Nat.zero_le _,rfl,by simp,Own.made w m (by omega),(Below.refl _ w).alloc (Nat.le_refl _) _,by simp[val,pw_zero,Nat.mod_one]⟩
    case round=>
      obtain⟨i,L,hi,rfl,hL,hown,hbw,hv⟩:=hrel;have HV:Hid _:=hv;have HL:Hid _:=hL;clear hv hL;by_cases hin:i<m
      · have ha':=ha.below hbw;have c1:=wordAt_any ca (W+i+1) ha'.drew;obtain⟨b1,o1,rfl,_,hc1⟩:=ha'.pos (by intro e; have:=HX.out; rw[e]at this; simp at this; omega);have k0:=hc1 (W+i) (by rw[HX.out]; omega);have k1:=hown.cell i (by rw[HL.out]; omega);have k2:=hown.frozen i;rw[HX.out]at c1;simp only[Int.natCast_add,Int.cast_ofNat_Int]at c1;have d1:=(words_dig x).getD (W+i);have d2:=(words_dig x).getD (W+i+1);have HS:Hid _:=down_step L x W i r (by rw[HL.out]; omega) hr32 HV.out;obtain⟨q,hq⟩:∃q,(words x).getD (W+i) 0=q:=⟨_,rfl⟩;obtain⟨p,hp⟩:∃p,(words x).getD (W+i+1) 0=p:=⟨_,rfl⟩;rw[hq]at k0 d1 HS;rw[hp]at c1 d2 HS;clear hq hp hc1 ha';have hset:=hown.set i ((p*4294967296+q) / 2^r%4294967296) (Nat.mod_lt _ (by omega));have hb2:=hbw.setCell (p:=⟨w.heap.size,i,none⟩) (Nat.le_refl _) (.int .u32 (((p*4294967296+q) / 2^r%4294967296:Nat):Int));simp only[Int.natCast_add,Int.natCast_emod,Int.natCast_mul,Int.natCast_pow,Int.natCast_ediv,Int.cast_ofNat_Int]at hset hb2;have hor:=or_u64 (p*4294967296) q (by omega) (by omega);rw[or_two p q d1]at hor;simp only[Int.natCast_add,Int.natCast_mul,Int.cast_ofNat_Int]at hor;have w1:=wrapI ((W:Int)+i) (by omega) (by omega);have w2:=wrapI ((W:Int)+i+1) (by omega) (by omega);have w3:IntKind.u64.wrap ((p:Int)*4294967296)=(p:Int)*4294967296:=by
          have:=wrap_u64 (p*4294967296) (by omega);simpa using this
        have q4:((W:Int)+i).toNat=W+i:=(by omega);have q5:(0:Int)≤(W:Int)+i:=(by omega);have q6:(W:Int)+i<(n:Int):=(by omega);have HC:Hid _:=c1;have HSet:Hid _:=hset;have HB:Hid _:=hb2;clear hset hb2 hown hbw ha c1
        go_wp2_with fail
        go_region_with (go_at_call 176; refine Calls.mono HC.out ?_; rintro e w' ⟨rfl,rfl⟩)
        all_goals
          try simp only[hor]
          go_wp2
          try simp only[hor]
          go_roundw
          case rel=>exact⟨i+1,L.set i ((p*4294967296+q) / 2^r%4294967296),by omega,by go_num,by rw[List.length_set]; exact HL.out,HSet.out.drew,HB.out.drew,HS.out⟩
          case measure=>simp only[intOf]; omega
      · have e:i=m:=(by omega);subst e;have hval:val L=x / 2^k:=by
          have h1:=HV.out;rw[List.take_of_length_le (by rw[HL.out]; omega),HEnd.out]at h1;exact h1
        have c1:=trim_any hown (by rw[HL.out]; omega);rw[hval,HL.out]at c1;have HC:Hid _:=c1;have HB:Hid _:=hbw;clear hval c1 hown hbw ha
        go_wp2_with fail
        refine Calls.mono HC.out ?_;rintro e w' ⟨rfl,ho,rfl⟩;have HO:Hid _:=ho;clear ho
        go_wp2
        go_ret
        exact⟨_,_,rfl,HO.out,HB.out⟩
  · go_loopw [22] (fun v wr=>v=.int .i64 0∧Own w.heap.size wr (some ⟨w.heap.size,0,none⟩) 0 []∧Below w.heap.size w wr) (fun v _=>0)
    case atStart=>exact⟨rfl,Own.made w 0 (by omega),(Below.refl _ w).alloc (Nat.le_refl _) _⟩
    case round=>
      obtain⟨rfl,hown,hbw⟩:=hrel;have hval:val []=x / 2^k:=by
        have h1:=HEnd.out;rw[pw_zero,Nat.mod_one]at h1;exact h1
      have c1:=trim_any hown (by simp);rw[hval]at c1;have HC:Hid _:=c1;have HB:Hid _:=hbw;clear hval c1 hown hbw ha
      go_wp2_with fail
      refine Calls.mono HC.out ?_;rintro e w' ⟨rfl,ho,rfl⟩;have HO:Hid _:=ho;clear ho
      go_wp2
      go_ret
      exact⟨_,_,rfl,HO.out,HB.out⟩
end Go.Proofs.YtgjohjfehgdgbaaGreatDoor
