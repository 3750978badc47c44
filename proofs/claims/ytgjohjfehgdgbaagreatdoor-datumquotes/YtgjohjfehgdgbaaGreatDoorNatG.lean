/- NatG -/
import Derived.Test.YtgjohjfehgdgbaaGreatDoorNatF
namespace Go.Proofs.YtgjohjfehgdgbaaGreatDoor
open Go.RowKit
set_option linter.unusedVariables false
set_option linter.unusedSimpArgs false

theorem Own.setG{B:Nat}{w:World}{cap:Nat}{l:List Nat}{g:Nat}(h:Own B w (some ⟨g,0,none⟩) cap l)(j d:Nat):w.grownBy (w.setCell ⟨g,j,none⟩ (.int .u32 (d:Int))) (some g):=
  (h.row.stored j (.int .u32 (d:Int))).2
theorem grown_trans{a b c:World}{r:Option Nat}(h:a.grownBy b r)(k:b.grownBy c r):a.grownBy c r:=
  ⟨k.os.trans h.os,k.tape.trans h.tape,k.output.trans h.output,Nat.le_trans h.size k.size,fun i hi hr=>(k.block i (Nat.lt_of_lt_of_le hi h.size) hr).trans (h.block i hi hr)⟩
theorem grown_drew{a b:World}{r:Option Nat}(h:a.grownBy b r):a.grownBy b.drew r:=⟨h.os,h.tape,h.output,h.size,h.block⟩
theorem Own.none_cap{B:Nat}{w:World}{cap:Nat}{l:List Nat}(h:Own B w none cap l):cap=0:=by
  rcases h.row.2 with⟨h2,_⟩ | ⟨g,cap',cur,hv,_⟩
  · simp only[Value.slice.injEq]at h2;exact h2.2.2
  · simp at hv

theorem times_step(L L0 b:List Nat)(i j c k:Nat)(hi:i+j<L.length)(h:val L+pw (i+j)*c=val L0+pw i*(val (b.take j)*k)):
    val (L.set (i+j) ((c+(b.getD j 0*k+L.getD (i+j) 0))%4294967296))+pw (i+(j+1))*((c+(b.getD j 0*k+L.getD (i+j) 0)) / 4294967296)=val L0+pw i*(val (b.take (j+1))*k):=by
  have e1:=val_set L (i+j) ((c+(b.getD j 0*k+L.getD (i+j) 0))%4294967296) hi;have e2:=carry_step (pw (i+j)) (c+(b.getD j 0*k+L.getD (i+j) 0));have e3:pw (i+(j+1))=4294967296*pw (i+j):=by rw[←Nat.add_assoc,pw_succ]
  rw[e3,val_take_succ,Nat.add_mul,Nat.mul_add (pw i)];have e4:pw i*(pw j*b.getD j 0*k)=pw (i+j)*(b.getD j 0*k):=by rw[pw_add]; simp only[Nat.mul_assoc]
  rw[e4];rw[Nat.mul_add,Nat.mul_add]at e2;omega

set_option maxHeartbeats 2000000 in
set_option maxRecDepth 1000000 in
theorem addTimes_any{B:Nat}{w:World}{g i m c0 cap cb k:Nat}{bo:Option Addr}{L b:List Nat}(ho:Own B w (some ⟨g,0,none⟩) cap L)(hb:Rd w bo b)(hm:b.length=m)(him:i+m≤L.length)(hL:L.length≤1000000)
    (hne:b≠[]→∀a,bo=some a→a.block≠g) (hk:k<4294967296) :
    Calls Tryz.prog 189 #[.slice (some ⟨g,i,none⟩) m c0,.slice bo m cb,.int .u32 (k:Int)] w fun e w'=>∃(c:Nat) (L':List Nat),e=.returned (.int .u32 (c:Int))∧c<4294967296∧L'.length=L.length∧Own B w' (some ⟨g,0,none⟩) cap L'∧w.grownBy w' (some g)∧val L'+pw (i+m)*c=val L+pw i*(val b*k)∧∀p,i+m≤p→L'.getD p 0=L.getD p 0:=by
  have HM:Hid _:=hm;have HK:Hid _:=hL;clear hm;have hm1:m≤1000000:=by omega
  go_enter Tryz.func189,Tryz.ntmps189
  go_wp2
  go_loopw [7,11] (fun v7 v11 wr=>∃(j c:Nat) (L':List Nat),j≤m∧v11=.int .i64 (j:Int)∧v7=.int .u64 (c:Int)∧c<4294967296∧L'.length=L.length∧Own B wr (some ⟨g,0,none⟩) cap L'∧w.grownBy wr (some g)∧val L'+pw (i+j)*c=val L+pw i*(val (b.take j)*k)∧∀p,i+j≤p→L'.getD p 0=L.getD p 0) (fun _ v11 _=>m-(intOf v11).toNat)
  case atStart=>exact⟨0,0,L,Nat.zero_le _,rfl,rfl,by omega,rfl,ho,World.grownBy.refl _ _,by simp[val],fun _ _=>rfl⟩
  case round=>
    obtain⟨j,c,L',hj,rfl,rfl,hc,hL',hown,hgr,hv,hfix⟩:=hrel;have HV:Hid _:=hv;have HL:Hid _:=hL';have HF:Hid _:=hfix;clear hv hL' hfix;by_cases hjm:j<m
    · have hne':b≠[]:=(by intro e; have:=HM.out; rw[e]at this; simp at this; omega);have hb':=hb.grown hgr (fun a ha=>by have:=hne hne' a ha; intro e; cases e; exact this rfl);obtain⟨b1,o1,rfl,_,hc1⟩:=hb'.pos hne';have k0:=hc1 j (by rw[HM.out]; omega);have k1:=hown.cell (i+j) (by rw[HL.out]; omega);have k2:=hown.frozen (i+j);have d1:=hown.dig.getD (i+j);have d2:=hb.dig.getD j;have HS:Hid _:=times_step L' L b i j c k (by rw[HL.out]; omega) HV.out;obtain⟨t,ht⟩:∃t,L'.getD (i+j) 0=t:=⟨_,rfl⟩;obtain⟨q,hq⟩:∃q,b.getD j 0=q:=⟨_,rfl⟩;rw[hq]at k0 d2 HS;rw[ht]at k1 d1 HS;clear ht hq;have m1:=mul_boundI d2 hk;have m2:=mul_bound d2 hk;have hset:=hown.set (i+j) ((c+(q*k+t))%4294967296) (Nat.mod_lt _ (by omega));have hgr':=grown_trans hgr (hown.setG (i+j) ((c+(q*k+t))%4294967296));have HSet:Hid _:=hset;have HG:Hid _:=hgr';have HGd:Hid _:=hgr;have HO:Hid _:=hown;clear hset hgr' hgr hown hne hb hb' hc1 hne' ho him hL
      go_wp2
      go_region
      go_wp2
      go_roundw
      case rel=>
        have hlt:(c+(q*k+t)) / 4294967296<4294967296:=Nat.div_lt_of_lt_mul (by omega);refine⟨j+1,(c+(q*k+t)) / 4294967296,L'.set (i+j) ((c+(q*k+t))%4294967296),by omega,by go_num,rfl,hlt,by rw[List.length_set]; exact HL.out,HSet.out.drew,grown_drew HG.out,HS.out,fun p hp=>?_⟩;rw[getD_set_ne _ _ _ _ (by omega)];exact HF.out p (by omega)
      case measure=>simp[intOf]; omega
    · have e:j=m:=(by omega);subst e;have hval:=HV.out;rw[List.take_of_length_le (by rw[HM.out]; omega)]at hval;have HVV:Hid _:=hval;have HO:Hid _:=hown;have HG:Hid _:=hgr;clear hval hown hgr ho hb hne him hL
      go_wp2
      go_ret
      exact⟨c,L',rfl,hc,HL.out,HO.out,HG.out,HVV.out,HF.out⟩

theorem wrapI(x:Int)(h0:0≤x)(h1:x≤9223372036854775807):IntKind.i64.wrap x=x:=by
  simp[IntKind.wrap,IntKind.bits,IntKind.signed];omega
theorem product_step(L L' a:List Nat)(i m c y:Nat)(him:i+m<L'.length)(hv:val L=val (a.take i)*y)(h:val L'+pw (i+m)*c=val L+pw i*(y*a.getD i 0))(h0:L'.getD (i+m) 0=0):
    val (L'.set (i+m) c)=val (a.take (i+1))*y:=by
  have e:=val_set L' (i+m) c him;rw[h0,h,hv]at e;rw[val_take_succ,Nat.add_mul,Nat.mul_assoc,Nat.mul_comm (a.getD i 0) y];omega

set_option maxHeartbeats 2000000 in
set_option maxRecDepth 1000000 in
theorem product_any{w:World}{ao bo:Option Addr}{x y:Nat}(ca cb:Nat)(ha:Rd w ao (words x))(hb:Rd w bo (words y))(hx:(words x).length≤100000)(hy:(words y).length≤100000):
    Calls Tryz.prog 175 #[.slice ao (words x).length ca,.slice bo (words y).length cb] w (Row1 w (words (x*y))):=by
  obtain⟨n,HX⟩:∃n,Hid ((words x).length=n):=⟨_,rfl⟩;obtain⟨m,HY⟩:∃m,Hid ((words y).length=m):=⟨_,rfl⟩;rw[HX.out]at hx ⊢;rw[HY.out]at hy ⊢;have hmk:=run_make_row' (P:=Tryz.prog) 22 99 (.int .u32 0) 4 Tryz.underlying22 infoU rfl .i64 .i64 (n+m) (by omega) (by omega);simp only[Int.natCast_add,Int.cast_ofNat_Int]at hmk;have hblk:words y≠[]→∀a,bo=some a→a.block≠w.heap.size:=by
    intro hne a e;obtain⟨b,off,h1,h2,_⟩:=hb.pos hne;rw[h1]at e;cases e
    exact Nat.ne_of_lt h2
  go_enter Tryz.func175,Tryz.ntmps175
  go_wp2
  go_loopw [15] (fun v wr=>∃(i:Nat) (L:List Nat),i≤n∧v=.int .i64 (i:Int)∧L.length=n+m∧Own w.heap.size wr (some ⟨w.heap.size,0,none⟩) (n+m) L∧Below w.heap.size w wr∧val L=val ((words x).take i)*y∧∀p,i+m≤p→L.getD p 0=0) (fun v _=>n-(intOf v).toNat)
  case atStart=>
    refine⟨0,List.replicate (n+m) 0,Nat.zero_le _,rfl,by simp,Own.made w (n+m) (by omega),(Below.refl _ w).alloc (Nat.le_refl _) _,by simp[val_replicate,val],fun p _=>?_⟩;simp only[List.getD_eq_getElem?_getD,List.getElem?_replicate]
    split<;>rfl
  case round=>
    obtain⟨i,L,hi,rfl,hL,hown,hbw,hv,hz⟩:=hrel;have HV:Hid _:=hv;have HL:Hid _:=hL;have HZ:Hid _:=hz;clear hv hL hz;by_cases hin:i<n
    · have ha':=ha.below hbw;have hb':=hb.below hbw;obtain⟨b1,o1,rfl,_,hc1⟩:=ha'.pos (by intro e; have:=HX.out; rw[e]at this; simp at this; omega);have k0:=hc1 i (by rw[HX.out]; omega);have d0:=(words_dig x).getD i;have HA:Hid (∀(c:Nat) (L':List Nat),i+m<L'.length→val L'+pw (i+m)*c=val L+pw i*(y*(words x).getD i 0)→L'.getD (i+m) 0=0→val (L'.set (i+m) c)=val ((words x).take (i+1))*y):=
        fun c L' h1 h2 h3=>product_step L L' (words x) i m c y h1 HV.out h2 h3
      obtain⟨k,hk⟩:∃k,(words x).getD i 0=k:=⟨_,rfl⟩;rw[hk]at k0 d0 HA;clear hk hc1 ha';have c1:=addTimes_any (i:=i) (m:=m) (c0:=n+m-i) (cb:=cb) hown.drew hb'.drew HY.out (by rw[HL.out]; omega) (by rw[HL.out]; omega) hblk d0;rw[val_words]at c1;have HC:Hid _:=c1;have HB:Hid _:=hbw.drew;have HZ2:Hid _:=hblk;clear hown hbw c1 hb hb' ha hblk;have q1:(i:Int)≤(i:Int)+m:=(by omega);have q3:¬(n+m=i):=(by omega);have q4:((i:Int)+m).toNat=i+m:=(by omega);have q5:(0:Int)≤i:=(by omega);have q6:=wrapI ((i:Int)+m) (by omega) (by omega);have q7:(i:Int)+m≤(n:Int)+m:=(by omega);have q8:i+m-i=m:=by omega
      go_wp2_with fail
      go_region_with (go_at_call 189; refine Calls.mono HC.out ?_; rintro e w1 ⟨c,L',rfl,hc,hL',ho',hg',hv',hf'⟩; have k1:=ho'.cell (i+m) (by rw[hL',HL.out]; omega); have k2:=ho'.frozen (i+m); have HO:Hid _:=ho'; have HL':Hid _:=hL'; have HG:Hid _:=hg'; have HV':Hid _:=hv'; have HF:Hid _:=hf'; clear ho' hL' hg' hv' hf')
      all_goals
        go_wp2
        go_roundw
        case rel=>
          have hz:L'.getD (i+m) 0=0:=(HF.out _ (Nat.le_refl _)).trans (HZ.out _ (Nat.le_refl _));have hb2:Below w.heap.size w w1:=HB.out.grown HG.out HB.out.size (fun k hk=>by cases hk; exact Nat.le_refl _);refine⟨i+1,L'.set (i+m) c,by omega,by go_num,by rw[List.length_set,HL'.out]; exact HL.out,HO.out.set (i+m) c hc,hb2.setCell (Nat.le_refl _) _,HA.out c L' (by rw[HL'.out,HL.out]; omega) HV'.out hz,fun p hp=>?_⟩;rw[getD_set_ne _ _ _ _ (by omega),HF.out p (by omega)];exact HZ.out p (by omega)
        case measure=>simp[intOf]; omega
    · have e:i=n:=(by omega);subst e;have hval:=HV.out;rw[List.take_of_length_le (by rw[HX.out]; omega),val_words]at hval;have c1:=trim_any hown (by rw[HL.out]; omega);rw[hval,HL.out]at c1;have HC:Hid _:=c1;have HB:Hid _:=hbw;clear hval c1 hown hbw ha hb hblk
      go_wp2_with fail
      refine Calls.mono HC.out ?_;rintro e w' ⟨rfl,ho,rfl⟩;have HO:Hid _:=ho;clear ho
      go_wp2
      go_ret
      exact⟨_,_,rfl,HO.out,HB.out⟩
end Go.Proofs.YtgjohjfehgdgbaaGreatDoor
