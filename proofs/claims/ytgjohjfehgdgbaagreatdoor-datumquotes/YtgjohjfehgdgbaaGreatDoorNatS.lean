/- NatS -/
import Derived.Test.YtgjohjfehgdgbaaGreatDoorNatR
namespace Go.Proofs.YtgjohjfehgdgbaaGreatDoor
open Go.RowKit
set_option linter.unusedVariables false
set_option linter.unusedSimpArgs false

set_option maxHeartbeats 2000000 in
set_option maxRecDepth 1000000 in
theorem subTimes_any{B:Nat}{w:World}{g cap j n c0 cv k:Nat}{vo:Option Addr}{P M S v:List Nat}(ho:Own B w (some ⟨g,0,none⟩) cap (P++(M++S)))(hP:P.length=j)(hM:M.length=n+1)(hv:Rd w vo v)(hvn:v.length=n)(hn:n≤1000000)(hj:j≤1000000)
    (hne:v≠[]→∀a,vo=some a→a.block≠g) (hk:k<4294967296) :
    Calls Tryz.prog 186 #[.slice (some ⟨g,j,none⟩) (n+1) c0,.slice vo n cv,.int .u32 (k:Int)] w fun e w'=>∃(z:Bool) (M':List Nat),e=.returned (.bool z)∧M'.length=n+1∧Own B w' (some ⟨g,0,none⟩) cap (P++(M'++S))∧w.grownBy w' (some g)∧val M'+val v*k=val M+pw (n+1)*z.toNat:=by
  have HP:Hid _:=hP;have HM:Hid _:=hM;have HVN:Hid _:=hvn;clear hP hM hvn
  go_enter Tryz.func186,Tryz.ntmps186
  go_wp2
  go_loopw [7,13] (fun v7 v13 wr=>∃(i c:Nat) (M':List Nat),i≤n∧v13=.int .i64 (i:Int)∧v7=.int .u64 (c:Int)∧c<4294967296∧M'.length=n+1∧Own B wr (some ⟨g,0,none⟩) cap (P++(M'++S))∧w.grownBy wr (some g)∧val (M'.take i)+val (v.take i)*k=val (M.take i)+pw i*c∧∀p,i≤p→M'.getD p 0=M.getD p 0) (fun _ v13 _=>n-(intOf v13).toNat)
  case atStart=>exact⟨0,0,M,Nat.zero_le _,rfl,rfl,by omega,HM.out,ho,World.grownBy.refl _ _,by simp[val],fun _ _=>rfl⟩
  case round=>
    obtain⟨i,c,M',hi,rfl,rfl,hc,hL,hown,hgr,hval,hfix⟩:=hrel;have HV:Hid _:=hval;have HL:Hid _:=hL;have HF:Hid _:=hfix;have HD:Hid (Dig M):=ho.winDig;clear hval hL hfix;by_cases hin:i<n
    · have hvne:v≠[]:=(by intro e; have:=HVN.out; rw[e]at this; simp at this; omega);have hv':=hv.grown hgr (fun a ha=>by have:=hne hvne a ha; intro e; cases e; exact this rfl);obtain⟨b1,o1,rfl,_,hc1⟩:=hv'.pos hvne;have k0:=hc1 i (by rw[HVN.out]; omega);have k1:=hown.winCell HP.out i (by rw[HL.out]; omega);have k2:=hown.frozen (j+i);have d1:=hown.winDig.getD i;have d2:=hv.dig.getD i;have HS:Hid _:=subT_step M' M v i c k (by rw[HL.out]; omega) HD.out (HF.out i (Nat.le_refl _)) HV.out;have hti:=HF.out i (Nat.le_refl _);rw[hti]at k1 d1;obtain⟨t,ht⟩:∃t,M.getD i 0=t:=⟨_,rfl⟩;obtain⟨q,hq⟩:∃q,v.getD i 0=q:=⟨_,rfl⟩;rw[ht]at k1 d1 HS;rw[hq]at k0 d2 HS;clear ht hq hti hc1 hv';have m1:=mul_boundI d2 hk;have m2:=mul_bound d2 hk;obtain⟨s,hs⟩:∃s,c+q*k=s:=⟨_,rfl⟩;have hsI:(c:Int)+(q:Int)*(k:Int)=(s:Int):=(by rw[←hs,Int.natCast_add,Int.natCast_mul]);have hsb:s≤18446744069414584320:=(by omega);rw[hs]at HS;clear hs;have hset:=hown.winSet HP.out i (dif0 t (s%4294967296)) (by rw[HL.out]; omega) (dif0_lt _ _);have hgr':=grown_trans hgr (hown.setG (j+i) (dif0 t (s%4294967296)));clear hown hgr hv ho hvne;by_cases hlt:t<s%4294967296
      · have e1:((t:Int)-(s:Int))%4294967296=((dif0 t (s%4294967296):Nat):Int):=(by unfold dif0; omega);have e2:bor0 t (s%4294967296)=1:=(by unfold bor0; rw[if_pos hlt]);rw[←e1]at hset hgr';rw[e2]at HS;have HSet:Hid _:=hset;have HG:Hid _:=hgr';clear hset hgr' e1 e2
        go_wp2
        go_roundw
        case rel=>
          refine⟨i+1,s / 4294967296+1,M'.set i (dif0 t (s%4294967296)),by omega,by go_num,by go_num,by omega,by rw[List.length_set]; exact HL.out,HSet.out,HG.out,HS.out,fun p hp=>?_⟩;rw[getD_set_ne _ _ _ _ (by omega)];exact HF.out p (by omega)
        case measure=>simp only[intOf]; omega
      · have e1:(t:Int)-(s:Int)%4294967296=((dif0 t (s%4294967296):Nat):Int):=(by unfold dif0; omega);have e2:bor0 t (s%4294967296)=0:=(by unfold bor0; rw[if_neg hlt]);rw[←e1]at hset hgr';rw[e2]at HS;have HSet:Hid _:=hset;have HG:Hid _:=hgr';clear hset hgr' e1 e2
        go_wp2
        go_roundw
        case rel=>
          refine⟨i+1,s / 4294967296,M'.set i (dif0 t (s%4294967296)),by omega,by go_num,by go_num,by omega,by rw[List.length_set]; exact HL.out,HSet.out,HG.out,HS.out,fun p hp=>?_⟩;rw[getD_set_ne _ _ _ _ (by omega)];exact HF.out p (by omega)
        case measure=>simp only[intOf]; omega
    · have e:i=n:=(by omega);subst e;have k1:=hown.winCell HP.out i (by rw[HL.out]; omega);have k2:=hown.frozen (j+i);have d1:=hown.winDig.getD i;have hti:=HF.out i (Nat.le_refl _);rw[hti]at k1 d1;have hfin:∀d z,d+c=M.getD i 0+4294967296*z→val (M'.set i d)+val v*k=val M+pw (i+1)*z:=by
        intro d z hdz;have h1:=val_set_take M' i d (by rw[HL.out]; omega);have h2:=val_take_succ M i;rw[List.take_of_length_le (by rw[List.length_set,HL.out]; omega)]at h1;rw[List.take_of_length_le (by rw[HM.out]; omega)]at h2;have h3:=HV.out;rw[List.take_of_length_le (l:=v) (by rw[HVN.out]; omega)]at h3;have h4:pw i*d+pw i*c=pw i*M.getD i 0+4294967296*pw i*z:=by
          have:4294967296*pw i*z=pw i*(4294967296*z):=(by rw[Nat.mul_comm 4294967296 (pw i),Nat.mul_assoc]);rw[this,←Nat.mul_add,←Nat.mul_add,hdz]
        rw[h1,h2,pw_succ];omega
      have HFin:Hid _:=hfin;obtain⟨t,ht⟩:∃t,M.getD i 0=t:=⟨_,rfl⟩;rw[ht]at k1 d1 HFin;have hset:=hown.winSet HP.out i (dif0 t c) (by rw[HL.out]; omega) (dif0_lt _ _);have hgr':=grown_trans hgr (hown.setG (j+i) (dif0 t c));have he:=dif0_eq d1 hc;clear ht hti hfin hown hgr hv ho;by_cases hlt:t<c
      · have e1:((t:Int)-(c:Int))%4294967296=((dif0 t c:Nat):Int):=(by unfold dif0; omega);have e2:bor0 t c=1:=(by unfold bor0; rw[if_pos hlt]);rw[e2]at he;have HV2:Hid _:=HFin.out (dif0 t c) 1 he;rw[←e1]at hset hgr';have HSet:Hid _:=hset;have HG:Hid _:=hgr';clear hset hgr' e1 e2 he
        go_wp2
        go_ret
        refine⟨true,M'.set i (dif0 t c),?_,by rw[List.length_set]; exact HL.out,HSet.out,HG.out,HV2.out⟩;simp[hlt]
      · have e1:(t:Int)-(c:Int)=((dif0 t c:Nat):Int):=(by unfold dif0; omega);have e2:bor0 t c=0:=(by unfold bor0; rw[if_neg hlt]);rw[e2]at he;have HV2:Hid _:=HFin.out (dif0 t c) 0 he;rw[←e1]at hset hgr';have HSet:Hid _:=hset;have HG:Hid _:=hgr';clear hset hgr' e1 e2 he
        go_wp2
        go_ret
        refine⟨false,M'.set i (dif0 t c),?_,by rw[List.length_set]; exact HL.out,HSet.out,HG.out,HV2.out⟩;simp[hlt]

theorem back_step(M' M v:List Nat)(i c:Nat)(hi:i<M'.length)(h:val (M'.take i)+pw i*c=val (M.take i)+val (v.take i)):
    val ((M'.set i ((M.getD i 0+v.getD i 0+c)%4294967296)).take (i+1))+pw (i+1)*((M.getD i 0+v.getD i 0+c) / 4294967296)=val (M.take (i+1))+val (v.take (i+1)):=by
  rw[val_set_take M' i _ hi,val_take_succ M,val_take_succ v,pw_succ];have:=carry_step (pw i) (M.getD i 0+v.getD i 0+c);rw[Nat.mul_add,Nat.mul_add]at this;omega

set_option maxHeartbeats 2000000 in
set_option maxRecDepth 1000000 in
theorem addBack_any{B:Nat}{w:World}{g cap j n c0 cv:Nat}{vo:Option Addr}{P M S v:List Nat}(ho:Own B w (some ⟨g,0,none⟩) cap (P++(M++S)))(hP:P.length=j)(hM:M.length=n+1)(hv:Rd w vo v)(hvn:v.length=n)(hn:n≤1000000)(hj:j≤1000000)
    (hne:v≠[]→∀a,vo=some a→a.block≠g) :
    Calls Tryz.prog 187 #[.slice (some ⟨g,j,none⟩) (n+1) c0,.slice vo n cv] w fun e w'=>∃(z:Nat) (M':List Nat),e=.returned (.tuple #[])∧M'.length=n+1∧Own B w' (some ⟨g,0,none⟩) cap (P++(M'++S))∧w.grownBy w' (some g)∧val M'+pw (n+1)*z=val M+val v:=by
  have HP:Hid _:=hP;have HM:Hid _:=hM;have HVN:Hid _:=hvn;clear hP hM hvn
  go_enter Tryz.func187,Tryz.ntmps187
  go_wp2
  go_loopw [4,8] (fun v4 v8 wr=>∃(i c:Nat) (M':List Nat),i≤n∧v8=.int .i64 (i:Int)∧v4=.int .u32 (c:Int)∧c≤1∧M'.length=n+1∧Own B wr (some ⟨g,0,none⟩) cap (P++(M'++S))∧w.grownBy wr (some g)∧val (M'.take i)+pw i*c=val (M.take i)+val (v.take i)∧∀p,i≤p→M'.getD p 0=M.getD p 0) (fun _ v8 _=>n-(intOf v8).toNat)
  case atStart=>exact⟨0,0,M,Nat.zero_le _,rfl,rfl,by omega,HM.out,ho,World.grownBy.refl _ _,by simp[val],fun _ _=>rfl⟩
  case round=>
    obtain⟨i,c,M',hi,rfl,rfl,hc,hL,hown,hgr,hval,hfix⟩:=hrel;have HV:Hid _:=hval;have HL:Hid _:=hL;have HF:Hid _:=hfix;clear hval hL hfix;by_cases hin:i<n
    · have hvne:v≠[]:=(by intro e; have:=HVN.out; rw[e]at this; simp at this; omega);have hv':=hv.grown hgr (fun a ha=>by have:=hne hvne a ha; intro e; cases e; exact this rfl);obtain⟨b1,o1,rfl,_,hc1⟩:=hv'.pos hvne;have k0:=hc1 i (by rw[HVN.out]; omega);have k1:=hown.winCell HP.out i (by rw[HL.out]; omega);have k2:=hown.frozen (j+i);have d1:=hown.winDig.getD i;have d2:=hv.dig.getD i;have HS:Hid _:=back_step M' M v i c (by rw[HL.out]; omega) HV.out;have hti:=HF.out i (Nat.le_refl _);rw[hti]at k1 d1;obtain⟨t,ht⟩:∃t,M.getD i 0=t:=⟨_,rfl⟩;obtain⟨q,hq⟩:∃q,v.getD i 0=q:=⟨_,rfl⟩;rw[ht]at k1 d1 HS;rw[hq]at k0 d2 HS;clear ht hq hti hc1 hv';have HC:Hid _:=add32_any t q c wr.drew d1 d2 (by omega);have HSet:Hid _:=hown.winSet HP.out i ((t+q+c)%4294967296) (by rw[HL.out]; omega) (Nat.mod_lt _ (by omega));have HG:Hid _:=grown_trans hgr (hown.setG (j+i) ((t+q+c)%4294967296));clear hown hgr hv ho hvne;have q5:(0:Int)≤(i:Int):=(by omega);have q6:(i:Int)<(n:Int):=(by omega);have q7:(i:Int)<(n:Int)+1:=by omega
      go_wp2_with fail
      go_region_with (go_at_call 195; refine Calls.mono HC.out ?_; rintro e w' ⟨rfl,rfl⟩)
      all_goals
        go_wp2
        go_roundw
        case rel=>
          refine⟨i+1,(t+q+c) / 4294967296,M'.set i ((t+q+c)%4294967296),by omega,by go_num,rfl,by omega,by rw[List.length_set]; exact HL.out,HSet.out.drew,grown_drew HG.out,HS.out,fun p hp=>?_⟩;rw[getD_set_ne _ _ _ _ (by omega)];exact HF.out p (by omega)
        case measure=>simp only[intOf]; omega
    · have e:i=n:=(by omega);subst e;have k1:=hown.winCell HP.out i (by rw[HL.out]; omega);have k2:=hown.frozen (j+i);have d1:=hown.winDig.getD i;have hti:=HF.out i (Nat.le_refl _);rw[hti]at k1 d1;have hfin:val (M'.set i ((M.getD i 0+c)%4294967296))+pw (i+1)*((M.getD i 0+c) / 4294967296)=val M+val v:=by
        have h1:=val_set_take M' i ((M.getD i 0+c)%4294967296) (by rw[HL.out]; omega);have h2:=val_take_succ M i;rw[List.take_of_length_le (by rw[List.length_set,HL.out]; omega)]at h1;rw[List.take_of_length_le (by rw[HM.out]; omega)]at h2;have h3:=HV.out;rw[List.take_of_length_le (l:=v) (by rw[HVN.out]; omega)]at h3;have h4:=carry_step (pw i) (M.getD i 0+c);rw[Nat.mul_add]at h4;rw[h1,h2,pw_succ];omega
      have HFin:Hid _:=hfin;obtain⟨t,ht⟩:∃t,M.getD i 0=t:=⟨_,rfl⟩;rw[ht]at k1 d1 HFin;have HSet:Hid _:=hown.winSet HP.out i ((t+c)%4294967296) (by rw[HL.out]; omega) (Nat.mod_lt _ (by omega));have HG:Hid _:=grown_trans hgr (hown.setG (j+i) ((t+c)%4294967296));clear ht hti hfin hown hgr hv ho
      go_wp2
      go_end0
      exact⟨(t+c) / 4294967296,M'.set i ((t+c)%4294967296),rfl,by rw[List.length_set]; exact HL.out,HSet.out,HG.out,HFin.out⟩
end Go.Proofs.YtgjohjfehgdgbaaGreatDoor
