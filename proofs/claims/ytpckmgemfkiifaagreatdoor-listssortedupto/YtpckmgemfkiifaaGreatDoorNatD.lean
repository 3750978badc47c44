/- NatD -/
import Derived.Test.YtpckmgemfkiifaaGreatDoorNatC
namespace Go.Proofs.YtpckmgemfkiifaaGreatDoor
open Go.RowKit
set_option linter.unusedVariables false
set_option linter.unusedSimpArgs false

theorem carry_step(P s:Nat):P*(s%4294967296)+4294967296*P*(s / 4294967296)=P*s:=by
  have h:=Nat.mod_add_div s 4294967296;have e:4294967296*P*(s / 4294967296)=P*(4294967296*(s / 4294967296)):=by
    rw[Nat.mul_comm 4294967296 P,Nat.mul_assoc]
  rw[e,←Nat.mul_add,h]
theorem sum_step(L a b:List Nat)(i c:Nat)(hi:i<L.length)(h:val (L.take i)+pw i*c=val (a.take i)+val (b.take i)):
    val ((L.set i ((a.getD i 0+b.getD i 0+c)%4294967296)).take (i+1))+pw (i+1)*((a.getD i 0+b.getD i 0+c) / 4294967296)=val (a.take (i+1))+val (b.take (i+1)):=by
  rw[val_set_take L i _ hi,val_take_succ a,val_take_succ b,pw_succ];have:=carry_step (pw i) (a.getD i 0+b.getD i 0+c);rw[Nat.mul_add,Nat.mul_add]at this;omega

set_option maxHeartbeats 1000000 in
set_option maxRecDepth 1000000 in
theorem sum_any{w:World}{ao bo:Option Addr}{x y:Nat}(ca cb:Nat)(ha:Rd w ao (words x))(hb:Rd w bo (words y))(hx:(words x).length≤100000)(hy:(words y).length≤100000):
    Calls Tryz.prog 149 #[.slice ao (words x).length ca,.slice bo (words y).length cb] w fun e w'=>∃ro rc,e=.returned (.slice ro (words (x+y)).length rc)∧Own w.heap.size w' ro rc (words (x+y))∧Below w.heap.size w w':=by
  obtain⟨p,HX⟩:∃p,Hid ((words x).length=p):=⟨_,rfl⟩;obtain⟨q,HY⟩:∃q,Hid ((words y).length=q):=⟨_,rfl⟩;rw[HX.out]at hx ⊢;rw[HY.out]at hy ⊢;obtain⟨n,hpn,hqn,hor⟩:∃n,p≤n∧q≤n∧((n=q∧p<q)∨(n=p∧¬p<q)):=by
    by_cases h:p<q
    · exact⟨q,by omega,by omega,.inl ⟨rfl,h⟩⟩
    · exact⟨p,by omega,by omega,.inr ⟨rfl,h⟩⟩
  have hn:n≤100000:=by omega
  have hmk:=run_make_row' (P:=Tryz.prog) 22 78 (.int .u32 0) 4 Tryz.underlying22 infoU rfl .i64 .i64 (n+1) (by omega) (by omega);simp only[Int.natCast_add,Int.cast_ofNat_Int]at hmk;rcases hor with⟨e,hlt⟩ | ⟨e,hlt⟩;all_goals subst e
  all_goals
    go_enter Tryz.func149,Tryz.ntmps149
    go_wp2
    go_loopw [7,18] (fun v7 v18 wr=>∃(i c:Nat) (L:List Nat),i≤n∧v18=.int .i64 (i:Int)∧v7=.int .u32 (c:Int)∧c≤1∧L.length=n+1∧Own w.heap.size wr (some ⟨w.heap.size,0,none⟩) (n+1) L∧Below w.heap.size w wr∧val (L.take i)+pw i*c=val ((words x).take i)+val ((words y).take i)) (fun _ v18 _=>n-(intOf v18).toNat)
    case atStart=>
      refine⟨0,0,List.replicate (n+1) 0,Nat.zero_le _,rfl,rfl,by omega,by simp,Own.made w (n+1) (by omega),(Below.refl _ w).alloc (Nat.le_refl _) _,by simp[val]⟩
    case round=>
      obtain⟨i,c,L,hi,rfl,rfl,hc,hL,hown,hbw,hv⟩:=hrel;have HV:Hid _:=hv;have HL:Hid _:=hL;clear hv hL;by_cases hin:i<n
      · have k1:=hown.cell i (by rw[HL.out]; omega);have k2:=hown.frozen i;have c1:=wordAt_any ca i (ha.below hbw);have c2:=wordAt_any cb i (hb.below hbw);rw[HX.out]at c1;rw[HY.out]at c2;have d1:=(words_dig x).getD i;have d2:=(words_dig y).getD i;have HS:Hid _:=sum_step L (words x) (words y) i c (by rw[HL.out]; omega) HV.out;obtain⟨s,hs⟩:∃s,(words x).getD i 0=s:=⟨_,rfl⟩;obtain⟨t,ht⟩:∃t,(words y).getD i 0=t:=⟨_,rfl⟩;rw[hs]at c1 d1 HS;rw[ht]at c2 d2 HS;clear hs ht;have c3:=add32_any s t c wr d1 d2 (by omega);have hset:=hown.set i ((s+t+c)%4294967296) (Nat.mod_lt _ (by omega));have hbw':=hbw.setCell (p:=⟨w.heap.size,i,none⟩) (Nat.le_refl _) (.int .u32 (((s+t+c)%4294967296:Nat):Int));have HO:Hid _:=hown;have HB:Hid _:=hbw;have HSet:Hid _:=hset;have HB':Hid _:=hbw';clear hown hbw ha hb hset hbw'
        go_wp2_with fail
        refine c1.mono ?_;rintro e w' ⟨rfl,rfl⟩
        go_wp2_with fail
        refine c2.mono ?_;rintro e w' ⟨rfl,rfl⟩
        go_wp2_with fail
        refine c3.mono ?_;rintro e w' ⟨rfl,rfl⟩;clear c1 c2 c3
        go_wp2
        go_roundw
        case rel=>exact⟨i+1,(s+t+c) / 4294967296,L.set i ((s+t+c)%4294967296),by omega,by go_num,by go_num,by omega,by rw[List.length_set]; exact HL.out,HSet.out,HB'.out,HS.out⟩
        case measure=>simp[intOf]; omega
      · have e:i=n:=(by omega);subst e;have k1:=hown.cell i (by rw[HL.out]; omega);have k2:=hown.frozen i;have hset:=hown.set i c (by omega);have hbw':=hbw.setCell (p:=⟨w.heap.size,i,none⟩) (Nat.le_refl _) (.int .u32 (c:Int));have hval:val (L.set i c)=x+y:=by
          have e1:=val_set_take L i c (by rw[HL.out]; omega);rw[List.take_of_length_le (by rw[List.length_set,HL.out]; omega),HV.out,List.take_of_length_le (by rw[HX.out]; omega),List.take_of_length_le (by rw[HY.out]; omega),val_words,val_words]at e1;exact e1
        have c1:=trim_any hset (by rw[List.length_set,HL.out]; omega);rw[hval,List.length_set,HL.out]at c1;have HC:Hid _:=c1;have HB':Hid _:=hbw';clear hset hbw' hval c1 hown hbw ha hb
        go_wp2_with fail
        refine Calls.mono HC.out ?_;rintro e w' ⟨rfl,ho,rfl⟩;have HO:Hid _:=ho;clear ho
        go_wp2
        go_ret
        exact⟨_,_,rfl,HO.out,HB'.out⟩

end Go.Proofs.YtpckmgemfkiifaaGreatDoor
