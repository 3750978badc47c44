/- NatH -/
import Derived.Test.YtpckmgemfkiifaaGreatDoorNatG
namespace Go.Proofs.YtpckmgemfkiifaaGreatDoor
open Go.RowKit
set_option linter.unusedVariables false
set_option linter.unusedSimpArgs false

theorem own_append{B:Nat}{w1:World}{v:Value}{acc:List Nat}{d:Nat}(hd:Dig acc)(hd2:d<4294967296)(h:w1.ownsRow B 78 1 v (acc.length+1) (U acc++[.int .u32 (d:Int)])):
    ∃ro rc,v=.slice ro (acc++[d]).length rc∧Own B w1 ro rc (acc++[d]):=by
  refine own_of_row (n:=acc.length+1) (dig_append.2 ⟨hd,by simp[Dig]; exact hd2⟩) (by simp) ?_;rw[U_append];exact h
theorem cell_one(w:World)(a:Value)(t:TypeId):∀j u,[a][j]?=some u→(w.alloc (.cells #[a] t)).cell? ((⟨w.heap.size,0,none⟩:Addr).add j)=some u:=by
  intro j u hj
  match j,hj with
  | 0, hj => simp at hj; subst hj; simp [Addr.add]
theorem plus_step(acc a b:List Nat)(i c:Nat)(hi:acc.length=i)(h:val acc+pw i*c=val (a.take i)+val (b.take i)):
    val (acc++[(c+(a.getD i 0+b.getD i 0))%4294967296])+pw (i+1)*((c+(a.getD i 0+b.getD i 0)) / 4294967296)=val (a.take (i+1))+val (b.take (i+1)):=by
  rw[val_snoc,val_take_succ a,val_take_succ b,pw_succ,hi];have:=carry_step (pw i) (c+(a.getD i 0+b.getD i 0));rw[Nat.mul_add,Nat.mul_add]at this;omega

set_option maxHeartbeats 2000000 in
set_option maxRecDepth 1000000 in
theorem plus_any{w:World}{ao bo:Option Addr}{x y:Nat}(ca cb:Nat)(ha:Rd w ao (words x))(hb:Rd w bo (words y))(hx:(words x).length≤100000)(hy:(words y).length≤100000):
    Calls Tryz.prog 115 #[.slice ao (words x).length ca,.slice bo (words y).length cb] w (Row1 w (words (x+y))):=by
  obtain⟨i0,hi0,hz0,hz1,hz2⟩:=info_parts infoU;obtain⟨n,HX⟩:∃n,Hid ((words x).length=n):=⟨_,rfl⟩;obtain⟨m,HY⟩:∃m,Hid ((words y).length=m):=⟨_,rfl⟩;rw[HX.out]at hx ⊢;rw[HY.out]at hy ⊢
  go_enter Tryz.func115,Tryz.ntmps115
  go_wp2
  go_loopw [5,6,7] (fun v5 v6 v7 wr=>∃(i c:Nat) (acc:List Nat) (ro:Option Addr) (rc:Nat),(i≤n∨i≤m)∧v7=.int .i64 (i:Int)∧v6=.int .u64 (c:Int)∧c≤1∧v5=.slice ro i rc∧acc.length=i∧Own w.heap.size wr ro rc acc∧Below w.heap.size w wr∧val acc+pw i*c=val ((words x).take i)+val ((words y).take i)) (fun _ _ v7 _=>n+m-(intOf v7).toNat)
  case atStart=>
    refine⟨0,0,[],some ⟨w.heap.size,0,none⟩,0,.inl (Nat.zero_le _),rfl,rfl,by omega,rfl,rfl,⟨dig_nil,World.ownsRow_made w #[] 0 (Nat.le_refl _) (by decide) rfl⟩,(Below.refl _ w).alloc (Nat.le_refl _) _,by simp[val]⟩
  case round=>
    obtain⟨i,c,acc,ro,rc,hi,rfl,rfl,hc,rfl,hacc,hown,hbw,hv⟩:=hrel;have HV:Hid _:=hv;have HL:Hid _:=hacc;have hwsz:=hbw.size;clear hv hacc;have c1:=rword_any ca i (ha.below hbw);have c2:=rword_any cb i (hb.below hbw);rw[HX.out]at c1;rw[HY.out]at c2;have d1:=(words_dig x).getD i;have d2:=(words_dig y).getD i;have HS:Hid _:=plus_step acc (words x) (words y) i c HL.out HV.out;by_cases hin:i<n∨i<m
    · obtain⟨s,hs⟩:∃s,(words x).getD i 0=s:=⟨_,rfl⟩;obtain⟨t,ht⟩:∃t,(words y).getD i 0=t:=⟨_,rfl⟩;rw[hs]at c1 d1 HS;rw[ht]at c2 d2 HS;clear hs ht ha hb;have hrow:=hown.row;rw[HL.out]at hrow;have HD:Hid _:=hown.dig;have HB:Hid _:=hbw;clear hown hbw;have hcases:(i<n)∨(¬i<n∧i<m):=(by omega);rcases hcases with h1 | ⟨h1,h2⟩;all_goals
        go_wp2_with fail
        refine c1.mono ?_;rintro e w' ⟨rfl,hw'⟩;have hw':=hw'.symm;subst hw'
        go_wp2_with fail
        refine c2.mono ?_;rintro e w' ⟨rfl,hw'⟩;have hw':=hw'.symm;subst hw';clear c1 c2
        go_wp2_with (at_builtin; refine wpList_append_own _ rfl _ _ 22 rfl w.heap.size 78 i0 (.int .u32 0) 1 4 Tryz.underlying22 hi0 hz0 hz1 hz2 rfl (by decide) _ _ _ rfl (hrow.alloc _) ⟨wr.heap.size,0,none⟩ 1 1 [.int .u32 ((((c+(s+t))%4294967296:Nat)):Int)] rfl rfl (by exact cell_one wr _ 78) (by intro u hu; simp at hu; subst hu; rfl) (by unfold maxLen; omega) (by omega) (by simp; omega) ?_)
        intro v' w1 hown' hgrow hiff;have hb2:=grown_below (HB.out.alloc (by omega) _) (hrow.alloc _) hgrow (by simp; omega);rw[←HL.out]at hown';obtain⟨ro',rc',e,ho⟩:=own_append HD.out (Nat.mod_lt _ (by omega)) hown';subst e;have HO:Hid _:=ho;have HB2:Hid _:=hb2;clear hown' hgrow hiff ho hb2 hrow
        go_wp2
        go_roundw
        case rel=>
          refine⟨i+1,(c+(s+t)) / 4294967296,acc++[(c+(s+t))%4294967296],ro',rc',by omega,by go_num,rfl,by omega,by rw[List.length_append,HL.out]; rfl,by rw[List.length_append,HL.out]; rfl,HO.out,HB2.out,HS.out⟩
        case measure=>simp[intOf]; omega
    · clear c1 c2 d1 d2 HS;have hrow:=hown.row;rw[HL.out]at hrow;have HD:Hid _:=hown.dig;have HB:Hid _:=hbw;clear hown hbw;have h1:¬i<n:=(by omega);have h2:¬i<m:=(by omega);have hval:val (acc++[c])=x+y:=by
        have e1:=HV.out;rw[List.take_of_length_le (by rw[HX.out]; omega),List.take_of_length_le (by rw[HY.out]; omega),val_words,val_words]at e1;rw[val_snoc,HL.out,e1]
      have HVV:Hid _:=hval;clear hval ha hb
      go_wp2_with (at_builtin; refine wpList_append_own _ rfl _ _ 22 rfl w.heap.size 78 i0 (.int .u32 0) 1 4 Tryz.underlying22 hi0 hz0 hz1 hz2 rfl (by decide) _ _ _ rfl (hrow.alloc _) ⟨wr.heap.size,0,none⟩ 1 1 [.int .u32 (c:Int)] rfl rfl (by exact cell_one wr _ 78) (by intro u hu; simp at hu; subst hu; rfl) (by unfold maxLen; omega) (by omega) (by simp; omega) ?_)
      intro v' w1 hown' hgrow hiff;have hb2:=grown_below (HB.out.alloc (by omega) _) (hrow.alloc _) hgrow (by simp; omega);rw[←HL.out]at hown';obtain⟨ro',rc',e,ho⟩:=own_append HD.out (by omega) hown';have hlen:(acc++[c]).length=i+1:=(by rw[List.length_append,HL.out]; rfl);rw[hlen]at e;subst e;have c3:=norm_any rc' ho.rd (by rw[hlen]; omega) ho.caps (fun e=>by subst e; exact ho.none_cap);rw[HVV.out,hlen]at c3;clear hlen;have HC:Hid _:=c3;have HB2:Hid _:=hb2;clear hown' hgrow hiff ho hb2 hrow c3
      go_wp2_with fail
      refine Calls.mono HC.out ?_;rintro e w2 ⟨so,sc,rfl,ho,hb3⟩;have HO:Hid _:=ho.lower HB2.out.size;have HB3:Hid _:=HB2.out.trans (hb3.mono HB2.out.size);clear ho hb3
      go_wp2
      go_ret
      exact⟨_,_,rfl,HO.out,HB3.out⟩
end Go.Proofs.YtpckmgemfkiifaaGreatDoor
