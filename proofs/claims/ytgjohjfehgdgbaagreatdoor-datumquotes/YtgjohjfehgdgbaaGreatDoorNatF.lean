/- NatF -/
import Derived.Test.YtgjohjfehgdgbaaGreatDoorNatE
import Derived.Laws.AppendOwnNone
namespace Go.Proofs.YtgjohjfehgdgbaaGreatDoor
open Go.RowKit
set_option linter.unusedVariables false
set_option linter.unusedSimpArgs false

theorem mul_bound{p q:Nat}(hp:p<4294967296)(hq:q<4294967296):p*q≤18446744065119617025:=by
  have:p*q≤4294967295*4294967295:=Nat.mul_le_mul (by omega) (by omega);omega
theorem mul_boundI{p q:Nat}(hp:p<4294967296)(hq:q<4294967296):(p:Int)*(q:Int)≤18446744065119617025∧0≤(p:Int)*(q:Int):=by
  have h:=mul_bound hp hq;have e:(p:Int)*(q:Int)=((p*q:Nat):Int):=by rw[Int.natCast_mul]
  rw[e];omega
theorem val_set(l:List Nat)(i d:Nat)(hi:i<l.length):val (l.set i d)+pw i*l.getD i 0=val l+pw i*d:=by
  have e1:=val_split (l.set i d) (i+1);have e2:=val_split l (i+1);rw[val_set_take l i d hi,List.length_set,List.drop_set_of_lt (by omega)]at e1;rw[val_take_succ]at e2;omega
theorem getD_set_ne(l:List Nat)(i p d:Nat)(h:i≠p):(l.set i d).getD p 0=l.getD p 0:=by
  simp only[List.getD_eq_getElem?_getD];rw[List.getElem?_set,if_neg h]
theorem own_of_row{B:Nat}{w:World}{v:Value}{n:Nat}{l:List Nat}(hd:Dig l)(hn:n=l.length)(h:w.ownsRow B 99 1 v n (U l)):∃ao cap,v=.slice ao l.length cap∧Own B w ao cap l:=by
  subst hn;have hv:∃ao cap,v=.slice ao l.length cap:=by
    rcases h.2 with⟨h2,h3⟩ | ⟨g,cap,cur,h2,_⟩
    · exact⟨none,0,by rw[h2,h3]⟩
    · exact⟨_,_,h2⟩
  obtain⟨ao,cap,rfl⟩:=hv;exact⟨ao,cap,rfl,hd,h⟩
theorem grown_below{B:Nat}{w w1 w2:World}{v:Value}{n:Nat}{xs:List Value}{e:TypeId}{size:Nat}(hb:Below B w w1)(h:w1.ownsRow B e size v n xs)(hg:w1.grownBy w2 v.ownBlock)(hB:B≤w1.heap.size):Below B w w2:=
  hb.grown hg hB (fun k hk=>(h.lt k hk).1)

set_option maxHeartbeats 2000000 in
set_option maxRecDepth 1000000 in
theorem norm_any{w:World}{ao:Option Addr}{l:List Nat}(cap:Nat)(h:Rd w ao l)(hl:l.length≤35184372087808)(hcap:l.length≤cap)(hnil:ao=none→cap=0):
    Calls Tryz.prog 126 #[.slice ao l.length cap] w (Row1 w (words (val l))):=by
  obtain⟨i0,hi,hz0,hz1,hz2⟩:=info_parts infoU;obtain⟨n,HN⟩:∃n,Hid (l.length=n):=⟨_,rfl⟩;rw[HN.out]at hl hcap ⊢
  go_enter Tryz.func126,Tryz.ntmps126
  go_wp2
  go_loopw [3] (fun v wr=>wr=w∧∃k:Nat,k≤n∧v=.int .i64 (k:Int)∧val (l.take k)=val l) (fun v _=>(intOf v).toNat)
  case atStart=>exact⟨rfl,n,Nat.le_refl _,rfl,by rw[←HN.out,List.take_length]⟩
  case round=>
    obtain⟨rfl,k,hk,rfl,hv⟩:=hrel;have HV:Hid _:=hv;clear hv;have done:k=0∨l.getD (k-1) 0≠0→Hid (l.take k=words (val l)):=fun hh=>words_take h.dig k (by rw[HN.out]; exact hk) HV.out hh;have hown:(wr.alloc (.cells #[] 99)).ownsRow wr.heap.size 99 1 (.slice (some ⟨wr.heap.size,0,none⟩) 0 0) 0 []:=World.ownsRow_made wr #[] 0 (Nat.le_refl _) (by decide) rfl;have hb1:Below wr.heap.size wr (wr.alloc (.cells #[] 99)):=(Below.refl _ _).alloc (Nat.le_refl _) _;have hsz:(wr.alloc (.cells #[] 99)).heap.size=wr.heap.size+1:=(by simp);by_cases h0:k=0
    · subst h0;have D:=done (.inl rfl);clear done;rw[List.take_zero]at D;cases ao with
      | none =>
        have hc0:=hnil rfl;subst hc0
        go_wp2_with (at_builtin; refine wpList_append_own_none rfl _ _ 22 rfl wr.heap.size 99 i0 1 Tryz.underlying22 hi _ _ _ rfl hown rfl ?_)
        go_ret
        obtain⟨ro,rc,e,ho⟩:=own_of_row (l:=[]) dig_nil rfl hown;exact⟨some ⟨wr.heap.size,0,none⟩,0,by rw[←D.out]; rfl,by rw[←D.out]; exact⟨dig_nil,hown⟩,hb1⟩
      | some a =>
        go_wp2_with (at_builtin; refine wpList_append_own _ rfl _ _ 22 rfl wr.heap.size 99 i0 (.int .u32 0) 1 4 Tryz.underlying22 hi hz0 hz1 hz2 rfl (by decide) _ _ _ rfl hown a 0 cap [] rfl (by first | rfl | simp) (by intro j u hj; simp at hj) (by intro u hu; simp at hu) (by unfold maxLen; omega) (by omega) (by rw[hsz]; omega) ?_)
        intro v' w1 hown' hgrow hiff;have hb2:=grown_below hb1 hown hgrow (by rw[hsz]; omega);obtain⟨ro,rc,e,ho⟩:=own_of_row (l:=[]) dig_nil rfl hown';subst e;have HO:Hid _:=ho;have HB:Hid _:=hb2;clear hown hgrow hiff hown' ho hb2 hb1 h
        go_wp2
        go_ret
        exact⟨ro,rc,by rw[←D.out]; rfl,by rw[←D.out]; exact HO.out,HB.out⟩
    · have hne:l≠[]:=(by intro e; have:=HN.out; rw[e]at this; simp at this; omega);obtain⟨b,off,rfl,hb,hc⟩:=h.pos hne;have hcell:=hc (k-1) (by rw[HN.out]; omega);have hx:=h.dig.getD (k-1);have h1:(0:Int)<k:=(by omega);by_cases hz:l.getD (k-1) 0=0
      · have hv':=val_take_pred k h0 hz;rw[hz]at hcell;have HP:Hid _:=hv';clear hv' hz hx h hne hc done hown hb1 hsz
        go_wp2
        go_roundw
        case rel=>exact⟨trivial,k-1,by omega,by go_num,HP.out.trans HV.out⟩
        case measure=>simp[intOf]; omega
      · have D:=done (.inr hz);have hz':(((l.getD (k-1) 0:Nat):Int)==0)=false:=(by simp; simp at hz; omega);have hdk:Dig (l.take k):=h.dig.take k;have hnews:∀(j:Nat) (u:Value),(U (l.take k))[j]?=some u→(wr.alloc (.cells #[] 99)).cell? ((⟨b,off,none⟩:Addr).add j)=some u:=by
          intro j u hj;have hjk:j<k:=by
            apply Classical.byContradiction;intro hh;rw[List.getElem?_eq_none (by rw[U_length,List.length_take]; omega)]at hj;cases hj
          have hjn:j<l.length:=(by rw[HN.out]; omega);rw[Addr.add_lit,hb1.cell (by exact hb),hc j hjn];rw[U_get _ _ (by rw[List.length_take]; omega)]at hj;rw[←hj]
          congr 3
          simp only[List.getD_eq_getElem?_getD];rw[List.getElem?_take,if_pos hjk]
        have hlk:(U (l.take k)).length=k*1:=(by rw[U_length,List.length_take,HN.out]; omega);generalize l.getD (k-1) 0=x at *
        clear done
        go_wp2_with (at_builtin; refine wpList_append_own _ rfl _ _ 22 rfl wr.heap.size 99 i0 (.int .u32 0) 1 4 Tryz.underlying22 hi hz0 hz1 hz2 rfl (by decide) _ _ _ rfl hown ⟨b,off,none⟩ k cap (U (l.take k)) rfl hlk hnews (U_one _) (by unfold maxLen; omega) (by omega) (by rw[hsz]; omega) ?_)
        intro v' w1 hown' hgrow hiff;have hb2:=grown_below hb1 hown hgrow (by rw[hsz]; omega);try simp only[List.nil_append,Nat.zero_add]at hown'
        obtain⟨ro,rc,e,ho⟩:=own_of_row hdk (by rw[List.length_take,HN.out]; omega) hown';subst e;have HO:Hid _:=ho;have HB:Hid _:=hb2;clear hown hgrow hiff hown' ho hb2 hb1 h hnews hlk hdk hc
        go_wp2
        go_ret
        exact⟨ro,rc,by rw[←D.out]; rfl,by rw[←D.out]; exact HO.out,HB.out⟩
end Go.Proofs.YtgjohjfehgdgbaaGreatDoor
