/- NatL -/
import Derived.Test.YtgjohjfehgdgbaaGreatDoorNatK
namespace Go.Proofs.YtgjohjfehgdgbaaGreatDoor
open Go.RowKit
set_option linter.unusedVariables false
set_option linter.unusedSimpArgs false

theorem less_step(acc a b:List Nat)(i c:Nat)(hi:acc.length=i)(ha:Dig a)(hb:Dig b)(hc:c≤1)(h:val acc+val (b.take i)=val (a.take i)+pw i*c):
    val (acc++[dif (a.getD i 0) (b.getD i 0) c])+val (b.take (i+1))=val (a.take (i+1))+pw (i+1)*bor (a.getD i 0) (b.getD i 0) c:=by
  rw[val_snoc,val_take_succ a,val_take_succ b,pw_succ,hi];have e:=dif_eq (ha.getD i) (hb.getD i) hc;have e2:=congrArg (fun z=>pw i*z) e;simp only[Nat.mul_add]at e2;have e3:4294967296*pw i*bor (a.getD i 0) (b.getD i 0) c=pw i*(4294967296*bor (a.getD i 0) (b.getD i 0) c):=by
    rw[Nat.mul_comm 4294967296 (pw i),Nat.mul_assoc]
  rw[e3];omega

set_option maxHeartbeats 2000000 in
set_option maxRecDepth 1000000 in
theorem rless_any{w:World}{ao bo:Option Addr}{x y:Nat}(ca cb:Nat)(ha:Rd w ao (words x))(hb:Rd w bo (words y))(hx:(words x).length≤100000)(hxy:y≤x):
    Calls Tryz.prog 132 #[.slice ao (words x).length ca,.slice bo (words y).length cb] w (Row1 w (words (x-y))):=by
  obtain⟨i0,hi0,hz0,hz1,hz2⟩:=info_parts infoU;obtain⟨n,HX⟩:∃n,Hid ((words x).length=n):=⟨_,rfl⟩;obtain⟨m,HY⟩:∃m,Hid ((words y).length=m):=⟨_,rfl⟩;have hmn:m≤n:=by rw[←HX.out,←HY.out]; exact words_mono hxy
  have HXY:Hid _:=hxy;rw[HX.out]at hx ⊢;rw[HY.out];clear hxy
  go_enter Tryz.func132,Tryz.ntmps132
  go_wp2
  go_loopw [5,6,7] (fun v5 v6 v7 wr=>∃(i c:Nat) (acc:List Nat) (ro:Option Addr) (rc:Nat),i≤n∧v7=.int .i64 (i:Int)∧v6=.int .u64 (c:Int)∧c≤1∧v5=.slice ro i rc∧acc.length=i∧Own w.heap.size wr ro rc acc∧Below w.heap.size w wr∧val acc+val ((words y).take i)=val ((words x).take i)+pw i*c) (fun _ _ v7 _=>n-(intOf v7).toNat)
  case atStart=>
    refine⟨0,0,[],some ⟨w.heap.size,0,none⟩,0,Nat.zero_le _,rfl,rfl,by omega,rfl,rfl,⟨dig_nil,World.ownsRow_made w #[] 0 (Nat.le_refl _) (by decide) rfl⟩,(Below.refl _ w).alloc (Nat.le_refl _) _,by simp[val]⟩
  case round=>
    obtain⟨i,c,acc,ro,rc,hi,rfl,rfl,hc,rfl,hacc,hown,hbw,hv⟩:=hrel;have HV:Hid _:=hv;have HL:Hid _:=hacc;have hwsz:=hbw.size;clear hv hacc;by_cases hin:i<n
    · have c1:=rword_any ca i (ha.below hbw);have c2:=rword_any cb i (hb.below hbw);rw[HX.out]at c1;rw[HY.out]at c2;have d1:=(words_dig x).getD i;have d2:=(words_dig y).getD i;have HS:Hid _:=less_step acc (words x) (words y) i c HL.out (words_dig x) (words_dig y) hc HV.out;obtain⟨s,hs⟩:∃s,(words x).getD i 0=s:=⟨_,rfl⟩;obtain⟨t,ht⟩:∃t,(words y).getD i 0=t:=⟨_,rfl⟩;rw[hs]at c1 d1 HS;rw[ht]at c2 d2 HS;clear hs ht ha hb;have hrow:=hown.row;rw[HL.out]at hrow;have HD:Hid _:=hown.dig;have HB:Hid _:=hbw;clear hown hbw;by_cases hlt:s<t+c
      · have HE:Hid ((s:Int)+4294967296-((t:Int)+c)=((dif s t c:Nat):Int)∧bor s t c=1):=⟨by unfold dif; omega,by unfold bor; rw[if_pos hlt]⟩
        go_wp2_with fail
        refine c1.mono ?_;rintro e w' ⟨rfl,hw'⟩;have hw':=hw'.symm;subst hw'
        go_wp2_with fail
        refine c2.mono ?_;rintro e w' ⟨rfl,hw'⟩;have hw':=hw'.symm;subst hw';clear c1 c2
        go_wp2_with (at_builtin; refine wpList_append_own _ rfl _ _ 22 rfl w.heap.size 99 i0 (.int .u32 0) 1 4 Tryz.underlying22 hi0 hz0 hz1 hz2 rfl (by decide) _ _ _ rfl (hrow.alloc _) ⟨wr.heap.size,0,none⟩ 1 1 [.int .u32 ((s:Int)+4294967296-((t:Int)+c))] rfl rfl (by exact cell_one wr _ 99) (by intro u hu; simp at hu; subst hu; rfl) (by unfold maxLen; omega) (by omega) (by simp; omega) ?_)
        intro v' w1 hown' hgrow hiff;have hb2:=grown_below (HB.out.alloc (by omega) _) (hrow.alloc _) hgrow (by simp; omega);rw[←HL.out,HE.out.1]at hown';obtain⟨ro',rc',e,ho⟩:=own_append HD.out (dif_lt _ _ _) hown';subst e;have HO:Hid _:=ho;have HB2:Hid _:=hb2;clear hown' hgrow hiff ho hb2 hrow
        go_wp2
        go_roundw
        case rel=>
          refine⟨i+1,1,acc++[dif s t c],ro',rc',by omega,by go_num,rfl,by omega,by rw[List.length_append,HL.out]; rfl,by rw[List.length_append,HL.out]; rfl,HO.out,HB2.out,?_⟩;have:=HS.out;rw[HE.out.2]at this;exact this
        case measure=>simp only[intOf]; omega
      · have HE:Hid ((s:Int)-((t:Int)+c)=((dif s t c:Nat):Int)∧bor s t c=0):=⟨by unfold dif; omega,by unfold bor; rw[if_neg hlt]⟩
        go_wp2_with fail
        refine c1.mono ?_;rintro e w' ⟨rfl,hw'⟩;have hw':=hw'.symm;subst hw'
        go_wp2_with fail
        refine c2.mono ?_;rintro e w' ⟨rfl,hw'⟩;have hw':=hw'.symm;subst hw';clear c1 c2
        go_wp2_with (at_builtin; refine wpList_append_own _ rfl _ _ 22 rfl w.heap.size 99 i0 (.int .u32 0) 1 4 Tryz.underlying22 hi0 hz0 hz1 hz2 rfl (by decide) _ _ _ rfl (hrow.alloc _) ⟨wr.heap.size,0,none⟩ 1 1 [.int .u32 ((s:Int)-((t:Int)+c))] rfl rfl (by exact cell_one wr _ 99) (by intro u hu; simp at hu; subst hu; rfl) (by unfold maxLen; omega) (by omega) (by simp; omega) ?_)
        intro v' w1 hown' hgrow hiff;have hb2:=grown_below (HB.out.alloc (by omega) _) (hrow.alloc _) hgrow (by simp; omega);rw[←HL.out,HE.out.1]at hown';obtain⟨ro',rc',e,ho⟩:=own_append HD.out (dif_lt _ _ _) hown';subst e;have HO:Hid _:=ho;have HB2:Hid _:=hb2;clear hown' hgrow hiff ho hb2 hrow
        go_wp2
        go_roundw
        case rel=>
          refine⟨i+1,0,acc++[dif s t c],ro',rc',by omega,by go_num,rfl,by omega,by rw[List.length_append,HL.out]; rfl,by rw[List.length_append,HL.out]; rfl,HO.out,HB2.out,?_⟩;have:=HS.out;rw[HE.out.2]at this;exact this
        case measure=>simp only[intOf]; omega
    · have e:i=n:=(by omega);subst e;have hval:val acc=x-y:=by
        have h1:=HV.out;rw[List.take_of_length_le (by rw[HY.out]; omega),List.take_of_length_le (by rw[HX.out]; omega),val_words,val_words]at h1;have h2:=val_lt hown.dig;rw[HL.out]at h2;exact diff_end h1 h2 HXY.out
      have c3:=norm_any rc hown.rd (by rw[HL.out]; omega) hown.caps (fun e=>by subst e; exact hown.none_cap);rw[hval,HL.out]at c3;have HC:Hid _:=c3;have HB:Hid _:=hbw;clear hval c3 hown hbw ha hb
      go_wp2_with fail
      refine Calls.mono HC.out ?_;rintro e w2 ⟨so,sc,rfl,ho,hb3⟩;have HO:Hid _:=ho.lower HB.out.size;have HB3:Hid _:=HB.out.trans (hb3.mono HB.out.size);clear ho hb3
      go_wp2
      go_ret
      exact⟨_,_,rfl,HO.out,HB3.out⟩

theorem cmp_at{x y k:Nat}(h:x / pw (k+1)=y / pw (k+1)):
    ((words x).getD k 0=(words y).getD k 0→x / pw k=y / pw k)∧((words y).getD k 0<(words x).getD k 0→cmpN x y=1)∧((words x).getD k 0<(words y).getD k 0→cmpN x y=-1):=by
  obtain⟨a1,a2,a3⟩:=order_step x y k h;rw[words_getD,words_getD];refine⟨a1,fun h1=>?_,fun h1=>?_⟩
  · have:=a3 h1;unfold cmpN;rw[if_neg (by omega),if_pos this]
  · have:=a2 h1;unfold cmpN;rw[if_pos this]

set_option maxHeartbeats 2000000 in
set_option maxRecDepth 1000000 in
theorem rorder_any{w:World}{ao bo:Option Addr}{x y:Nat}(ca cb:Nat)(ha:Rd w ao (words x))(hb:Rd w bo (words y))(hx:(words x).length≤1000000)(hy:(words y).length≤1000000):
    Calls Tryz.prog 129 #[.slice ao (words x).length ca,.slice bo (words y).length cb] w fun e w'=>e=.returned (.int .i64 (cmpN x y))∧Below w.heap.size w w':=by
  by_cases hl:(words x).length=(words y).length
  · have HX:Hid ((words x).length=(words y).length):=hl;obtain⟨n,hn⟩:∃n,n=(words x).length:=⟨_,rfl⟩;rw[←hl,←hn];have HN:Hid (n=(words x).length):=hn;rw[←hn]at hx;clear hl hn hy
    go_enter Tryz.func129,Tryz.ntmps129
    go_wp2
    go_loopw [5] (fun v wr=>Below w.heap.size w wr∧∃k:Nat,k≤n∧v=.int .i64 ((k:Int)-1)∧x / pw k=y / pw k) (fun v _=>(intOf v+1).toNat)
    case atStart=>
      refine⟨Below.refl _ _,n,Nat.le_refl _,rfl,?_⟩;rw[div_words_length x _ (by rw[HN.out]; omega),div_words_length y _ (by rw[HN.out,←HX.out]; omega)]
    case round=>
      obtain⟨hbw,k,hk,rfl,hd⟩:=hrel;have HD:Hid _:=hd;clear hd;by_cases hk0:k=0
      · subst hk0;have hxy:cmpN x y=0:=by
          have:=HD.out;rw[pw_zero,Nat.div_one,Nat.div_one]at this;rw[this];simp[cmpN]
        go_wp2
        go_ret
        exact⟨retI hxy.symm,hbw⟩
      · obtain⟨j,rfl⟩:∃j,k=j+1:=⟨k-1,by omega⟩;have ha':=ha.below hbw;have hb':=hb.below hbw;obtain⟨b1,o1,rfl,_,hc1⟩:=ha'.pos (by intro e; have:=HN.out; rw[e]at this; simp at this; omega);obtain⟨b2,o2,rfl,_,hc2⟩:=hb'.pos (by intro e; have:=HX.out; rw[←HN.out,e]at this; simp at this; omega);have c1:=hc1 j (by have:=HN.out; omega);have c2:=hc2 j (by have:=HN.out; have:=HX.out; omega);have HS:Hid _:=cmp_at HD.out;have d1:=(words_dig x).getD j;have d2:=(words_dig y).getD j;clear hc1 hc2 ha hb ha' hb';obtain⟨p,hp⟩:∃p,(words x).getD j 0=p:=⟨_,rfl⟩;obtain⟨q,hq⟩:∃q,(words y).getD j 0=q:=⟨_,rfl⟩;rw[hp,hq]at HS;rw[hp]at c1 d1;rw[hq]at c2 d2;clear hp hq;have e1:(((j+1:Nat):Int)-1)=(j:Int):=(by omega);have e2:((j:Int)).toNat=j:=(by omega);by_cases hpq:q<p
        · simp only[e1]
          go_wp2
          go_region
          go_wp2
          go_ret
          exact⟨retI (HS.out.2.1 hpq).symm,hbw.drew⟩
        · by_cases hqp:p<q
          · simp only[e1]
            go_wp2
            go_region
            go_wp2
            go_region
            go_wp2
            go_ret
            exact⟨retI (HS.out.2.2 hqp).symm,hbw.drew.drew⟩
          · have e3:p=q:=(by omega);subst e3;simp only[e1]
            go_wp2
            go_region
            go_wp2
            go_region
            go_wp2
            go_roundw
            case rel=>exact⟨hbw.drew.drew,j,by omega,by go_num,HS.out.1 (by trivial)⟩
            case measure=>simp only[intOf]; omega
  · by_cases h1:(words x).length<(words y).length
    · have hc:cmpN x y=-1:=by
        have:=lt_of_words_length h1;unfold cmpN;rw[if_pos this]
      rw[hc];generalize (words x).length=n at *
      generalize (words y).length=m at *
      clear ha hb hc
      go_enter Tryz.func129,Tryz.ntmps129
      go_wp2
      go_ret
      exact⟨rfl,Below.refl _ _⟩
    · have h2:(words y).length<(words x).length:=(by omega);have hc:cmpN x y=1:=by
        have:=lt_of_words_length h2;unfold cmpN;rw[if_neg (by omega),if_pos this]
      rw[hc];generalize (words x).length=n at *
      generalize (words y).length=m at *
      clear ha hb hc
      go_enter Tryz.func129,Tryz.ntmps129
      go_wp2
      go_ret
      exact⟨rfl,Below.refl _ _⟩
end Go.Proofs.YtgjohjfehgdgbaaGreatDoor
