/- TxtC TxtE TextsWalk -/
import Derived.Test.YtmnlfahgklnpeaaGreatDoorPcondte9a
import Derived.Deep.RegionWith
import Derived.BigRegion
import Derived.Test.YtmnlfahgklnpeaaGreatDoorTxtD
set_option linter.unusedVariables false
set_option linter.unusedSimpArgs false
set_option maxHeartbeats 4000000
set_option maxRecDepth 1000000
namespace Go.Proofs.YtmnlfahgklnpeaaGreatDoor
open Go.RowKit
theorem xcd{y r:Nat}(hr:2≤r)(h:y≠0):bl (y / r)+1≤bl y:=bl_div hr h
theorem jaa{B B':Nat}{w:World}{ao bo:Option Addr}{ca cb:Nat}{l l':List Nat}(h:Own B w ao ca l)(k:OwnB B' w bo cb l'){g:Nat}(hg:ao=some ⟨g,0,none⟩):∀a,bo=some a→some a.block≠some g:=by
  intro a ha e;have:=own_apart (n:=0) h k ⟨g,0,none⟩ hg;apply this;rw[ha];simp only[Value.ownBlock];exact e.symm

theorem jjd{w:World}{ao:Option Addr}{a:List Nat}(ca:Nat)(radix:Int)(ha:Rd w ao a)(la:a.length≤9223372036854775807)(hcap:a.length≤ca)(hnil:ao=none→ca=0)(r0:-9223372036854775808≤radix)(r1:radix≤9223372036854775807):
    Calls Tryz.prog 204 #[.slice ao a.length ca,.int .i64 radix] w fun e w'=>e=.returned (.tuple #[.string (textS a radix).1,.int .i64 (textS a radix).2])∧Below w.heap.size w w':=by
  have c1:=rsound_any ca ha la;unfold textS;by_cases hs:sound a=true
  · obtain⟨ea,na⟩:=sound_words ha.dig hs;rw[hs]at c1 ⊢;simp only[if_true];generalize val a=x at *
    subst ea;by_cases hr:2≤radix∧radix≤36
    · have e1:decide (2≤radix∧radix≤36)=true:=gv hr;rw[e1];simp only[if_true];obtain⟨r,rfl⟩:=Int.eq_ofNat_of_zero_le (show 0≤radix by omega);rw[Int.toNat_natCast];obtain⟨i0,ak,am,ap,aq⟩:=info_parts infoB;have hr2:2≤r:=(by omega);have hr3:r≤36:=(by omega);have hw64:=wrap_u64 r (by omega);have t0:((r:Int)==0)=false:=(by simp; omega);have aa:Hid _:=c1;obtain⟨RR,HRR⟩:∃R,Hid ((if x=0 then((⟨#[48]⟩:ByteArray),(0:Int))else(txt r x,0))=R):=⟨_,rfl⟩;rw[HRR.out];have hblx:=bl_len na;have b1:Below w.heap.size w (w.alloc (.cells #[] 5)):=(Below.refl _ _).alloc (gm _) _;have o1:OwnB w.heap.size (w.alloc (.cells #[] 5)) (some ⟨w.heap.size,0,none⟩) 0 []:=⟨dig8_nil,World.ownsRow_made w #[] 0 (gm _) (by decide) rfl⟩;have c2:=norm_any ca (ha.below b1) (by omega) hcap hnil;rw[val_words]at c2;have HL5:Hid _:=na;obtain⟨n,HN⟩:∃n,Hid ((words x).length=n):=⟨_,rfl⟩;rw[HN.out]at c2 aa ⊢;have ar:Hid _:=c2;have HO1:Hid _:=o1;have af:Hid _:=b1;clear c1 c2 o1 b1 ha la hs e1 hr hcap hnil na r0 r1
      go_enter Tryz.func204,Tryz.ntmps204
      go_wp2_with fail
      refine Calls.mono aa.out ?_;rintro e w' ⟨rfl,hw'⟩;have hw':=hw'.symm;subst hw';clear aa
      go_wp2_with fail
      refine Calls.mono ar.out ?_;rintro e w2 ⟨lo,lc,rfl,ol,b2⟩;have HO2:Hid (Own w.heap.size w2 lo lc (words x)):=ol.lower af.out.size;have au:Hid _:=HO1.out.below b2;have ae:Hid _:=chain2 af.out b2;clear ol b2 ar
      go_wp2
      go_loopg [6,7] x (fun Y v6 v7 wr=>∃(acc:List Nat) (lo:Option Addr) (lc:Nat) (bo:Option Addr) (bc:Nat),v7=.slice lo (words Y).length lc∧v6=.slice bo acc.length bc∧Own w.heap.size wr lo lc (words Y)∧OwnB w.heap.size wr bo bc (acc.map dch)∧digs r x=acc++digs r Y∧acc.length+bl Y≤20000∧(words Y).length≤512∧Below w.heap.size w wr)
      case atStart=>exact⟨[],lo,lc,some ⟨w.heap.size,0,none⟩,0,rfl,rfl,HO2.out,au.out,rfl,by simp; omega,HL5.out,ae.out⟩
      case round=>
        obtain⟨acc,lo,lc,bo,bc,rfl,rfl,hol,hob,hdg,hlen,av,hbw⟩:=hrel;have HOL:Hid _:=hol;have HOB:Hid _:=hob;have HDG:Hid _:=hdg;have HLEN:Hid _:=hlen;have HLY5:Hid _:=av;have HB:Hid _:=hbw;obtain⟨lY,HNY⟩:∃n,Hid ((words gk).length=n):=⟨_,rfl⟩;obtain⟨m,HM⟩:∃m,Hid (acc.length=m):=⟨_,rfl⟩;have hm2:m≤20000:=(by rw[←HM.out]; omega);rw[HNY.out]at av ⊢;rw[HM.out];clear hol hob hdg hlen hbw HO1 HO2 au af ae;by_cases hY0:lY=0
        · subst hY0;have hg0:gk=0:=words_eq_nil.1 (ia.1 HNY.out);have hacc:acc=digs r x:=by
            have h:=HDG.out;rw[hg0,digs_zero,gh]at h;exact h.symm
          have HACC:Hid _:=hacc;clear hg0 hacc;by_cases hm0:m=0
          · subst hm0;have ab:x=0:=by
              have h1:=ia.1 HM.out;rw[HACC.out]at h1;have h2:=valr_digs hr2 x;rw[h1]at h2;exact h2.symm
            have hR:RR=(⟨#[48]⟩,0):=(by rw[←HRR.out,gj ab]);subst hR;clear ab
            go_wp2
            go_ret2
            exact⟨rfl,HB.out⟩
          · have ab:x≠0:=by
              intro e;have h1:=HACC.out;rw[e,digs_zero]at h1;have h2:=HM.out;rw[h1]at h2;exact hm0 h2.symm
            have hR:RR=(txt r x,0):=(by rw[←HRR.out,f7 ab]);subst hR;have hm1:((m:Int)==0)=false:=(by simp; omega);have hbn:bo≠none:=by
              intro e;have h:=HOB.out;rw[e]at h;rcases h.row.2 with⟨_,h3⟩|⟨g,cap,cur,hv,_⟩
              · rw[gy,HM.out]at h3;exact hm0 h3
              · simp at hv
            obtain⟨g,hbo,hg1,hg2⟩:=HOB.out.form hbn;subst hbo;have hlm:(acc.map dch).length=m:=(by rw[gy]; exact HM.out);have HTX:Hid (bytesOf (acc.map dch).reverse=txt r x):=by
              show bytesOf (acc.map dch).reverse=txt r x;unfold txt;rw[HACC.out]
            obtain⟨bs,hbs⟩:∃l,acc.map dch=l:=⟨_,rfl⟩;rw[hbs]at HOB HTX hlm;have HLM:Hid _:=hlm;have o5:OwnB wr.heap.size (wr.alloc (.cells #[] 5)) (some ⟨wr.heap.size,0,none⟩) 0 []:=⟨dig8_nil,World.ownsRow_made wr #[] 0 (gm _) (by decide) rfl⟩;obtain⟨BZ,HBZ⟩:∃n,Hid (wr.heap.size=n):=⟨_,rfl⟩;have HO5:Hid (OwnB BZ (wr.alloc (.cells #[] 5)) (some ⟨wr.heap.size,0,none⟩) 0 []):=by
              show OwnB BZ (wr.alloc (.cells #[] 5)) (some ⟨wr.heap.size,0,none⟩) 0 [];rw[←HBZ.out];exact o5
            have hgz:g<BZ:=(by rw[←HBZ.out]; exact hg2);have hwz:w.heap.size≤BZ:=(by rw[←HBZ.out]; exact HB.out.size);have HOB5:Hid _:=(HOB.out.alloc (.cells #[] 5)).rd;have az:Hid (Below w.heap.size w (wr.alloc (.cells #[] 5))):=HB.out.alloc HB.out.size _;clear o5 hlm hbs hbn ab
            go_wp2
            go_loopw [10,11] (fun bd ag wx=>∃(kk:Nat) (oo:Option Addr) (oc:Nat),ag=.int .i64 ((kk:Int)-1)∧kk≤m∧bd=.slice oo (m-kk) oc∧OwnB BZ wx oo oc ((bs.drop kk).reverse)∧RdB wx (some ⟨g,0,none⟩) bs∧Below w.heap.size w wx∧BZ≤wx.heap.size) (fun _ ag _=>(intOf ag+1).toNat)
            case atStart=>
              refine⟨m,some ⟨wr.heap.size,0,none⟩,0,by go_num,gm _,by rw[Nat.sub_self],?_,HOB5.out,az.out,by have:=HBZ.out; simp; omega⟩;rw[i7 (by rw[HLM.out]; omega)];exact HO5.out
            case round=>
              obtain⟨kk,oo,oc,rfl,hkk,rfl,hoo,hrb,hbx,hsz⟩:=hrel;have HOO:Hid _:=hoo;have HRB:Hid _:=hrb;have HBX:Hid _:=hbx;have hlr:((bs.drop kk).reverse).length=m-kk:=(by rw[lm,il,HLM.out]);have HLR:Hid _:=hlr;clear hoo hrb hbx hlr;by_cases ah:kk=0
              · subst ah;have hlr2:(bs.reverse.map (fun(x:Nat)=>(x:Int))).length=m:=(by rw[gy,lm]; exact HLM.out);have hoo2:=HOO.out;rw[List.drop_zero]at hoo2;have hon:oo≠none:=by
                  intro e;rw[e]at hoo2;rcases hoo2.row.2 with⟨_,h3⟩|⟨g,cap,cur,hv,_⟩
                  · rw[lm,HLM.out]at h3;exact hm0 h3
                  · simp at hv
                obtain⟨g2,hoo3,_,_⟩:=hoo2.form hon;subst hoo3;rw[Nat.sub_zero];have hcv:=run_convert_bytes_arg (P:=Tryz.prog) wr 27 5 ib ir g2 0 m oc (bs.reverse.map (fun(x:Nat)=>(x:Int))) hlr2 (fun i hi=>by
                  rw[Nat.zero_add,hoo2.cell i (by rw[lm,HLM.out]; exact hi),getD_cast]) 9 gi
                have htx:strOfNums (bs.reverse.map (fun(x:Nat)=>(x:Int)))=txt r x:=by
                  rw[←HTX.out];rfl
                rw[htx]at hcv;clear htx hlr2 hoo2 hon
                go_wp2
                go_ret2
                exact⟨rfl,HBX.out⟩
              · obtain⟨j,rfl⟩:∃j,kk=j+1:=⟨kk-1,by omega⟩;have ej:(((j+1:Nat):Int)-1)=(j:Int):=(by omega);simp only[ej];obtain⟨b',off',hgb,_,hcell⟩:=HRB.out.pos (by intro e; have:=HLM.out; rw[e]at this; simp at this; omega);cases hgb
                have k1:=hcell j (by rw[HLM.out]; omega);have d1:=HRB.out.dig.getD j;have HDJ:Hid ((bs.drop j).reverse=(bs.drop (j+1)).reverse++[bs.getD j 0]):=by
                  show(bs.drop j).reverse=(bs.drop (j+1)).reverse++[bs.getD j 0];rw[List.drop_eq_getElem_cons (show j<bs.length by rw[HLM.out]; omega),List.reverse_cons];have hj:j<bs.length:=(by rw[HLM.out]; omega);simp[hj]
                obtain⟨d,hd⟩:∃d,bs.getD j 0=d:=⟨_,rfl⟩;rw[hd]at k1 d1 HDJ;have hrow:=HOO.out.row;rw[HLR.out]at hrow;rw[Nat.zero_add]at k1;have hjm:(j:Int)<(m:Int):=(by omega);clear hcell hd
                go_wp2_with (at_builtin; refine wpList_append_own _ rfl _ _ 27 rfl BZ 5 i0 (.int .u8 0) 1 1 ib ak am ap aq rfl (by decide) _ _ _ rfl (hrow.alloc _) ⟨wr.heap.size,0,none⟩ 1 1 [.int .u8 (d:Int)] rfl rfl (by exact cell_one wr _ 5) (by intro u hu; simp at hu; subst hu; rfl) (by unfold maxLen; omega) (by omega) (by simp; omega) ?_)
                intro v' w1 hown' hgrow hiff;have ac:Below w.heap.size w w1:=(HBX.out.alloc (by omega) _).grown hgrow (by simp; omega) (fun k hk=>by
                  have:=(hrow.alloc (.cells #[.int .u8 (d:Int)] 5)).lt k hk;omega)
                have hrb2:RdB w1 (some ⟨g,0,none⟩) bs:=(HRB.out.below ((Below.refl _ wr).alloc (gm _) (.cells #[.int .u8 (d:Int)] 5))).grown hgrow (fun a ha e=>by
                  cases ha
                  have:=(hrow.alloc (.cells #[.int .u8 (d:Int)] 5)).lt g e.symm;omega)
                have ai:BZ≤w1.heap.size:=by
                  have:=hgrow.size;simp at this;omega
                rw[←HLR.out]at hown';obtain⟨ro',rc',e,ho⟩:=ownB_append HOO.out.dig d1 hown';subst e;have HO6:Hid _:=ho;have aj:Hid _:=ac;have HRB6:Hid _:=hrb2;clear hown' hgrow hiff ho ac hrow hrb2 k1
                go_wp2
                go_roundw
                case rel=>
                  refine⟨j,ro',rc',by go_num,by omega,?_,?_,HRB6.out,aj.out,ai⟩
                  · rw[fv,HLR.out]
                    congr 1
                    simp;omega
                  · rw[HDJ.out];exact HO6.out
                case measure=>simp only[intOf]; omega
        · have hgk0:gk≠0:=fun e=>hY0 (by rw[←HNY.out,e,words_zero]; rfl);have HG0:Hid _:=hgk0;have hln:lo≠none:=by
            intro e;have h:=HOL.out;rw[e]at h;rcases h.row.2 with⟨_,h3⟩|⟨g,cap,cur,hv,_⟩
            · rw[HNY.out]at h3;exact hY0 h3
            · simp at hv
          obtain⟨g,hlo,hg1,hg2⟩:=HOL.out.form hln;subst hlo;have hpos:(0:Int)<(lY:Int):=(by omega);have hcapL:=HOL.out.caps;rw[HNY.out]at hcapL;clear hgk0 hln
          go_wp2
          go_loopw [8,9] (fun v8 v9 wx=>∃(kk rem:Nat) (L:List Nat),v9=.int .i64 ((kk:Int)-1)∧kk≤lY∧v8=.int .u64 (rem:Int)∧rem<r∧L.length=lY∧Own w.heap.size wx (some ⟨g,0,none⟩) lc L∧OwnB w.heap.size wx bo bc (acc.map dch)∧Below w.heap.size w wx∧val (L.drop kk)*r+rem=val ((words gk).drop kk)∧∀p,p<kk→L.getD p 0=(words gk).getD p 0) (fun _ v9 _=>(intOf v9+1).toNat)
          case atStart=>
            refine⟨lY,0,words gk,by go_num,gm _,rfl,by omega,HNY.out,HOL.out,HOB.out,HB.out,?_,fun p _=>rfl⟩;rw[i7 (by rw[HNY.out]; omega)];simp[val]
          case round=>
            obtain⟨kk,rem,L,rfl,hkk,rfl,hrem,hL,hoL,hoB,hbx,hval,hfix⟩:=hrel;have HL:Hid _:=hL;have HOLL:Hid _:=hoL;have HOBB:Hid _:=hoB;have HBX:Hid _:=hbx;have HVAL:Hid _:=hval;have HFIX:Hid _:=hfix;clear hL hoL hoB hbx hval hfix;by_cases ah:kk=0
            · subst ah;have hq:val L=gk / r∧rem=gk%r:=by
                have h1:=HVAL.out;rw[List.drop_zero,List.drop_zero,val_words]at h1;have h2:=Nat.div_mod_unique (a:=gk) (b:=r) (c:=rem) (d:=val L) (by omega);have h3:=h2.2 ⟨by rw[Nat.mul_comm]; omega,hrem⟩;exact⟨h3.1.symm,h3.2.symm⟩
              have c3:=norm_any lc HOLL.out.rd (by rw[HL.out]; omega) HOLL.out.caps (by simp);rw[hq.1,HL.out]at c3;have aw:Hid _:=c3;have HREM:Hid _:=hq.2;have c4:=fun w=>digit_any rem w (show rem<36 by omega);have hd256:=dch_lt (show rem<36 by omega);obtain⟨d,hd⟩:∃d,dch rem=d:=⟨_,rfl⟩;rw[hd]at c4 hd256;have HD:Hid _:=hd;have ax:Hid _:=c4;have hw32:=wrap_u32 rem (by omega);clear hq c3 c4 hd
              go_wp2_with fail
              refine Calls.mono aw.out ?_;rintro e w4 ⟨no,nc,rfl,on,b4⟩;have hoB4:=HOBB.out.below b4;have HON:Hid (Own w.heap.size w4 no nc (words (gk / r))):=on.lower HBX.out.size;have ay:Hid _:=chain2 HBX.out b4;have hrow:=hoB4.row;rw[gy,HM.out]at hrow;have HDG8:Hid _:=hoB4.dig;have HOB4:Hid _:=hoB4;have hwsz:=ay.out.size;clear on b4 hoB4 aw
              go_wp2_with fail
              refine Calls.mono (ax.out _) ?_;rintro e w' ⟨rfl,hw'⟩;have hw':=hw'.symm;subst hw';clear ax
              go_wp2_with (at_builtin; refine wpList_append_own _ rfl _ _ 27 rfl w.heap.size 5 i0 (.int .u8 0) 1 1 ib ak am ap aq rfl (by decide) _ _ _ rfl (hrow.alloc _) ⟨w4.heap.size,0,none⟩ 1 1 [.int .u8 (d:Int)] rfl rfl (by exact cell_one w4 _ 5) (by intro u hu; simp at hu; subst hu; rfl) (by unfold maxLen; omega) (by omega) (by simp; omega) ?_)
              intro v' w1 hown' hgrow hiff;have ac:=grown_below (ay.out.alloc (by omega) _) (hrow.alloc _) hgrow (by simp; omega);have hon2:Own w.heap.size w1 no nc (words (gk / r)):=(HON.out.alloc (.cells #[.int .u8 (d:Int)] 5)).kept hgrow (own_apart (HON.out.alloc (.cells #[.int .u8 (d:Int)] 5)) (HOB4.out.alloc (.cells #[.int .u8 (d:Int)] 5)));rw[←HM.out,←gy (f:=dch)]at hown';obtain⟨ro',rc',e,ho⟩:=ownB_append HDG8.out hd256 hown';subst e;have HO6:Hid _:=ho;have aj:Hid _:=ac;have HON6:Hid _:=hon2;clear hown' hgrow hiff ho ac hrow hon2
              go_wp2
              go_roundg (gk / r)
              case measure=>exact Nat.div_lt_self (Nat.pos_of_ne_zero HG0.out) (by omega)
              case rel=>
                refine⟨acc++[rem],no,nc,ro',rc',rfl,by simp,HON6.out,?_,?_,?_,gz (words_mono (Nat.div_le_self _ _)) HLY5.out,aj.out⟩
                · rw[j6,List.map_singleton,HD.out];exact HO6.out
                · rw[HDG.out,digs_pos hr2 HG0.out,←HREM.out];simp
                · have h1:=bl_div hr2 HG0.out;have h2:=HLEN.out;rw[fv,List.length_singleton];omega
            · obtain⟨j,rfl⟩:∃j,kk=j+1:=⟨kk-1,by omega⟩;have ej:(((j+1:Nat):Int)-1)=(j:Int):=(by omega);simp only[ej];have k1:=HOLL.out.cell j (by rw[HL.out]; omega);have k2:=HOLL.out.frozen j;rw[HFIX.out j (by omega)]at k1;have d1:=(words_dig gk).getD j;have hst:∀t,(words gk).getD j 0=t→val ((L.set j ((rem*4294967296+t) / r)).drop j)*r+(rem*4294967296+t)%r=val ((words gk).drop j):=by
                intro t ht;rw[set_drop_at _ _ _ (by rw[HL.out]; omega),val_drop_at (words gk) _ (by rw[HNY.out]; omega),ht];apply byWord_step;exact HVAL.out
              obtain⟨t,ht⟩:∃t,(words gk).getD j 0=t:=⟨_,rfl⟩;have HST:Hid _:=hst t ht;rw[ht]at k1 d1;have hqb:(rem*4294967296+t) / r<4294967296:=Nat.div_lt_of_lt_mul (by
                have:(rem+1)*4294967296≤r*4294967296:=Nat.mul_le_mul_right _ hrem;omega)
              have hmb:(rem*4294967296+t)%r<r:=Nat.mod_lt _ (by omega);have tq:((rem:Int)*4294967296+(t:Int)) / (r:Int)=(((rem*4294967296+t) / r:Nat):Int):=(by rw[Int.natCast_ediv,Int.natCast_add,Int.natCast_mul]; rfl);have tm:((rem:Int)*4294967296+(t:Int))%(r:Int)=(((rem*4294967296+t)%r:Nat):Int):=(by rw[Int.natCast_emod,Int.natCast_add,Int.natCast_mul]; rfl);obtain⟨qd,hqd⟩:∃q,(rem*4294967296+t) / r=q:=⟨_,rfl⟩;obtain⟨rd,hrd⟩:∃q,(rem*4294967296+t)%r=q:=⟨_,rfl⟩;rw[hqd]at tq hqb HST;rw[hrd]at tm hmb HST;have HSet:Hid _:=HOLL.out.set j qd hqb;have HOB2:Hid _:=HOBB.out.kept (HOLL.out.setG j qd) (jaa HOLL.out HOBB.out rfl);have ae:Hid _:=HBX.out.setCell (p:=⟨g,j,none⟩) hg1 (.int .u32 (qd:Int));have hjl:(j:Int)<(lY:Int):=(by omega);clear hst ht hqd hrd
              go_wp2
              go_roundw
              case rel=>
                refine⟨j,rd,L.set j qd,by go_num,by omega,by rw[tm],hmb,by rw[List.length_set]; exact HL.out,HSet.out,HOB2.out,ae.out,HST.out,fun p hp=>?_⟩;rw[getD_set_ne _ _ _ _ (by omega)];exact HFIX.out p (by omega)
              case measure=>simp only[intOf]; omega
    · have e1:decide (2≤radix∧radix≤36)=false:=gn hr;rw[e1];have aa:Hid _:=c1;obtain⟨n,HN⟩:∃n,Hid ((words x).length=n):=⟨_,rfl⟩;rw[HN.out]at aa ⊢;have hc:radix<2∨(36<radix∧¬radix<2):=(by omega);clear c1 ha la hs e1 hr na hcap hnil;rcases hc with h|⟨h,h2⟩;all_goals
        go_enter Tryz.func204,Tryz.ntmps204
        go_wp2_with fail
        refine Calls.mono aa.out ?_;rintro e w' ⟨rfl,hw'⟩;have hw':=hw'.symm;subst hw'
        go_wp2
        go_ret2
        exact⟨rfl,Below.refl _ _⟩
  · simp only[Bool.not_eq_true]at hs;rw[hs]at c1 ⊢;have aa:Hid _:=c1;generalize a.length=n at *
    clear c1 ha la hs
    go_enter Tryz.func204,Tryz.ntmps204
    go_wp2_with fail
    refine Calls.mono aa.out ?_;rintro e w' ⟨rfl,hw'⟩;have hw':=hw'.symm;subst hw'
    go_wp2
    go_ret2
    exact⟨rfl,Below.refl _ _⟩
theorem zsh(r x:Nat):(txt r x).size=(digs r x).length:=by unfold txt; rw[bytesOf_size,lm,gy]
end Go.Proofs.YtmnlfahgklnpeaaGreatDoor
