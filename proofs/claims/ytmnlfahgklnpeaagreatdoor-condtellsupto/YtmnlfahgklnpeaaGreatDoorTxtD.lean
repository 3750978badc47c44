/- TxtD -/
import Derived.Test.YtmnlfahgklnpeaaGreatDoorTxtA
import Derived.Test.YtmnlfahgklnpeaaGreatDoorNatZ
import Derived.Deep.LoopGhost
import Derived.BigRegion
namespace Go.Proofs.YtmnlfahgklnpeaaGreatDoor
open Go.RowKit
set_option linter.unusedVariables false
set_option linter.unusedSimpArgs false

def turned(l:List Nat)(n i:Nat)(L:List Nat):Prop:=L.length=n∧∀p,p<n→L.getD p 0=if p<i∨n-1-i<p then l.getD (n-1-p) 0 else l.getD p 0
theorem turned_start(l:List Nat):turned l l.length 0 l:=by
  refine⟨rfl,fun p hp=>?_⟩;rw[if_neg (by omega)]
theorem turned_step{l L:List Nat}{n i:Nat}(hn:l.length=n)(h:turned l n i L)(hi:i<n-1-i):
    turned l n (i+1) ((L.set i (l.getD (n-1-i) 0)).set (n-1-i) (l.getD i 0))∧L.getD i 0=l.getD i 0∧L.getD (n-1-i) 0=l.getD (n-1-i) 0:=by
  have h1:=h.2 i (by omega);have h2:=h.2 (n-1-i) (by omega);rw[if_neg (by omega)]at h1 h2;refine⟨⟨by rw[List.length_set,List.length_set]; exact h.1,fun p hp=>?_⟩,h1,h2⟩;by_cases e1:p=n-1-i
  · rw[e1,getD_set_eq _ _ _ (by rw[List.length_set,h.1]; omega),if_pos (by omega)]
    congr 1
    omega
  · rw[getD_set_ne _ _ _ _ (fun e=>e1 e.symm)];by_cases e2:p=i
    · rw[e2,getD_set_eq _ _ _ (by rw[h.1]; omega),if_pos (by omega)]
    · rw[getD_set_ne _ _ _ _ (fun e=>e2 e.symm),h.2 p hp];by_cases c:p<i∨n-1-i<p
      · rw[if_pos c,if_pos (by omega)]
      · rw[if_neg c,if_neg (by omega)]
theorem turned_end{l L:List Nat}{n i:Nat}(hn:l.length=n)(h:turned l n i L)(hi:n-1-i≤i):L=l.reverse:=by
  apply list_of_getD
  · rw[h.1,List.length_reverse,hn]
  · intro p hp;rw[h.1]at hp;have e:l.reverse.getD p 0=l.getD (n-1-p) 0:=by
      simp only[List.getD_eq_getElem?_getD];rw[List.getElem?_reverse (by omega),hn]
    rw[e,h.2 p hp];by_cases c:p<i∨n-1-i<p
    · rw[if_pos c]
    · rw[if_neg c]
      congr 1
      omega

set_option maxHeartbeats 1000000 in
set_option maxRecDepth 1000000 in
theorem reverse_any{B:Nat}{w:World}{g cap:Nat}{l:List Nat}(ho:OwnB B w (some ⟨g,0,none⟩) cap l)(hl:l.length≤1000000):
    Calls Tryz.prog 342 #[.slice (some ⟨g,0,none⟩) l.length cap] w fun e w'=>e=.returned (.tuple #[])∧OwnB B w' (some ⟨g,0,none⟩) cap l.reverse∧Below B w w':=by
  obtain⟨n,HN⟩:∃n,Hid (l.length=n):=⟨_,rfl⟩;have hgB:B≤g:=(ho.lt _ rfl).1;have HO:Hid _:=ho;rw[HN.out]at hl ⊢;clear ho
  go_enter Tryz.func342,Tryz.ntmps342
  go_wp2
  go_loopw [2,3] (fun v2 v3 wr=>∃(i:Nat) (L:List Nat),v2=.int .i64 (i:Int)∧v3=.int .i64 ((n:Int)-1-i)∧i≤n∧turned l n i L∧OwnB B wr (some ⟨g,0,none⟩) cap L∧Below B w wr) (fun v2 _ _=>n-(intOf v2).toNat)
  case atStart=>
    refine⟨0,l,rfl,by go_num,by omega,?_,HO.out,Below.refl _ _⟩;have:=turned_start l;rw[HN.out]at this;exact this
  case round=>
    obtain⟨i,L,rfl,rfl,hi,ht,hown,hbw⟩:=hrel;have HT:Hid _:=ht;clear ht;by_cases hin:i<n-1-i
    · obtain⟨hst,e1,e2⟩:=turned_step HN.out HT.out hin;have k1:=hown.cell i (by rw[HT.out.1]; omega);have k2:=hown.cell (n-1-i) (by rw[HT.out.1]; omega);have f1:=hown.frozen i;have f2:=hown.frozen (n-1-i);have d1:=hown.dig.getD i;have d2:=hown.dig.getD (n-1-i);rw[e1]at k1 d1;rw[e2]at k2 d2;obtain⟨x,hx⟩:∃x,l.getD i 0=x:=⟨_,rfl⟩;obtain⟨y,hy⟩:∃y,l.getD (n-1-i) 0=y:=⟨_,rfl⟩;rw[hx]at k1 d1 hst;rw[hy]at k2 d2 hst;have hset:=(hown.set i y d2).set (n-1-i) x d1;have hb2:=(hbw.setCell (p:=⟨g,i,none⟩) hgB (.int .u8 (y:Int))).setCell (p:=⟨g,n-1-i,none⟩) hgB (.int .u8 (x:Int));have HST:Hid _:=hst;have HSet:Hid _:=hset;have HB2:Hid _:=hb2;have t1:((n:Int)-1-i).toNat=n-1-i:=(by omega);have t2:i≠n-1-i:=(by omega);have t3:n-1-i≠i:=(by omega);have t4:(i:Int)<(n:Int)-1-i:=(by omega);clear hst hset hb2 hown hbw e1 e2 hx hy hin
      go_wp2
      go_region
      all_goals go_wp2
      all_goals go_roundw
      case rel=>exact⟨i+1,(L.set i y).set (n-1-i) x,by go_num,by go_num,by omega,HST.out,HSet.out.drew,HB2.out.drew⟩
      case measure=>simp only[intOf]; omega
    · have hend:=turned_end HN.out HT.out (by omega);have HE:Hid _:=hend;have HOw:Hid _:=hown;have HB:Hid _:=hbw;clear hend hown hbw
      go_wp2
      go_end0
      refine⟨rfl,?_,HB.out⟩;rw[←HE.out];exact HOw.out

theorem infoB: (Tryz.prog.info? 5).map (fun i=>(i.zero,i.size,i.bytes))=some (some (.int .u8 0),1,1):=by kernel_rfl
theorem ownB_of_row{B:Nat}{w:World}{v:Value}{n:Nat}{l:List Nat}(hd:Dig8 l)(hn:n=l.length)(h:w.ownsRow B 5 1 v n (V8 l)):∃ao cap,v=.slice ao l.length cap∧OwnB B w ao cap l:=by
  subst hn;rcases h.2 with⟨h2,h3⟩ | ⟨g,cap,cur,hv,b,c,d⟩
  · subst h2;have e:=List.length_eq_zero_iff.1 h3;subst e;exact⟨none,0,rfl,OwnB.nil _ _⟩
  · subst hv;exact⟨some ⟨g,0,none⟩,cap,rfl,hd,h⟩
theorem ownB_append{B:Nat}{w1:World}{v:Value}{acc:List Nat}{d:Nat}(hd:Dig8 acc)(hd2:d<256)(h:w1.ownsRow B 5 1 v (acc.length+1) (V8 acc++[.int .u8 (d:Int)])):
    ∃ro rc,v=.slice ro (acc++[d]).length rc∧OwnB B w1 ro rc (acc++[d]):=by
  refine ownB_of_row (n:=acc.length+1) (dig8_append.2 ⟨hd,by simp[Dig8]; exact hd2⟩) (by simp) ?_;rw[V8_append];exact h
theorem own_apart{B B':Nat}{w:World}{ao bo:Option Addr}{ca cb n:Nat}{l l':List Nat}(h:Own B w ao ca l)(k:OwnB B' w bo cb l'):∀a,ao=some a→some a.block≠(Value.slice bo n cb).ownBlock:=by
  intro a ha;rcases h.row.2 with⟨h2,_⟩ | ⟨g,cap,cur,hv,_,c,_⟩
  · simp only[Value.slice.injEq]at h2;rw[h2.1]at ha;cases ha
  · simp only[Value.slice.injEq]at hv;rw[hv.1]at ha;cases ha
    rcases k.row.2 with⟨h2,_⟩ | ⟨g',cap',cur',hv',_,c',_⟩
    · simp only[Value.slice.injEq]at h2;rw[h2.1];simp[Value.ownBlock]
    · simp only[Value.slice.injEq]at hv';rw[hv'.1];intro e;simp only[Value.ownBlock,Option.some.injEq]at e;rw[←e,c]at c';simp at c'
theorem getD_cast(L:List Nat)(i:Nat):(L.map (fun(x:Nat)=>(x:Int))).getD i 0=((L.getD i 0:Nat):Int):=by
  simp only[List.getD_eq_getElem?_getD,List.getElem?_map];cases L[i]?<;>rfl
theorem bl_div{y k:Nat}(hk:2≤k)(h:y≠0):bl (y / k)+1≤bl y:=by
  have h1:y / k≤y / 2:=Nat.div_le_div_left hk (by omega);have h2:=bl_mono h1;have h3:=bl_half h;omega
theorem dig_group{r x S acc0 Y y0 l0:Nat}{acc acc':List Nat}(hx:x=valr r acc+r^acc.length*Y)(hY:Y=r^S*y0+l0)(hlen:acc'.length=acc.length+S)(hv:valr r acc'=valr r acc+r^acc.length*l0):
    x=valr r acc'+r^acc'.length*y0:=by
  rw[hx,hv,hlen,hY,Nat.mul_add,Nat.pow_add,Nat.mul_assoc];omega
theorem digit_at(k:Nat)(hk:k<36)(h:k<({ data:=#[48,49,50,51,52,53,54,55,56,57,97,98,99,100,101,102,103,104,105,106,107,108,109,110,111,112,113,114,115,116,117,118,119,120,121,122] }:ByteArray).size):(({ data:=#[48,49,50,51,52,53,54,55,56,57,97,98,99,100,101,102,103,104,105,106,107,108,109,110,111,112,113,114,115,116,117,118,119,120,121,122] }:ByteArray)[k]'h).toNat=dch k:=
  match k,hk with
  | 0, _ => rfl
  | 1, _ => rfl
  | 2, _ => rfl
  | 3, _ => rfl
  | 4, _ => rfl
  | 5, _ => rfl
  | 6, _ => rfl
  | 7, _ => rfl
  | 8, _ => rfl
  | 9, _ => rfl
  | 10, _ => rfl
  | 11, _ => rfl
  | 12, _ => rfl
  | 13, _ => rfl
  | 14, _ => rfl
  | 15, _ => rfl
  | 16, _ => rfl
  | 17, _ => rfl
  | 18, _ => rfl
  | 19, _ => rfl
  | 20, _ => rfl
  | 21, _ => rfl
  | 22, _ => rfl
  | 23, _ => rfl
  | 24, _ => rfl
  | 25, _ => rfl
  | 26, _ => rfl
  | 27, _ => rfl
  | 28, _ => rfl
  | 29, _ => rfl
  | 30, _ => rfl
  | 31, _ => rfl
  | 32, _ => rfl
  | 33, _ => rfl
  | 34, _ => rfl
  | 35, _ => rfl
  | k + 36, hk => absurd hk (by omega)
theorem dig_step{r left:Nat}{acc:List Nat}{T:Nat}(h:valr r acc+r^acc.length*left=T):valr r (acc++[left%r])+r^(acc++[left%r]).length*(left / r)=T:=by
  rw[valr_snoc,List.length_append,List.length_singleton,Nat.pow_succ,Nat.mul_assoc,Nat.add_assoc,←Nat.mul_add,Nat.mod_add_div];exact h

set_option maxHeartbeats 2000000 in
set_option maxRecDepth 1000000 in
theorem digitsOf_any{w:World}{ao:Option Addr}{x r:Nat}(ca:Nat)(ha:Rd w ao (words x))(hx:(words x).length≤512)(hx0:x≠0)(hr:2≤r)(hr2:r≤36):
    Calls Tryz.prog 333 #[.slice ao (words x).length ca,.int .u32 (r:Int)] w fun e w'=>e=.returned (.string (txt r x))∧Below w.heap.size w w':=by
  obtain⟨i0,hi0,hz0,hz1,hz2⟩:=info_parts infoB;have hblx:=bl_len hx;have HX0:Hid _:=hx0;have HX:Hid _:=hx;have HA:Hid _:=ha;have HC0:Hid _:=group_any r w hr hr2;obtain⟨n,HN⟩:∃n,Hid ((words x).length=n):=⟨_,rfl⟩;rw[HN.out];clear ha hx hx0
  go_enter Tryz.func333,Tryz.ntmps333
  go_wp2_with fail
  refine Calls.mono HC0.out ?_;rintro e w' ⟨S,PS,rfl,hPS,hS1,hPS32,hw'⟩;have hw':=hw'.symm;subst hw';have HPS:Hid _:=hPS;have hS32:S<32:=pow_word hr (by rw[←hPS]; exact hPS32);have hPS2:2≤PS:=by
    rw[hPS];have:r^1≤r^S:=Nat.pow_le_pow_right (by omega) hS1;rw[Nat.pow_one]at this;omega
  have t0:((r:Int)==0)=false:=by simp; omega
  clear hPS HC0
  go_wp2
  go_loopg [0,7] x (fun Y v0 v7 wr=>∃(acc:List Nat) (po:Option Addr) (pc:Nat) (bo:Option Addr) (bc:Nat),v0=.slice po (words Y).length pc∧v7=.slice bo acc.length bc∧Rd wr po (words Y)∧OwnB w.heap.size wr bo bc (acc.map dch)∧DigR r acc∧x=valr r acc+r^acc.length*Y∧acc.length+32*bl Y≤600000∧(words Y).length≤512∧Below w.heap.size w wr)
  case atStart=>exact⟨[],ao,ca,none,0,by rw[HN.out],rfl,HA.out,OwnB.nil _ _,digR_nil r,by simp[valr],by simp; omega,HX.out,Below.refl _ _⟩
  case round=>
    obtain⟨acc,po,pc,bo,bc,rfl,rfl,hrd,hown,hdr,hxv,hlen,hl5,hbw⟩:=hrel;have HRD:Hid _:=hrd;have HO:Hid _:=hown;have HDR:Hid _:=hdr;have HXV:Hid _:=hxv;have HL5:Hid _:=hl5;have HB:Hid _:=hbw;have HLEN:Hid _:=hlen;obtain⟨lY,HNY⟩:∃n,Hid ((words gk).length=n):=⟨_,rfl⟩;rw[HNY.out]at hl5 ⊢;clear hrd hown hdr hxv hbw hlen;by_cases hY0:lY=0
    · subst hY0;have hg0:gk=0:=words_eq_nil.1 (List.length_eq_zero_iff.1 HNY.out);have hxa:valr r acc=x:=by
        have h:=HXV.out;rw[hg0]at h;omega
      have hacc0:acc≠[]:=by
        intro e;rw[e]at hxa;exact HX0.out hxa.symm
      have hl0:acc.length≠0:=fun e=>hacc0 (List.length_eq_zero_iff.1 e);have hbn:bo≠none:=by
        intro e;have h:=HO.out;rw[e]at h;rcases h.row.2 with⟨_,h3⟩ | ⟨g,cap,cur,hv,_⟩
        · rw[List.length_map]at h3;exact hl0 h3
        · simp at hv
      obtain⟨g,hbo,hg1,hg2⟩:=HO.out.form hbn;subst hbo;have hcap:=HO.out.caps;rw[List.length_map]at hcap;have HXA:Hid _:=hxa;have hl6:acc.length≤600000:=(by have:=HLEN.out; omega);obtain⟨m,HM⟩:∃m,Hid (acc.length=m):=⟨_,rfl⟩;rw[HM.out]at hcap hl6 hl0 ⊢;clear hg0 hxa hacc0 hbn
      go_wp2
      go_loopw [9] (fun v9 wx=>wx=wr∧∃k:Nat,v9=.int .i64 (k:Int)∧k≤m∧valr r (acc.take k)=x) (fun v9 _=>(intOf v9).toNat)
      case atStart=>exact⟨rfl,m,rfl,Nat.le_refl _,by rw[←HM.out,List.take_length]; exact HXA.out⟩
      case round=>
        obtain⟨hwx,k,rfl,hkm,hvk⟩:=hrel;have hwx:=hwx.symm;subst hwx;have HVK:Hid _:=hvk;have hk0:k≠0:=by
          intro e;rw[e,List.take_zero]at hvk;exact HX0.out hvk.symm
        have k1:=HO.out.cell (k-1) (by rw[List.length_map,HM.out]; omega);have hgd:(acc.map dch).getD (k-1) 0=dch (acc.getD (k-1) 0):=by
          have hlt:k-1<acc.length:=(by rw[HM.out]; omega);simp[hlt]
        rw[hgd]at k1;have e1:((k:Int)-1).toNat=k-1:=(by omega);have h1:(0:Int)<k:=(by omega);have h2:(k:Int)-1<(m:Int):=(by omega);clear hvk hgd;by_cases hz:acc.getD (k-1) 0=0
        · have hv':=valr_take_pred (r:=r) k hk0 hz;rw[hz,show dch 0=48 from rfl]at k1;have HP:Hid _:=hv';clear hv' hz
          go_wp2
          go_roundw
          case rel=>exact⟨trivial,k-1,by go_num,by omega,HP.out.trans HVK.out⟩
          case measure=>simp only[intOf]; omega
        · have hdz:dch (acc.getD (k-1) 0)≠48:=fun e=>hz (dch_zero.1 e);have hdg:=digs_take hr HDR.out k (by rw[HM.out]; exact hkm) hk0 hz;rw[HVK.out]at hdg;have HDG:Hid _:=hdg;have hcut:=HO.out.cut k (by rw[List.length_map,HM.out]; exact hkm);have hlt:((acc.map dch).take k).length=k:=(by rw[List.length_take,List.length_map,HM.out]; omega);have c1:=reverse_any hcut (by rw[hlt]; omega);rw[hlt]at c1;have HC1:Hid _:=c1;have HLT:Hid _:=hlt;generalize dch (acc.getD (k-1) 0)=d at *
          have hdI:((d:Int)==48)=false:=(by simp; omega);have hkc:(k:Int)≤(bc:Int):=(by omega);clear hdg hcut c1 hz hdz hlt
          go_wp2_with fail
          refine Calls.mono HC1.out ?_;rintro e w3 ⟨rfl,o3,b3⟩;have HB3:Hid _:=HB.out.trans b3;have hlr:(((acc.map dch).take k).reverse.map (fun(x:Nat)=>(x:Int))).length=k:=by
            rw[List.length_map,List.length_reverse];exact HLT.out
          have hcv:=run_convert_bytes_arg (P:=Tryz.prog) w3 27 5 Tryz.underlying27 Tryz.underlying5 g 0 k bc (((acc.map dch).take k).reverse.map (fun(x:Nat)=>(x:Int))) hlr (fun i hi=>by
            rw[Nat.zero_add,o3.cell i (by rw[List.length_reverse,HLT.out]; exact hi),getD_cast]) 9 Tryz.underlying9
          have htx:strOfNums (((acc.map dch).take k).reverse.map (fun(x:Nat)=>(x:Int)))=txt r x:=by
            unfold txt bytesOf;rw[HDG.out,List.map_take]
          rw[htx]at hcv;clear htx hlr o3 b3 HC1 k1
          go_wp2
          go_ret
          exact⟨rfl,HB3.out⟩
    · have hgk0:gk≠0:=fun e=>hY0 (by rw[←HNY.out,e,words_zero]; rfl);have c1:=divideByWord_any pc HRD.out (by have:=HL5.out; omega) (show 0<PS by omega) hPS32;rw[HNY.out]at c1;have HC1:Hid _:=c1;have HG0:Hid _:=hgk0;have hpos:(0:Int)<(lY:Int):=(by omega);clear c1 hgk0
      go_wp2_with fail
      refine Calls.mono HC1.out ?_;rintro e w2 ⟨qo,qc,rfl,oq,b2⟩;have hmod:gk%PS<PS:=Nat.mod_lt _ (by omega);have HOQ:Hid (Own w.heap.size w2 qo qc (words (gk / PS))):=oq.lower HB.out.size;have HO2:Hid _:=HO.out.below b2;have HB2:Hid _:=chain2 HB.out b2;have HDM:Hid (gk=r^S*(gk / PS)+gk%PS):=by
        show gk=r^S*(gk / PS)+gk%PS;rw[←HPS.out];exact(Nat.div_add_mod _ _).symm
      have HBL:Hid _:=bl_div hPS2 HG0.out;obtain⟨l0,hl0⟩:∃l,gk%PS=l:=⟨_,rfl⟩;rw[hl0]at hmod HDM;rw[hl0];clear oq b2 HC1 hl0
      go_wp2
      go_loopw [7,8,26] (fun v7 v8 v26 wr=>∃(i left:Nat) (acc':List Nat) (bo:Option Addr) (bc:Nat),v26=.int .i64 (i:Int)∧i≤S∧v8=.int .u32 (left:Int)∧left<r^(S-i)∧left<4294967296∧v7=.slice bo acc'.length bc∧OwnB w.heap.size wr bo bc (acc'.map dch)∧DigR r acc'∧acc'.length=acc.length+i∧valr r acc'+r^acc'.length*left=valr r acc+r^acc.length*l0∧Own w.heap.size wr qo qc (words (gk / PS))∧Below w.heap.size w wr) (fun _ _ v26 _=>S-(intOf v26).toNat)
      case atStart=>exact⟨0,l0,acc,bo,bc,rfl,by omega,rfl,by rw[Nat.sub_zero,←HPS.out]; exact hmod,by omega,rfl,HO2.out,HDR.out,rfl,rfl,HOQ.out,HB2.out⟩
      case round=>
        obtain⟨i,left,acc',bo',bc',rfl,hi,rfl,hlr,hl32,rfl,hown,hdr,hal,hval,hrq,hbw⟩:=hrel;have HAL:Hid _:=hal;have HVAL:Hid _:=hval;have HRQ:Hid _:=hrq;have HBW:Hid _:=hbw;have HDR2:Hid _:=hdr;have HLR:Hid _:=hlr;have HOW:Hid _:=hown;have hwsz:=hbw.size;have hm6:acc'.length≤700000:=(by have:=HLEN.out; omega);obtain⟨m,HM⟩:∃m,Hid (acc'.length=m):=⟨_,rfl⟩;rw[HM.out]at hm6 ⊢;clear hal hval hrq hbw hdr hlr hown;by_cases hin:i<S
        · have hk36:left%r<36:=(by have:=Nat.mod_lt left (show 0<r by omega); omega);have hE:=digit_at (left%r) hk36 hk36;dsimp only at hE;have HMR:Hid (left%r<r):=Nat.mod_lt _ (by omega);have tq:(left:Int) / (r:Int)=((left / r:Nat):Int):=(by rw[Int.natCast_ediv]);have hq32:left / r≤left:=Nat.div_le_self _ _;have HQ:Hid (left / r<r^(S-(i+1))):=by
            show left / r<r^(S-(i+1));have h:=HLR.out;rw[show S-i=(S-(i+1))+1 by omega,Nat.pow_succ]at h;exact(Nat.div_lt_iff_lt_mul (by omega)).2 h
          have HDS:Hid _:=dig_step HVAL.out;have hd256:=dch_lt hk36;obtain⟨d,hd⟩:∃d,dch (left%r)=d:=⟨_,rfl⟩;rw[hd]at hE hd256;have HD:Hid _:=hd;obtain⟨q,hq⟩:∃q,left / r=q:=⟨_,rfl⟩;rw[hq]at tq hq32 HQ HDS;have hrow:=HOW.out.row;rw[List.length_map,HM.out]at hrow;clear hd hq
          go_wp2_with (at_builtin; refine wpList_append_own _ rfl _ _ 27 rfl w.heap.size 5 i0 (.int .u8 0) 1 1 Tryz.underlying27 hi0 hz0 hz1 hz2 rfl (by decide) _ _ _ rfl (hrow.alloc _) ⟨wr.heap.size,0,none⟩ 1 1 [.int .u8 (d:Int)] rfl rfl (by exact cell_one wr _ 5) (by intro u hu; simp at hu; subst hu; rfl) (by unfold maxLen; omega) (by omega) (by simp; omega) ?_)
          intro v' w1 hown' hgrow hiff;have hb2:=grown_below (HBW.out.alloc (by omega) _) (hrow.alloc _) hgrow (by simp; omega);have hrq2:Own w.heap.size w1 qo qc (words (gk / PS)):=(HRQ.out.alloc (.cells #[.int .u8 (d:Int)] 5)).kept hgrow (own_apart (HRQ.out.alloc (.cells #[.int .u8 (d:Int)] 5)) (HOW.out.alloc (.cells #[.int .u8 (d:Int)] 5)));rw[←HM.out,←List.length_map (f:=dch)]at hown';obtain⟨ro',rc',e,ho⟩:=ownB_append HOW.out.dig hd256 hown';subst e;have HO3:Hid _:=ho;have HB3:Hid _:=hb2;have HRQ3:Hid _:=hrq2;clear hown' hgrow hiff ho hb2 hrow hrq2
          go_wp2
          go_roundw
          case rel=>
            refine⟨i+1,q,acc'++[left%r],ro',rc',by go_num,by omega,rfl,HQ.out,by omega,?_,?_,digR_append.2 ⟨HDR2.out,by intro y hy; simp at hy; rw[hy]; exact HMR.out⟩,?_,HDS.out,HRQ3.out,HB3.out⟩
            · simp
            · rw[List.map_append,List.map_singleton,HD.out];exact HO3.out
            · rw[List.length_append,HAL.out];simp;omega
          case measure=>simp only[intOf]; omega
        · have e:i=S:=(by omega);have hl0:left=0:=by
            have h1:=HLR.out;rw[e,Nat.sub_self,Nat.pow_zero]at h1;omega
          have HNX:Hid (x=valr r acc'+r^acc'.length*(gk / PS)):=by
            show x=valr r acc'+r^acc'.length*(gk / PS);refine dig_group (acc0:=0) HXV.out HDM.out (by rw[HAL.out,e]) ?_;have h1:=HVAL.out;rw[hl0,Nat.mul_zero,Nat.add_zero]at h1;exact h1
          have HIS:Hid _:=e;clear e hl0
          go_wp2
          go_roundg (gk / PS)
          case measure=>exact Nat.div_lt_self (Nat.pos_of_ne_zero HG0.out) (by omega)
          case rel=>
            refine⟨acc',qo,qc,bo',bc',rfl,by rw[HM.out],HRQ.out.rd,HOW.out,HDR2.out,HNX.out,?_,?_,HBW.out⟩
            · have h1:=HAL.out;have h2:=HLEN.out;have h3:=HBL.out;have h4:=HIS.out;omega
            · exact Nat.le_trans (words_mono (Nat.div_le_self _ _)) HL5.out

def textS(a:List Nat)(radix:Int):ByteArray×Int:=
  if sound a then(if decide (2≤radix∧radix≤36)then(if val a=0 then(⟨#[48]⟩,0)else(txt radix.toNat (val a),0))else(⟨#[]⟩,1))else(⟨#[]⟩,2)

set_option maxHeartbeats 1000000 in
set_option maxRecDepth 1000000 in
theorem text_any{w:World}{ao:Option Addr}{a:List Nat}(ca:Nat)(radix:Int)(ha:Rd w ao a)(la:a.length≤9223372036854775807)(r0:-9223372036854775808≤radix)(r1:radix≤9223372036854775807):
    Calls Tryz.prog 324 #[.slice ao a.length ca,.int .i64 radix] w fun e w'=>e=.returned (.tuple #[.string (textS a radix).1,.int .i64 (textS a radix).2])∧Below w.heap.size w w':=by
  have c1:=sound_any ca ha la;have c2:=isRadix_any radix w;unfold textS;by_cases hs:sound a=true
  · obtain⟨ea,na⟩:=sound_words ha.dig hs;rw[hs]at c1 ⊢;simp only[if_true];generalize val a=x at *
    subst ea;by_cases hr:2≤radix∧radix≤36
    · have e1:decide (2≤radix∧radix≤36)=true:=decide_eq_true hr;rw[e1]at c2 ⊢;simp only[if_true];obtain⟨r,rfl⟩:=Int.eq_ofNat_of_zero_le (show 0≤radix by omega);rw[Int.toNat_natCast];have HC1:Hid _:=c1;have HC2:Hid _:=c2;have hwrap:=wrap_u32 r (by omega);by_cases hx:x=0
      · rw[if_pos hx];have hl:(words x).length=0:=(by rw[hx,words_zero]; rfl);rw[hl]at HC1 ⊢;clear c1 c2 hl hx ha la na hs e1 hr
        go_enter Tryz.func324,Tryz.ntmps324
        go_wp2_with fail
        refine Calls.mono HC1.out ?_;rintro e w' ⟨rfl,hw'⟩;have hw':=hw'.symm;subst hw'
        go_wp2_with fail
        refine Calls.mono HC2.out ?_;rintro e w' ⟨rfl,hw'⟩;have hw':=hw'.symm;subst hw'
        go_wp2
        go_ret2
        exact⟨rfl,Below.refl _ _⟩
      · rw[if_neg hx];have hl:(words x).length≠0:=fun e=>hx (words_eq_nil.1 (List.length_eq_zero_iff.1 e));have c3:=digitsOf_any ca ha na hx (show 2≤r by omega) (show r≤36 by omega);have HC3:Hid _:=c3;obtain⟨n,HN⟩:∃n,Hid ((words x).length=n):=⟨_,rfl⟩;rw[HN.out]at HC1 HC3 hl na ⊢;have hl1:((n:Int)==0)=false:=(by simp; omega);have hr36:r≤36:=(by omega);clear c1 c2 c3 hx ha la hs e1 hr
        go_enter Tryz.func324,Tryz.ntmps324
        go_wp2_with fail
        refine Calls.mono HC1.out ?_;rintro e w' ⟨rfl,hw'⟩;have hw':=hw'.symm;subst hw'
        go_wp2_with fail
        refine Calls.mono HC2.out ?_;rintro e w' ⟨rfl,hw'⟩;have hw':=hw'.symm;subst hw'
        go_wp2_with fail
        refine Calls.mono HC3.out ?_;rintro e w3 ⟨rfl,b3⟩;have HB3:Hid _:=b3;clear b3
        go_wp2
        go_ret2
        exact⟨rfl,HB3.out⟩
    · have e1:decide (2≤radix∧radix≤36)=false:=decide_eq_false hr;rw[e1]at c2 ⊢;have HC1:Hid _:=c1;have HC2:Hid _:=c2;obtain⟨n,HN⟩:∃n,Hid ((words x).length=n):=⟨_,rfl⟩;rw[HN.out]at HC1 ⊢;clear c1 c2 ha la hs e1 hr na
      go_enter Tryz.func324,Tryz.ntmps324
      go_wp2_with fail
      refine Calls.mono HC1.out ?_;rintro e w' ⟨rfl,hw'⟩;have hw':=hw'.symm;subst hw'
      go_wp2_with fail
      refine Calls.mono HC2.out ?_;rintro e w' ⟨rfl,hw'⟩;have hw':=hw'.symm;subst hw'
      go_wp2
      go_ret2
      exact⟨rfl,Below.refl _ _⟩
  · simp only[Bool.not_eq_true]at hs;rw[hs]at c1 ⊢;have HC1:Hid _:=c1;generalize a.length=n at *
    clear c1 c2 ha la hs
    go_enter Tryz.func324,Tryz.ntmps324
    go_wp2_with fail
    refine Calls.mono HC1.out ?_;rintro e w' ⟨rfl,hw'⟩;have hw':=hw'.symm;subst hw'
    go_wp2
    go_ret2
    exact⟨rfl,Below.refl _ _⟩
