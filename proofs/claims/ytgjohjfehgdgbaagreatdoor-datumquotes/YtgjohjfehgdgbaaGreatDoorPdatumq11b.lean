/- GcdD ExA Blk ExG -/
import Derived.Test.YtgjohjfehgdgbaaGreatDoorGcdC
import Derived.Laws.ResultCell
import Derived.Deep.RegionWith
import Derived.BigRegion
set_option linter.unusedVariables false
set_option linter.unusedSimpArgs false
set_option maxHeartbeats 1000000
namespace Go.Proofs.YtgjohjfehgdgbaaGreatDoor
open Go.RowKit

theorem qle(x y:Nat):Nat.gcd y (x%y)=Nat.gcd x y:=by rw[Nat.gcd_comm x y,Nat.gcd_rec y x,Nat.gcd_comm]

set_option maxRecDepth 1000000 in
theorem qpg{w:World}{ao bo:Option Addr}{x y:Nat}(ca cb:Nat)(ha:Rd w ao (words x))(hb:Rd w bo (words y))(hx:(words x).length≤80000)(hy:(words y).length≤80000)(hna:ao=none→ca=0)(hnb:bo=none→cb=0):
    Calls Tryz.prog 125 #[.slice ao (words x).length ca,.slice bo (words y).length cb] w (Row1 w (words (Nat.gcd x y))):=by
  have c0:=order_any ca cb ha hb (by omega) (by omega);obtain⟨n,HN⟩:∃n,Hid ((words x).length=n):=⟨_,rfl⟩;obtain⟨m,HM⟩:∃n,Hid ((words y).length=n):=⟨_,rfl⟩;rw[HN.out,HM.out]at c0;have HA:Hid _:=ha;have HRB:Hid _:=hb;have HX:Hid _:=hx;have HY:Hid _:=hy;have HNA:Hid _:=hna;have HNB:Hid _:=hnb;rw[HN.out,HM.out];clear ha hb hx hy hna hnb;by_cases hlt:x<y;all_goals
    first
    | (have hk : cmpN x y = -1 := cmp_lt' hlt
       rw[hk]at c0;have HLE:Hid _:=Nat.le_of_lt hlt;clear hk)
    | (have hge := cmp_ge' hlt
       obtain⟨kc,hkc⟩:∃k,cmpN x y=k:=⟨_,rfl⟩;rw[hkc]at c0 hge;have HLE:Hid _:=Nat.le_of_not_lt hlt;clear hkc)
    have HC0:Hid _:=c0;clear c0 hlt
    go_enter Tryz.func125,Tryz.ntmps125
    go_wp2_with fail
    refine Calls.mono HC0.out ?_;rintro e w1 ⟨rfl,b1⟩;have HB1:Hid _:=b1;clear b1 HC0
    go_wp2
    try clear hge
    go_loopg [0,1] (x+y) (fun g v0 v1 wr=>∃(A B:Nat) (po qo:Option Addr) (pc qc:Nat),g=A+B∧v0=.slice po (words A).length pc∧v1=.slice qo (words B).length qc∧Rd wr po (words A)∧Rd wr qo (words B)∧B≤A∧(words A).length≤80000∧(po=none→pc=0)∧(qo=none→qc=0)∧Nat.gcd A B=Nat.gcd x y∧Below w.heap.size w wr)
    case atStart=>
      first
      | exact ⟨x, y, ao, bo, ca, cb, rfl, by rw [HN.out], by rw [HM.out], HA.out.below HB1.out, HRB.out.below HB1.out, HLE.out, HX.out, HNA.out, HNB.out, rfl, HB1.out⟩
      | exact ⟨y, x, bo, ao, cb, ca, Nat.add_comm _ _, by rw [HM.out], by rw [HN.out], HRB.out.below HB1.out, HA.out.below HB1.out, HLE.out, HY.out, HNB.out, HNA.out, Nat.gcd_comm _ _, HB1.out⟩
    case round=>
      obtain⟨A,B,po,qo,pc,qc,hg,rfl,rfl,hpa,hqb,hle,la,hnp,hnq,hgcd,hbw⟩:=hrel;have lb:=Nat.le_trans (words_mono hle) la;have HGK:Hid _:=hg;have HGCD:Hid _:=hgcd;have HLA:Hid _:=la;have HLB:Hid _:=lb;have HPA:Hid _:=hpa;have HQB:Hid _:=hqb;have HBW:Hid _:=hbw;have HLE2:Hid _:=hle;have HNP:Hid _:=hnp;have HNQ:Hid _:=hnq;obtain⟨na,HNa⟩:∃n,Hid ((words A).length=n):=⟨_,rfl⟩;obtain⟨nb,HNb⟩:∃n,Hid ((words B).length=n):=⟨_,rfl⟩;rw[HNa.out]at la;rw[HNb.out]at lb;rw[HNa.out,HNb.out];clear hg hgcd hpa hqb hbw hle hnp hnq HA HRB HX HY HNA HNB HLE;by_cases h2:2<nb
      · have c1:=laterPair_any pc qc HPA.out HQB.out HLA.out HLE2.out (by rw[HNb.out]; exact h2) HNP.out HNQ.out;rw[HNa.out,HNb.out]at c1;have HC1:Hid _:=c1;clear c1
        go_wp2_with fail
        refine Calls.mono HC1.out ?_;rintro e w2 ⟨X,Y,xo,xc,yo,yc,rfl,hl,rx,ry,nx,ny,b2⟩;have HL:Hid _:=hl;have HRX:Hid _:=rx;have HRY:Hid _:=ry;have HNX:Hid _:=nx;have HNY:Hid _:=ny;have HB2:Hid _:=chain2 HBW.out b2;clear hl rx ry nx ny b2 HC1
        go_wp2
        go_roundg (X+Y)
        case measure=>
          have h1:=HL.out.2.2.2;have h3:=HGK.out;omega
        case rel=>
          refine⟨X,Y,xo,yo,xc,yc,rfl,rfl,rfl,HRX.out,HRY.out,HL.out.2.1,Nat.le_trans (words_mono HL.out.2.2.1) HLA.out,HNX.out,HNY.out,?_,HB2.out⟩;rw[HL.out.1];exact HGCD.out
      · by_cases h0:nb=0
        · subst h0;have hB:B=0:=words_eq_nil.1 (List.length_eq_zero_iff.1 HNb.out);have hA:A=Nat.gcd x y:=(by rw[←HGCD.out,hB,Nat.gcd_zero_right]);have c1:=clone_any pc HPA.out (by have:=HLA.out; omega) HNP.out;rw[HNa.out,hA]at c1;have HC1:Hid _:=c1;clear c1 hA hB
          go_wp2_with fail
          refine Calls.mono HC1.out ?_;rintro e w2 ⟨ro,rc,rfl,ho,b2⟩;have HO:Hid _:=ho.lower HBW.out.size;have HB2:Hid _:=chain2 HBW.out b2;clear ho b2 HC1
          go_wp2
          go_ret
          exact⟨_,_,rfl,HO.out,HB2.out⟩
        · have hB0:B≠0:=fun e=>h0 (by rw[←HNb.out,e,words_zero]; rfl);have h0':((nb:Int)==0)=false:=(by simp; omega);have c1:=divide_any pc qc HPA.out HQB.out (by have:=HLA.out; omega) (by have:=HLB.out; omega) HNP.out hB0;rw[HNa.out,HNb.out]at c1;have HC1:Hid _:=c1;have HB0:Hid _:=hB0;have h2':¬(2:Int)<(nb:Int):=(by omega);clear c1 hB0
          go_wp2_with fail
          refine Calls.mono HC1.out ?_;rintro e w2 ⟨uo,uc,ro,rc,rfl,ou,or,b2⟩;have hR:A%B<B:=Nat.mod_lt _ (Nat.pos_of_ne_zero HB0.out);have hBlt:B<18446744073709551616:=by
            have:=words_length_iff.1 (show(words B).length≤2 by rw[HNb.out]; omega)
            rwa [show pw 2=18446744073709551616 from rfl]at this
          have c2:=short_any qc (HQB.out.below b2) (by rw[HNb.out]; omega);rw[HNb.out]at c2;have c3:=short_any rc or.rd (word2 (show A%B<18446744073709551616 by omega));have HC2:Hid _:=c2;have HC3:Hid _:=c3;have HB2:Hid _:=chain2 HBW.out b2;have HG:Hid (Nat.gcd B (A%B)=Nat.gcd x y):=by
            show Nat.gcd B (A%B)=Nat.gcd x y;rw[qle];exact HGCD.out
          obtain⟨R,hRR⟩:∃R,A%B=R:=⟨_,rfl⟩;rw[hRR]at HC3 HG hR;rw[hRR];clear or ou b2 c2 c3 HC1 hRR
          go_wp2_with fail
          refine Calls.mono HC2.out ?_;rintro e w' ⟨rfl,hw'⟩;have hw':=hw'.symm;subst hw'
          go_wp2_with fail
          refine Calls.mono HC3.out ?_;rintro e w' ⟨rfl,hw'⟩;have hw':=hw'.symm;subst hw';clear HC2 HC3
          go_wp2
          go_loopw [7,8] (fun v7 v8 wr=>∃p q:Nat,v7=.int .u64 (p:Int)∧v8=.int .u64 (q:Int)∧p<18446744073709551616∧q<18446744073709551616∧Nat.gcd p q=Nat.gcd x y∧Below w.heap.size w wr) (fun _ v8 _=>(intOf v8).toNat)
          case atStart=>exact⟨B,R,rfl,rfl,hBlt,by omega,HG.out,HB2.out⟩
          case round=>
            obtain⟨p,q,rfl,rfl,lp,lq,hg,hbw⟩:=hrel;have HG2:Hid _:=hg;have HBw:Hid _:=hbw;clear hg hbw;by_cases hq:q=0
            · subst hq;have hp:p=Nat.gcd x y:=(by rw[←HG2.out,Nat.gcd_zero_right]);have c4:=wof_any p wr lp;rw[hp]at c4;have HC4:Hid _:=c4;have HP:Hid _:=hp;clear c4 hp
              go_wp2_with fail
              refine Calls.mono (by have h:=HC4.out; rw[←HP.out]at h; exact h) ?_;rintro e w4 ⟨ro,rc,rfl,ho,b4⟩;have HO:Hid _:=ho.lower HBw.out.size;have HB4:Hid _:=chain2 HBw.out b4;clear ho b4 HC4
              go_wp2
              go_ret
              rw[←HP.out];exact⟨_,_,rfl,HO.out,HB4.out⟩
            · have hq1:((q:Int)==0)=false:=(by simp; omega);have hmod:p%q<q:=Nat.mod_lt _ (by omega);have t2:(p:Int)%(q:Int)=((p%q:Nat):Int):=(by rw[Int.natCast_emod]);have HT2:Hid _:=t2;clear t2
              go_wp2
              go_region
              all_goals go_wp2
              all_goals go_roundw
              case rel=>
                refine⟨q,p%q,rfl,?_,lq,by omega,?_,HBw.out.drew⟩
                · rw[←HT2.out]
                · rw[qle];exact HG2.out
              case measure=>
                have h:=HT2.out;simp only[intOf];rw[h];omega

def qni(a b:List Nat):List Nat×Int:=if sound a&&sound b then(words (Nat.gcd (val a) (val b)),0)else([],2)

set_option maxRecDepth 1000000 in
theorem jmc{w:World}{ao bo:Option Addr}{a b:List Nat}(ca cb:Nat)(ha:Rd w ao a)(hb:Rd w bo b)(la:a.length≤9223372036854775807)(lb:b.length≤9223372036854775807)(hna:ao=none→ca=0)(hnb:bo=none→cb=0):
    Calls Tryz.prog 100 #[.slice ao a.length ca,.slice bo b.length cb] w (Ans w (qni a b)):=by
  have c1:=sound_any ca ha la;have c2:=sound_any cb hb lb;unfold qni;by_cases hs:sound a=true
  · by_cases ht:sound b=true
    · obtain⟨ea,na⟩:=sound_words ha.dig hs;obtain⟨eb,nb⟩:=sound_words hb.dig ht;rw[hs]at c1 ⊢;rw[ht]at c2 ⊢;generalize val a=x at *
      generalize val b=y at *
      subst ea eb;have c3:=qpg ca cb ha hb (by omega) (by omega) hna hnb;clear hs ht ha hb la lb hna hnb;simp only[Bool.and_self,if_true];obtain⟨n,HN⟩:∃n,Hid ((words x).length=n):=⟨_,rfl⟩;obtain⟨m,HM⟩:∃m,Hid ((words y).length=m):=⟨_,rfl⟩;rw[HN.out]at c1;rw[HM.out]at c2;rw[HN.out,HM.out]at c3;rw[HN.out,HM.out];have HC3:Hid _:=c3;clear c3 na nb
      go_enter Tryz.func100,Tryz.ntmps100
      go_wp2_with fail
      refine c1.mono ?_;rintro e w' ⟨rfl,rfl⟩
      go_wp2_with fail
      refine c2.mono ?_;rintro e w' ⟨rfl,rfl⟩;clear c1 c2
      go_wp2_with fail
      refine Calls.mono HC3.out ?_;rintro e w1 ⟨ro,rc,rfl,ho,b1⟩;have HO:Hid _:=ho;have HB:Hid _:=b1;clear ho b1
      go_wp2
      go_ret2
      exact⟨_,_,rfl,HO.out,HB.out⟩
    · simp only[Bool.not_eq_true]at ht;rw[hs]at c1;rw[ht]at c2;rw[hs,ht];clear ha hb la lb hs ht hna hnb;generalize a.length=n at *
      generalize b.length=m at *
      go_enter Tryz.func100,Tryz.ntmps100
      go_wp2_with fail
      refine c1.mono ?_;rintro e w' ⟨rfl,rfl⟩
      go_wp2_with fail
      refine c2.mono ?_;rintro e w' ⟨rfl,rfl⟩
      go_wp2
      go_ret2
      exact Ans.intro (Own.nil _ _) (Below.refl _ _)
  · simp only[Bool.not_eq_true]at hs;rw[hs]at c1 ⊢;clear ha hb la lb hs c2 hna hnb;generalize a.length=n at *
    generalize b.length=m at *
    go_enter Tryz.func100,Tryz.ntmps100
    go_wp2_with fail
    refine c1.mono ?_;rintro e w' ⟨rfl,rfl⟩
    go_wp2
    go_ret2
    exact Ans.intro (Own.nil _ _) (Below.refl _ _)
theorem Own.nocap{B:Nat}{w:World}{ao:Option Addr}{cap:Nat}{l:List Nat}(h:Own B w ao cap l):ao=none→cap=0:=by
  intro e;rw[e]at h;exact h.none_cap
structure Two(w:World)(g:Nat)(a b:Value):Prop where
  c0:w.cell? ⟨g,0,none⟩=some a
  c1:w.cell? ⟨g,1,none⟩=some b
  f0:w.frozen? ⟨g,0,none⟩=false
  f1:w.frozen? ⟨g,1,none⟩=false
theorem Two.new(w:World)(a b:Value)(t:TypeId):Two (w.alloc (.cells #[a,b] t)) w.heap.size a b:=by
  exact⟨by go_cell,by go_cell,by go_cell,by go_cell⟩
theorem Two.alloc{w:World}{g:Nat}{a b:Value}(h:Two w g a b)(o:Obj):Two (w.alloc o) g a b:=by
  have hg:g<w.heap.size:=cell_lt h.c0;exact⟨(World.cell?_alloc_past o g 0 hg).trans h.c0,(World.cell?_alloc_past o g 1 hg).trans h.c1,(World.frozen?_alloc_past o g 0 hg).trans h.f0,(World.frozen?_alloc_past o g 1 hg).trans h.f1⟩
theorem Two.drew{w:World}{g:Nat}{a b:Value}(h:Two w g a b):Two w.drew g a b:=⟨h.c0,h.c1,h.f0,h.f1⟩
theorem Two.below{w w':World}{g:Nat}{a b:Value}(h:Two w g a b)(hb:Below w.heap.size w w'):Two w' g a b:=by
  have hg:g<w.heap.size:=cell_lt h.c0;have e:∀i,w'.cell? ⟨g,i,none⟩=w.cell? ⟨g,i,none⟩:=fun i=>hb.cell (p:=⟨g,i,none⟩) hg;have e2:∀i,w'.frozen? ⟨g,i,none⟩=w.frozen? ⟨g,i,none⟩:=fun i=>by
    have:=hb.block g hg;simp only[World.frozen?,this]
  exact⟨(e 0).trans h.c0,(e 1).trans h.c1,(e2 0).trans h.f0,(e2 1).trans h.f1⟩

theorem Two.far{w:World}{g g':Nat}{a b:Value}(h:Two w g a b)(hne:g'≠g)(j:Nat)(x:Value):Two (w.setCell ⟨g',j,none⟩ x) g a b:=by
  have e:∀i,(w.setCell ⟨g',j,none⟩ x).cell? ⟨g,i,none⟩=w.cell? ⟨g,i,none⟩:=fun i=>World.cell?_setCell_other _ _ _ _ (by intro e; cases e; exact hne rfl);have e2:∀i,(w.setCell ⟨g',j,none⟩ x).frozen? ⟨g,i,none⟩=w.frozen? ⟨g,i,none⟩:=fun i=>by simp
  exact⟨(e 0).trans h.c0,(e 1).trans h.c1,(e2 0).trans h.f0,(e2 1).trans h.f1⟩
theorem Rd.setNo{w:World}{so:Option Addr}{l:List Nat}{p:Addr}{u:Value}(h:Rd w so l)(hp:w.cell? p=some u)(hu:∀n,u≠.int .u32 n)(v:Value):Rd (w.setCell p v) so l:=by
  refine⟨h.dig,fun hne=>?_⟩;obtain⟨b,off,h1,h2,h3⟩:=h.pos hne;refine⟨b,off,h1,by simpa using h2,fun j hj=>?_⟩;rw[World.cell?_setCell_other _ _ _ _ (by
    intro e;have h4:=h3 j hj;rw[←e,hp]at h4;simp only[Option.some.injEq]at h4;exact hu _ h4)]
  exact h3 j hj
structure Wh(w:World)(b:Bool)(so:Option Addr)(m sc:Nat)(z:Int):Prop where
  neg:b=decide (z<0)
  len:m=(words z.natAbs).length
  rd:Rd w so (words z.natAbs)
  nil:so=none→sc=0
theorem Wh.below{w w':World}{b:Bool}{so:Option Addr}{m sc:Nat}{z:Int}(h:Wh w b so m sc z)(hb:Below w.heap.size w w'):Wh w' b so m sc z:=⟨h.neg,h.len,h.rd.below hb,h.nil⟩
def sgn(neg:Bool)(n:Nat):Int:=if neg then -(n:Int)else n
theorem qlf(neg:Bool)(n:Nat):(sgn neg n).natAbs=n:=by unfold sgn; split<;>omega
theorem jmd(neg:Bool)(n:Nat):decide (sgn neg n<0)=(neg&&decide (0<n)):=by
  unfold sgn;cases neg with
  | false => simp
  | true => simp
theorem qjf(n:Nat):0<n↔0<(words n).length:=by
  constructor
  · intro h;have:(words n).length≠0:=fun e=>(by have:=words_eq_nil.1 (List.length_eq_zero_iff.1 e); omega);omega
  · intro h;have:n≠0:=fun e=>(by rw[e,words_zero]at h; simp at h);omega
structure Blk(w:World)(g:Nat)(vs:List Value):Prop where
  lt:g<w.heap.size
  cell:∀i v,vs[i]?=some v→w.cell? ⟨g,i,none⟩=some v
  froz:∀i,w.frozen? ⟨g,i,none⟩=false
  no:∀v∈vs,∀n,v≠.int .u32 n
theorem Blk.new(w:World)(vs:List Value)(t:TypeId)(hno:∀v∈vs,∀n,v≠.int .u32 n):Blk (w.alloc (.cells vs.toArray t)) w.heap.size vs:=by
  refine⟨by simp,fun i v h=>?_,fun i=>?_,hno⟩
  · rw[World.cell?_alloc_at _ _ _ _ rfl];simpa using h
  · exact World.frozen?_alloc_at _ _ _ _ rfl
theorem Blk.alloc{w:World}{g:Nat}{vs:List Value}(h:Blk w g vs)(o:Obj):Blk (w.alloc o) g vs:=
  ⟨by have:=h.lt; simp; omega,fun i v hv=>(World.cell?_alloc_past o g i h.lt).trans (h.cell i v hv),fun i=>(World.frozen?_alloc_past o g i h.lt).trans (h.froz i),h.no⟩
theorem Blk.drew{w:World}{g:Nat}{vs:List Value}(h:Blk w g vs):Blk w.drew g vs:=⟨h.lt,h.cell,h.froz,h.no⟩
theorem Blk.below{w w':World}{g:Nat}{vs:List Value}(h:Blk w g vs)(hb:Below w.heap.size w w'):Blk w' g vs:=by
  refine⟨Nat.lt_of_lt_of_le h.lt hb.size,fun i v hv=>(hb.cell (p:=⟨g,i,none⟩) h.lt).trans (h.cell i v hv),fun i=>?_,h.no⟩;have:=hb.block g h.lt;have e:w'.frozen? ⟨g,i,none⟩=w.frozen? ⟨g,i,none⟩:=by simp only[World.frozen?,this]
  rw[e];exact h.froz i
theorem Blk.far{w:World}{g g':Nat}{vs:List Value}(h:Blk w g vs)(hne:g'≠g)(j:Nat)(x:Value):Blk (w.setCell ⟨g',j,none⟩ x) g vs:=
  ⟨by simpa using h.lt,fun i v hv=>(World.cell?_setCell_other _ _ _ _ (by intro e; cases e; exact hne rfl)).trans (h.cell i v hv),fun i=>by simpa using h.froz i,h.no⟩
theorem Blk.set{w:World}{g:Nat}{vs:List Value}(h:Blk w g vs)(i:Nat)(v:Value)(hi:i<vs.length)(hv:∀n,v≠.int .u32 n):Blk (w.setCell ⟨g,i,none⟩ v) g (vs.set i v):=by
  refine⟨by simpa using h.lt,fun j u hu=>?_,fun j=>by simpa using h.froz j,fun u hu n=>?_⟩
  · by_cases e:i=j
    · subst e;rw[List.getElem?_set_self hi]at hu;cases hu
      exact World.cell?_setCell_same _ _ _ (h.cell i vs[i] (by rw[List.getElem?_eq_getElem hi]))
    · rw[List.getElem?_set_ne e]at hu;rw[World.cell?_setCell_other _ _ _ _ (by intro k; cases k; exact e rfl)];exact h.cell j u hu
  · rcases List.mem_or_eq_of_mem_set hu with h1 | h1
    · exact h.no u h1 n
    · subst h1;exact hv n
theorem Blk.rd{w:World}{g:Nat}{vs:List Value}(h:Blk w g vs){so:Option Addr}{l:List Nat}(hr:Rd w so l)(i:Nat)(v:Value)(hi:i<vs.length):Rd (w.setCell ⟨g,i,none⟩ v) so l:=
  hr.setNo (h.cell i vs[i] (by rw[List.getElem?_eq_getElem hi])) (h.no _ (List.getElem_mem hi)) v

structure Mine(w0 w:World)(g:Nat)(vs:List Value):Prop where
  ge:w0.heap.size≤g
  bel:Below w0.heap.size w0 w
  blk:Blk w g vs
theorem Mine.set{w0 w:World}{g:Nat}{vs:List Value}(h:Mine w0 w g vs)(i:Nat)(v:Value)(hi:i<vs.length)(hv:∀n,v≠.int .u32 n):Mine w0 (w.setCell ⟨g,i,none⟩ v) g (vs.set i v):=
  ⟨h.ge,h.bel.setCell (p:=⟨g,i,none⟩) h.ge v,h.blk.set i v hi hv⟩
theorem Mine.below{w0 w w':World}{g:Nat}{vs:List Value}(h:Mine w0 w g vs)(hb:Below w.heap.size w w'):Mine w0 w' g vs:=⟨h.ge,chain2 h.bel hb,h.blk.below hb⟩

structure Rt(w:World)(b:Bool)(to_:Option Addr)(m tc:Nat)(bo:Option Addr)(n bc:Nat)(t:Int)(q:Nat):Prop where
  neg:b=decide (t<0)
  top:m=(words t.natAbs).length
  bot:n=(words q).length
  rdT:Rd w to_ (words t.natAbs)
  rdB:Rd w bo (words q)
  nilT:to_=none→tc=0
  nilB:bo=none→bc=0
theorem Rt.below{w w':World}{b:Bool}{to_ bo:Option Addr}{m tc n bc:Nat}{t:Int}{q:Nat}(h:Rt w b to_ m tc bo n bc t q)(hb:Below w.heap.size w w'):Rt w' b to_ m tc bo n bc t q:=⟨h.neg,h.top,h.bot,h.rdT.below hb,h.rdB.below hb,h.nilT,h.nilB⟩
set_option maxRecDepth 1000000 in
theorem qxd{w:World}{ao:Option Addr}{l:List Nat}(ca:Nat)(ha:Rd w ao l)(hl:l.length≤9223372036854775807):
    Calls Tryz.prog 78 #[.slice ao l.length ca] w fun e w'=>e=.returned (.bool (decide (l=[1])))∧w'=w:=by
  by_cases h1:l.length=1
  · obtain⟨d,rfl⟩:∃d,l=[d]:=by
      match l,h1 with
      | [d], _ => exact ⟨d, rfl⟩
    obtain⟨b,off,rfl,_,hc⟩:=ha.pos (by simp);have k:=hc 0 (by simp);simp only[List.getD_cons_zero,Nat.add_zero]at k;have hd:=ha.dig d (by simp);clear ha hc hl h1;by_cases hd1:d=1
    · subst hd1;simp only[List.length_singleton]
      go_enter Tryz.func78,Tryz.ntmps78
      go_wp2
      go_ret
      exact⟨rfl,rfl⟩
    · have e:decide ([d]=[1])=false:=(by simp[hd1]);rw[e];have hdI:((d:Int)==1)=false:=(by simp; omega);simp only[List.length_singleton];clear e hd1
      go_enter Tryz.func78,Tryz.ntmps78
      go_wp2
      go_ret
      exact⟨rfl,rfl⟩
  · have e:decide (l=[1])=false:=by
      apply decide_eq_false;intro h;rw[h]at h1;exact h1 rfl
    rw[e];generalize l.length=n at *
    have hnI:((n:Int)==1)=false:=(by simp; omega);clear ha e
    go_enter Tryz.func78,Tryz.ntmps78
    go_wp2
    go_ret
    exact⟨rfl,rfl⟩
def kx(b:Bool)(top bot:List Nat):Bool:=!(decide (bot.length=0)||(decide (top.length=0)&&b))&&(decide ((qni top bot).2=0)&&decide ((qni top bot).1=[1]))

set_option maxRecDepth 1000000 in
theorem qgc{w:World}{b:Bool}{to_ bo:Option Addr}{top bot:List Nat}(tc bc:Nat)(ht:Rd w to_ top)(hb:Rd w bo bot)(lt:top.length≤9223372036854775807)(lb:bot.length≤9223372036854775807)(nt:to_=none→tc=0)(nb:bo=none→bc=0):
    Calls Tryz.prog 66 #[.agg #[.bool b,.slice to_ top.length tc,.slice bo bot.length bc]] w fun e w'=>e=.returned (.bool (kx b top bot))∧Below w.heap.size w w':=by
  unfold kx;obtain⟨n,HN⟩:∃n,Hid (bot.length=n):=⟨_,rfl⟩;obtain⟨m,HM⟩:∃n,Hid (top.length=n):=⟨_,rfl⟩;have hal:Below w.heap.size w (w.alloc (.cells #[.bool b,.slice to_ m tc,.slice bo n bc] 24)):=(Below.refl _ _).alloc (Nat.le_refl _) _;have c1:=jmc tc bc (ht.below hal) (hb.below hal) lt lb nt nb;rw[HM.out,HN.out]at c1;obtain⟨G,HG⟩:∃G,Hid (qni top bot=G):=⟨_,rfl⟩;obtain⟨g,k⟩:=G;rw[HG.out]at c1 ⊢;have HC1:Hid _:=c1;have HAL:Hid _:=hal;rw[HN.out,HM.out];rw[HN.out]at lb;rw[HM.out]at lt;have HLG:Hid (g.length≤512):=by
    have h:(qni top bot).1.length≤512:=by
      unfold qni;by_cases hs:(sound top&&sound bot)=true
      · rw[if_pos hs];simp only[Bool.and_eq_true]at hs;obtain⟨ea,na⟩:=sound_words ht.dig hs.1;obtain⟨eb,nb⟩:=sound_words hb.dig hs.2;have h1:(words (val top)).length≤512:=(by rw[←ea]; exact na);have h2:(words (val bot)).length≤512:=(by rw[←eb]; exact nb);by_cases h:val top=0
        · rw[h,Nat.gcd_zero_left];exact h2
        · exact Nat.le_trans (words_mono (Nat.gcd_le_left _ (by omega))) h1
      · rw[if_neg hs];simp
    rw[HG.out]at h;exact h
  clear c1 hal ht hb nt nb;by_cases hn:n=0
  · subst hn
    go_enter Tryz.func66,Tryz.ntmps66
    go_wp2
    go_ret
    exact⟨rfl,HAL.out⟩
  · have hn1:((n:Int)==0)=false:=(by simp; omega);have en:decide (n=0)=false:=decide_eq_false hn;rw[en];have hcase:(m=0∧b=true)∨((m:Int)==0)=false∨(m=0∧b=false):=by
      by_cases h:m=0
      · cases b with
        | true => exact .inl ⟨h, rfl⟩
        | false => exact .inr (.inr ⟨h, rfl⟩)
      · exact .inr (.inl (by simp; omega))
    rcases hcase with⟨rfl,rfl⟩ | hm1 | ⟨rfl,rfl⟩
    · clear en
      go_enter Tryz.func66,Tryz.ntmps66
      go_wp2
      go_ret
      exact⟨rfl,HAL.out⟩
    all_goals
      first
      | (have em : decide (m = 0) = false := by
           apply decide_eq_false;intro h;rw[h]at hm1;simp at hm1
         rw[em];clear em)
      | skip
      simp only[Bool.false_and,Bool.or_self,Bool.not_false,Bool.true_and,Bool.and_false,Bool.or_false];clear en;by_cases hk:k=0
      · subst hk;simp only[decide_true,Bool.true_and]
        go_enter Tryz.func66,Tryz.ntmps66
        go_wp2_with fail
        refine Calls.mono HC1.out ?_;rintro e w1 ⟨go_,gc,rfl,og,b1⟩;have HC2:Hid _:=qxd gc (show Rd w1 go_ g from og.rd) (by have:=HLG.out; omega);have HB1:Hid _:=chain2 HAL.out b1;clear og b1 HC1
        go_wp2_with fail
        refine Calls.mono HC2.out ?_;rintro e w' ⟨rfl,hw'⟩;have hw':=hw'.symm;subst hw'
        go_wp2
        go_ret
        exact⟨rfl,HB1.out⟩
      · have ek:decide (k=0)=false:=decide_eq_false hk;have hk1:(k==0)=false:=(by simpa using hk);simp only[ek,Bool.false_and];clear ek hk
        go_enter Tryz.func66,Tryz.ntmps66
        go_wp2_with fail
        refine Calls.mono HC1.out ?_;rintro e w1 ⟨go_,gc,rfl,og,b1⟩;have HB1:Hid _:=chain2 HAL.out b1;clear og b1 HC1
        go_wp2
        go_ret
        exact⟨rfl,HB1.out⟩

def qdj(b1:Bool)(t1 q1:List Nat)(b2:Bool)(t2 q2:List Nat):Bool:=kx b1 t1 q1&&kx b2 t2 q2

set_option maxRecDepth 1000000 in
theorem zmc{w:World}{b1 b2:Bool}{o1 o2 o3 o4:Option Addr}{t1 q1 t2 q2:List Nat}(c1 c2 c3 c4:Nat)(h1:Rd w o1 t1)(h2:Rd w o2 q1)(h3:Rd w o3 t2)(h4:Rd w o4 q2)
    (l1:t1.length≤9223372036854775807) (l2:q1.length≤9223372036854775807) (l3:t2.length≤9223372036854775807) (l4:q2.length≤9223372036854775807) (n1:o1=none→c1=0) (n2:o2=none→c2=0) (n3:o3=none→c3=0) (n4:o4=none→c4=0) :
    Calls Tryz.prog 42 #[.agg #[.bool b1,.slice o1 t1.length c1,.slice o2 q1.length c2,.bool b2,.slice o3 t2.length c3,.slice o4 q2.length c4]] w fun e w'=>e=.returned (.bool (qdj b1 t1 q1 b2 t2 q2))∧Below w.heap.size w w':=by
  unfold qdj;have hal:∀o,Below w.heap.size w (w.alloc o):=fun o=>(Below.refl _ _).alloc (Nat.le_refl _) o;obtain⟨m1,HM1⟩:∃n,Hid (t1.length=n):=⟨_,rfl⟩;obtain⟨m2,HM2⟩:∃n,Hid (q1.length=n):=⟨_,rfl⟩;obtain⟨m3,HM3⟩:∃n,Hid (t2.length=n):=⟨_,rfl⟩;obtain⟨m4,HM4⟩:∃n,Hid (q2.length=n):=⟨_,rfl⟩;rw[HM1.out,HM2.out,HM3.out,HM4.out];have hb:=hal (.cells #[.bool b1,.slice o1 m1 c1,.slice o2 m2 c2,.bool b2,.slice o3 m3 c3,.slice o4 m4 c4] 26);have d1:=qgc (b:=b1) c1 c2 (h1.below hb) (h2.below hb) l1 l2 n1 n2;rw[HM1.out,HM2.out]at d1;have HD1:Hid _:=d1;have HB:Hid _:=hb;have H3:Hid _:=h3;have H4:Hid _:=h4;have N3:Hid _:=n3;have N4:Hid _:=n4;have L3:Hid _:=l3;have L4:Hid _:=l4;have HK:Hid (Blk (w.alloc (.cells #[.bool b1,.slice o1 m1 c1,.slice o2 m2 c2,.bool b2,.slice o3 m3 c3,.slice o4 m4 c4] 26)) w.heap.size [.bool b1,.slice o1 m1 c1,.slice o2 m2 c2,.bool b2,.slice o3 m3 c3,.slice o4 m4 c4]):=Blk.new w [.bool b1,.slice o1 m1 c1,.slice o2 m2 c2,.bool b2,.slice o3 m3 c3,.slice o4 m4 c4] 26 (by simp);clear d1 hb hal h1 h2 h3 h4 l1 l2 l3 l4 n1 n2 n3 n4
  go_enter Tryz.func42,Tryz.ntmps42
  go_wp2_with fail
  refine Calls.mono HD1.out ?_;rintro e w1 ⟨rfl,b1'⟩;have hk:=HK.out.below b1';have k3:=hk.cell 3 _ rfl;have k4:=hk.cell 4 _ rfl;have k5:=hk.cell 5 _ rfl;have HB1:Hid _:=chain2 HB.out b1';have d2:=qgc (b:=b2) c3 c4 (H3.out.below HB1.out) (H4.out.below HB1.out) L3.out L4.out N3.out N4.out;rw[HM3.out,HM4.out]at d2;have HD2:Hid _:=d2;clear hk b1' d2 HD1;obtain⟨z,hz⟩:∃z,kx b1 t1 q1=z:=⟨_,rfl⟩;have HZ:Hid _:=hz;rw[hz];clear hz;cases z with
  | false =>
    go_wp2
    go_ret
    refine⟨?_,HB1.out⟩;rw[HZ.out];rfl
  | true =>
    go_wp2_with fail
    refine Calls.mono HD2.out ?_;rintro e w2 ⟨rfl,b2'⟩;have HB2:Hid _:=chain2 HB1.out b2';clear b2' HD2
    go_wp2
    go_ret
    refine⟨?_,HB2.out⟩;rw[HZ.out,Bool.true_and];rfl
end Go.Proofs.YtgjohjfehgdgbaaGreatDoor
