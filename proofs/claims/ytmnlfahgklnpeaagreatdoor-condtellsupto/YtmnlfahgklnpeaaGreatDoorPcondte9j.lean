/- TwI TwJ TwK Ub UdA Os Uc UdB Ue UdC UdD KcO ArgX ArgV -/
import Derived.Test.YtmnlfahgklnpeaaGreatDoorPcondte9i
import Derived.Laws.Runes
import Derived.Lib.MapLaws
import Derived.Deep.Strs
import Derived.Deep.SlicePairs
import Derived.Lib.SmallJoins
import Derived.DataElems
set_option linter.unusedVariables false
set_option linter.unusedSimpArgs false
set_option maxHeartbeats 4000000
set_option maxRecDepth 1000000
namespace Go.Proofs.YtmnlfahgklnpeaaGreatDoor.G
open Go.RowKit
theorem TwI_is1_28: Is1 Tryz.prog 28:=⟨⟨_,f9,rfl⟩,by kernel_rfl⟩
theorem TwI_is1_3: Is1 Tryz.prog 3:=⟨⟨_,i8,rfl⟩,by kernel_rfl⟩
theorem TwI_is1_9: Is1 Tryz.prog 9:=⟨⟨_,gi,rfl⟩,by kernel_rfl⟩
theorem TwI_fld_182_0: FieldAt Tryz.prog 182 0 0:=⟨_,_,lh,rfl,rfl,by kernel_rfl⟩
theorem TwI_fld_30_0: FieldAt Tryz.prog 30 0 0:=⟨_,_,iu,rfl,rfl,by kernel_rfl⟩
theorem TwI_fld_30_3: FieldAt Tryz.prog 30 3 8:=⟨_,_,iu,rfl,rfl,by kernel_rfl⟩
theorem TwI_fld_30_5: FieldAt Tryz.prog 30 5 10:=⟨_,_,iu,rfl,rfl,by kernel_rfl⟩
theorem TwI_isS_30: IsS Tryz.prog 30 11:=⟨⟨_,iu⟩,by kernel_rfl⟩
section
variable {P:Program} {w0 w:World} {L:List Ck} {l:List (Nat×Value)} {ops:List Oper} {Q:Exit→Act→World→Prop} {a:Act} {n:Nat} {o:Oper} {rest:List Oper} {d:Nat} {S:World→Prop} {md:Region.Mode} {fuel:Nat} {listed:Array Bool}
theorem jej(A:Sl a n l)(M:Mg w0 w L)(i:Nat)(hi:ops[i]?=some o)(hg:zf l ops o=true)(hdst:o.dst=some d)(hd:Nat.blt d n=true){vs:List Value}{t:TypeId}(val:Nat→Value)(he:Does P l o w (val w.heap.size) (w.alloc (.cells vs.toArray t)))(ht:t≠BY)
  (hk:∀g w',Mg w0 w' (.obj g (.cells vs.toArray t)::L)→S w'∧∀a',Sl a' n ((d,val g)::l)→wpAnyH P md ops.toArray Q S fuel (listed.setIfInBounds i true) a' w'):wpOp P ops.toArray Q i (fun a' w'=>S w'∧wpAnyH P md ops.toArray Q S fuel (listed.setIfInBounds i true) a' w') a w:=by
 have h:=hk _ _ (M.addObj _ (kj ht));exact zea A i hi hg hdst hd he h.1 h.2
end
theorem zbj{w:World}{t p0 p1:Dt}(l2:t.ts.length=2)(g1:p1.tr.good)(rp1_:p1.rd w){bp0 op0 bp1 op1:Nat}(lp0:t.d.lo=some ⟨bp0,op0,none⟩)(Hp0:Here w bp0 (op0+0*11) (p0.d.cells p0.ts.length))(lp1:t.d.lo=some ⟨bp1,op1,none⟩)(Hp1:Here w bp1 (op1+1*11) (p1.d.cells p1.ts.length)):Calls Tryz.prog 252 #[.agg (t.d.cells t.ts.length).toArray] w fun e w'=>(((isQ p0.tr&&qtT p1.tr)=true∧∃c0:Dt,p1.ts[0]?=some c0∧c0∈p1.ts∧p1.d.k=8∧p1.ts.length=2∧c0.rd w∧e=.returned (.tuple #[.agg (c0.d.cells c0.ts.length).toArray,bV true]))∨((isQ p0.tr&&qtT p1.tr)=false∧e=.returned (.tuple #[.agg zD.toArray,bV false])))∧Below w.heap.size w w':=by
 have M:=Mg.start w;refine wof Tryz.func252 Tryz.ntmps252 fun Q hret hnorm hP a A=>?_;refine wsr fun _ ap=>zj (vs:=[iV t.d.k,iV t.d.n,bV t.d.y.q.b1,.slice t.d.y.o1 t.d.y.q.t1.length t.d.y.c1,.slice t.d.y.o2 t.d.y.q.q1.length t.d.y.c2,bV t.d.y.q.b2,.slice t.d.y.o3 t.d.y.q.t2.length t.d.y.c3,.slice t.d.y.o4 t.d.y.q.q2.length t.d.y.c4,.string t.d.s,.slice t.d.ro t.d.rl.length t.d.rc,.slice t.d.lo t.ts.length t.d.lc]) (t:=30) A M rfl rfl rfl pg (qx rfl rfl) (by decide) ?_;intro g2 _ M a A;refine zj (vs:=zD) (t:=30) A M rfl rfl rfl pg (qm (z:=.agg zD.toArray) (by kernel_rfl) rfl) (by decide) ?_;intro g4 _ M a A;refine sda A λA=>?_;refine qwk ap fun K6 aq=>?_;have am:∀a w1,(∃(g4_:Nat) (g5_:Nat),Sl a 40 [(0,.agg (t.d.cells t.ts.length).toArray),(2,pA g4 0),(3,bV false),(4,pA g4_ 0),(5,pA g5_ 0)]∧Mg w w1 (.obj g5_ (.cells (p1.d.cells p1.ts.length).toArray 30)::.obj g4_ (.cells (p0.d.cells p0.ts.length).toArray 30)::.obj g4 zC::.obj g2 (.cells (t.d.cells t.ts.length).toArray 30)::[]))→K6 a w1:=by
  clear A M;rintro a _ ⟨g4_,g5_,A,M⟩;refine aq _ _ (wsk fun _ ar=>wsr fun _ af=>sdf A 0 TwI_fld_30_0 λA=>?_);refine sdl A M TwI_is1_3 1 λA=>?_;rcases tf ((p0.d.k != 6))with aa|aa
  ·have aa':=iy.1 aa;refine sdc A zh aa λA=>?_;refine sdm A λA=>?_;iterate 3 refine sks A λA=>?_
   refine sdk (v:=bV true) A λA=>?_;refine sdm A λA=>?_;iterate 3 refine sks A λA=>?_
   refine sdk (v:=bV true) A λA=>?_;refine sdm A λA=>?_;iterate 6 refine sks A λA=>?_
   refine sdk (v:=bV true) A λA=>?_;refine qct af A ?_;refine wsr fun _ ag=>sdo (v:=.agg zD.toArray) A (qn rfl (fun w=>by kernel_rfl)) λA=>?_;refine qt A M rfl rfl (qj rfl rfl rfl (by kernel_rfl) M 2 rfl rfl rfl) 2 rfl rfl rfl ?_;intro _ M;refine sda A λA=>?_;refine qa (ag _ _ (wp_ret (hret _ _ (en2 A rfl (zw M TwI_isS_30 rfl 2 rfl (cs:=zD) rfl rfl) (qf rfl) ?_))));exact⟨.inr ⟨by rw[qsf,gn aa']; rfl,rfl⟩,M.bel⟩
  ·have aa':=ie.1 aa;refine sdc A zh aa λA=>?_;refine sdm A λA=>?_;refine sdf A 8 TwI_fld_30_3 λA=>?_;refine sdl A M TwI_is1_9 1 λA=>?_;rcases tf (decide (p0.d.s=⟨#[113,117,111,116,101]⟩))with ab|ab
   ·have ab':=f5 ab;refine sdo (v:=bV false) A (qb rfl rfl (fun w=>(kx gi w).trans (by rw[ab]<;>rfl))) λA=>?_;refine sdk (v:=bV false) A λA=>?_;refine sdm A λA=>?_;refine sdf A 0 TwI_fld_30_0 λA=>?_;refine sdl A M TwI_is1_3 0 λA=>?_;rcases tf ((p1.d.k != 8))with ac|ac
    ·have ac':=iy.1 ac;refine sdc A zh ac λA=>?_;refine sdk (v:=bV true) A λA=>?_;refine sdm A λA=>?_;iterate 6 refine sks A λA=>?_
     refine sdk (v:=bV true) A λA=>?_;refine qct af A ?_;refine wsr fun _ ah=>sdo (v:=.agg zD.toArray) A (qn rfl (fun w=>by kernel_rfl)) λA=>?_;refine qt A M rfl rfl (qj rfl rfl rfl (by kernel_rfl) M 2 rfl rfl rfl) 2 rfl rfl rfl ?_;intro _ M;refine sda A λA=>?_;refine qa (ah _ _ (wp_ret (hret _ _ (en2 A rfl (zw M TwI_isS_30 rfl 2 rfl (cs:=zD) rfl rfl) (qf rfl) ?_))));exact⟨.inr ⟨by rw[xeh ac',Bool.and_false],rfl⟩,M.bel⟩
    ·have ac':=ie.1 ac;refine sdc A zh ac λA=>?_;refine sdk (v:=bV false) A λA=>?_;refine sdm A λA=>?_;refine sdf A 10 TwI_fld_30_5 λA=>?_;refine sdl A M TwI_is1_28 0 λA=>?_;have h81:p1.d.k=8:=ac';have l2q:=(jf g1).1.h8 h81;obtain⟨c0,bc0,oc0,ic0,mc0,rc0_,lc0,Hc0⟩:=qeh rp1_ (i:=0) (by omega);obtain⟨c1,bc1,oc1,ic1,mc1,rc1_,lc1,Hc1⟩:=qeh rp1_ (i:=1) (by omega);refine sdo (v:=pA bc1 (oc1+1*11)) A (qk (k:=1) f9 (by kernel_rfl) rfl rfl rfl lc1 (by omega)) λA=>?_;refine sdo (v:=pA bc1 (oc1+1*11)) A (qp TwI_fld_30_0 rfl rfl) λA=>?_;refine sdo A (xl (j:=0) M Hc1 TwI_is1_3 rfl rfl rfl) λA=>?_;rcases tf ((c1.d.k != 1))with ae|ae
     ·have ae':=iy.1 ae;refine sdc A zh ae λA=>?_;refine sdk (v:=bV true) A λA=>?_;refine qct af A ?_;refine wsr fun _ ai=>sdo (v:=.agg zD.toArray) A (qn rfl (fun w=>by kernel_rfl)) λA=>?_;refine qt A M rfl rfl (qj rfl rfl rfl (by kernel_rfl) M 2 rfl rfl rfl) 2 rfl rfl rfl ?_;intro _ M;refine sda A λA=>?_;refine qa (ai _ _ (wp_ret (hret _ _ (en2 A rfl (zw M TwI_isS_30 rfl 2 rfl (cs:=zD) rfl rfl) (qf rfl) ?_))));exact⟨.inr ⟨by rw[ztf h81 l2q ic0 ic1,gn ae',Bool.and_false],rfl⟩,M.bel⟩
     ·have ae':=ie.1 ae;refine sdc A zh ae λA=>?_;refine sdk (v:=bV false) A λA=>?_;refine qcf af A ?_;refine wp_skip (ar _ _ (wsr fun _ aj=>sdf A 10 TwI_fld_30_5 λA=>?_));refine sdl A M TwI_is1_28 0 λA=>?_;refine sdo (v:=pA bc0 (oc0+0*11)) A (qk (k:=0) f9 (by kernel_rfl) rfl rfl rfl lc0 (by omega)) λA=>?_;refine sdo A (zp M Hc0 TwI_isS_30 rfl rfl) λA=>?_;refine qt A M rfl rfl (qj rfl rfl rfl (by kernel_rfl) M 2 rfl rfl rfl) 2 rfl rfl rfl ?_;intro _ M;refine sda A λA=>?_;refine qa (aj _ _ (wp_ret (hret _ _ (en2 A rfl (zw M TwI_isS_30 rfl 2 rfl (cs:=[iV c0.d.k,iV c0.d.n,bV c0.d.y.q.b1,.slice c0.d.y.o1 c0.d.y.q.t1.length c0.d.y.c1,.slice c0.d.y.o2 c0.d.y.q.q1.length c0.d.y.c2,bV c0.d.y.q.b2,.slice c0.d.y.o3 c0.d.y.q.t2.length c0.d.y.c3,.slice c0.d.y.o4 c0.d.y.q.q2.length c0.d.y.c4,.string c0.d.s,.slice c0.d.ro c0.d.rl.length c0.d.rc,.slice c0.d.lo c0.ts.length c0.d.lc]) rfl rfl) (qf rfl) ?_))));exact⟨.inl ⟨by rw[qsf,ztf h81 l2q ic0 ic1,gv aa',gv ab',gv ae']; rfl,c0,ic0,mc0,h81,l2q,rc0_,rfl⟩,M.bel⟩
   ·have ab':=fy ab;refine sdo (v:=bV true) A (qb rfl rfl (fun w=>(kx gi w).trans (by rw[ab]<;>rfl))) λA=>?_;refine sdk (v:=bV true) A λA=>?_;refine sdm A λA=>?_;iterate 3 refine sks A λA=>?_
    refine sdk (v:=bV true) A λA=>?_;refine sdm A λA=>?_;iterate 6 refine sks A λA=>?_
    refine sdk (v:=bV true) A λA=>?_;refine qct af A ?_;refine wsr fun _ ak=>sdo (v:=.agg zD.toArray) A (qn rfl (fun w=>by kernel_rfl)) λA=>?_;refine qt A M rfl rfl (qj rfl rfl rfl (by kernel_rfl) M 2 rfl rfl rfl) 2 rfl rfl rfl ?_;intro _ M;refine sda A λA=>?_;refine qa (ak _ _ (wp_ret (hret _ _ (en2 A rfl (zw M TwI_isS_30 rfl 2 rfl (cs:=zD) rfl rfl) (qf rfl) ?_))));exact⟨.inr ⟨by rw[qsf,gn ab',Bool.and_false]; rfl,rfl⟩,M.bel⟩
 refine xg (S:=fun w1=>Mg w w1 (.obj g2 (.cells (t.d.cells t.ts.length).toArray 30)::[])) (by kernel_rfl) ?_;replace M:=M.drew;refine atk (v:=pA g2 10) A 0 rfl hP (M.sub (cN (cC ns))) (λ_ M=>qp TwI_fld_30_5 rfl rfl) λA=>?_;refine atk A 1 rfl hP (M.sub (cN (cC ns))) (λ_ M=>xy M TwI_is1_28 rfl 0 rfl rfl) λA=>?_;refine atk (v:=pA bp0 (op0+0*11)) A 2 rfl hP (M.sub (cN (cC ns))) (λ_ M=>qk (k:=0) f9 (by kernel_rfl) rfl rfl rfl lp0 (by omega)) λA=>?_;refine atk A 3 rfl hP (M.sub (cN (cC ns))) (λ_ M=>zp M Hp0 TwI_isS_30 rfl rfl) λA=>?_;refine atk (v:=pA g2 10) A 4 rfl hP (M.sub (cN (cC ns))) (λ_ M=>qp TwI_fld_30_5 rfl rfl) λA=>?_;refine atk A 5 rfl hP (M.sub (cN (cC ns))) (λ_ M=>xy M TwI_is1_28 rfl 0 rfl rfl) λA=>?_;refine atk (v:=pA bp1 (op1+1*11)) A 6 rfl hP (M.sub (cN (cC ns))) (λ_ M=>qk (k:=1) f9 (by kernel_rfl) rfl rfl rfl lp1 (by omega)) λA=>?_;refine atk A 7 rfl hP (M.sub (cN (cC ns))) (λ_ M=>zp M Hp1 TwI_isS_30 rfl rfl) λA=>?_;refine znf (rs:=[8,9]) (by kernel_rfl) (by simp) ⟨?_,?_,trivial⟩
 ·refine jej (vs:=zD) (t:=30) A M 8 rfl rfl rfl rfl pg (qm (z:=.agg zD.toArray) (by kernel_rfl) rfl) (by decide) ?_;intro g25 _ M;refine⟨(M.sub (cN (cN (cC ns)))),?_⟩;intro a A;refine zn (by kernel_rfl) (jej (vs:=zD) (t:=30) A M 9 rfl rfl rfl rfl pg (qm (z:=.agg zD.toArray) (by kernel_rfl) rfl) (by decide) ?_);intro g27 _ M;refine⟨(M.sub (cN (cN (cN (cC ns))))),?_⟩;intro a A;refine zn (by kernel_rfl) (qoe A M 10 rfl rfl rfl (qj rfl rfl rfl (by kernel_rfl) M 1 rfl rfl rfl) 1 rfl rfl rfl ?_);intro _ M;refine⟨(M.sub (cN (cN (cN (cC ns))))),?_⟩;refine zn (by kernel_rfl) (qoe A M 11 rfl rfl rfl (qj rfl rfl rfl (by kernel_rfl) M 0 rfl rfl rfl) 0 rfl rfl rfl ?_);intro _ M;refine⟨(M.sub (cN (cN (cN (cC ns))))),?_⟩;refine jl (by kernel_rfl) ?_;exact am _ _ ⟨g25,g27,A.keep _ ⟨rfl,rfl,rfl,rfl,rfl,trivial⟩,M⟩
 ·refine jej (vs:=zD) (t:=30) A M 9 rfl rfl rfl rfl pg (qm (z:=.agg zD.toArray) (by kernel_rfl) rfl) (by decide) ?_;intro g31 _ M;refine⟨(M.sub (cN (cN (cC ns)))),?_⟩;intro a A;refine zn (by kernel_rfl) (jej (vs:=zD) (t:=30) A M 8 rfl rfl rfl rfl pg (qm (z:=.agg zD.toArray) (by kernel_rfl) rfl) (by decide) ?_);intro g33 _ M;refine⟨(M.sub (cN (cN (cN (cC ns))))),?_⟩;intro a A;refine zn (by kernel_rfl) (qoe A M 10 rfl rfl rfl (qj rfl rfl rfl (by kernel_rfl) M 0 rfl rfl rfl) 0 rfl rfl rfl ?_);intro _ M;refine⟨(M.sub (cN (cN (cN (cC ns))))),?_⟩;refine zn (by kernel_rfl) (qoe A M 11 rfl rfl rfl (qj rfl rfl rfl (by kernel_rfl) M 1 rfl rfl rfl) 1 rfl rfl rfl ?_);intro _ M;refine⟨(M.sub (cN (cN (cN (cC ns))))),?_⟩;refine jl (by kernel_rfl) ?_;replace M:=M.perm (.swap _ _ _);exact am _ _ ⟨g33,g31,A.keep _ ⟨rfl,rfl,rfl,rfl,rfl,trivial⟩,M⟩
theorem jad{w:World}{t p0 p1:Dt}(l2:t.ts.length=2)(g1:p1.tr.good)(rp1_:p1.rd w){bp0 op0 bp1 op1:Nat}(lp0:t.d.lo=some ⟨bp0,op0,none⟩)(Hp0:Here w bp0 (op0+0*11) (p0.d.cells p0.ts.length))(lp1:t.d.lo=some ⟨bp1,op1,none⟩)(Hp1:Here w bp1 (op1+1*11) (p1.d.cells p1.ts.length))(hq:(isQ p0.tr&&qtT p1.tr)=true):Calls Tryz.prog 252 #[.agg (t.d.cells t.ts.length).toArray] w fun e w'=>∃c0:Dt,p1.ts[0]?=some c0∧c0∈p1.ts∧p1.d.k=8∧p1.ts.length=2∧c0.rd w∧e=.returned (.tuple #[.agg (c0.d.cells c0.ts.length).toArray,bV true])∧Below w.heap.size w w':=
 (zbj l2 g1 rp1_ lp0 Hp0 lp1 Hp1).mono fun e w' ⟨h,hb⟩=>by
  rcases h with⟨_,c0,h1,h2,h3,h4,h5,h6⟩|⟨h,_⟩
  ·exact⟨c0,h1,h2,h3,h4,h5,h6,hb⟩
  ·rw[hq]at h; cases h
theorem jji{w:World}{t p0 p1:Dt}(l2:t.ts.length=2)(g1:p1.tr.good)(rp1_:p1.rd w){bp0 op0 bp1 op1:Nat}(lp0:t.d.lo=some ⟨bp0,op0,none⟩)(Hp0:Here w bp0 (op0+0*11) (p0.d.cells p0.ts.length))(lp1:t.d.lo=some ⟨bp1,op1,none⟩)(Hp1:Here w bp1 (op1+1*11) (p1.d.cells p1.ts.length))(hq:(isQ p0.tr&&qtT p1.tr)=false):Calls Tryz.prog 252 #[.agg (t.d.cells t.ts.length).toArray] w (RB w (.tuple #[.agg zD.toArray,bV false])):=
 (zbj l2 g1 rp1_ lp0 Hp0 lp1 Hp1).mono fun e w' ⟨h,hb⟩=>by
  rcases h with⟨h,_⟩|⟨_,h⟩
  ·rw[hq]at h; cases h
  ·exact⟨h,hb⟩
def Writes(n:Nat):Prop:=∀{w0 w:World} {gw:Nat} {p v:Value} {pl:Bool} {bs:List UInt8} {T:List Ck} {t:Dt},(p=.pointer none∨p=(pA gw 0))→Mg w0 w (.obj gw (.cells #[p,v,bV pl] 182)::.row BY 1 v bs.length (Lib.byteCells bs)::T)→QT T→t.tr.bulk<n→t.rd w0→t.tr.good→C.Tz16 w0→C.Tp10 w0→t.tr.bulk≤1048576→bs.length+64*t.tr.bulk≤1000000000→Calls Tryz.prog 146 #[pA gw 0,.agg (t.d.cells t.ts.length).toArray] w fun e w'=>e=.returned (.tuple #[])∧∃v',Mg w0 w' (.obj gw (.cells #[pA gw 0,v',bV pl] 182)::.row BY 1 v' (bs++wrT pl t.tr).length (Lib.byteCells (bs++wrT pl t.tr))::T)
theorem xmf{w0 w:World}{gw:Nat}{p v:Value}{pl:Bool}{bs:List UInt8}{T:List Ck}(hp:p=.pointer none∨p=(pA gw 0))(hM0:Mg w0 w (.obj gw (.cells #[p,v,bV pl] 182)::.row BY 1 v bs.length (Lib.byteCells bs)::T))(hT:QT T){n:Nat}(ih:Writes n){t:Dt}(ht:t.rd w0)(gt:t.tr.good)(hbn:t.tr.bulk≤n)(hz:C.Tz16 w0)(htp:C.Tp10 w0)(hmax:t.tr.bulk≤1048576)(hroom:bs.length+(64*t.tr.bulk)≤1000000000):Calls Tryz.prog 200 #[pA gw 0,.slice t.d.lo t.ts.length t.d.lc] w fun e w'=>e=.returned (.tuple #[])∧∃v',Mg w0 w' (.obj gw (.cells #[pA gw 0,v',bV pl] 182)::.row BY 1 v' (bs++([35,40]++wrL pl true (t.ts.map Dt.tr)++[41])).length (Lib.byteCells (bs++([35,40]++wrL pl true (t.ts.map Dt.tr)++[41])))::T):=by
 have hlt:=(Dt.okT ht).2;have hbl:=qqa (t:=t);have M:Mg w0 w (.obj gw (.cells #[p,v,bV pl] 182)::.row BY 1 (v) bs.length ((Lib.byteCells bs))::T):=hM0;refine wof Tryz.func200 Tryz.ntmps200 fun Q hret hnorm hP a A=>?_;refine wsr fun _ az=>sdm A λA=>?_;refine sdn A λA=>?_;refine sdf A 0 TwI_fld_182_0 λA=>?_;refine sct A ec (jo hp (toW (X:=[]) M) (s:=⟨#[35,40]⟩) (by first|omega|(simp only[fv,fw,fx]; omega)|(simp only[fv,fw,fx,ByteArray.size,gg,Array.size]; omega))) ?_;rintro _ w5 ⟨rfl,v2,bd⟩;replace M:=(zi (X:=[]) bd);refine⟨_,rfl,?_⟩;intro a A;refine qwk az fun _ bf=>wsr fun _ bg=>sdm A λA=>?_;refine sdo A (qr f9 rfl) λA=>?_;refine sdm A λA=>?_;refine qa (bg _ _ (wp_block ?_));replace M:Mg w0 w5 (.obj gw (.cells #[pA gw 0,v2,bV pl] 182)::.row BY 1 (v2) ((((bs++[35,40])++[])).length) ((Lib.byteCells (((bs++[35,40])++[]))))::T):=by
  have h9:=M;simp only[f4,gh,f8]at h9 ⊢;exact h9
 refine zg (fun m_ a w1=>∃(i:Nat) (acc:List UInt8) (vo:Value),m_=1+(t.ts.length-i)∧(i≤t.ts.length∧acc++wrL pl (decide (i=0)) ((t.ts.map Dt.tr).drop i)=wrL pl true (t.ts.map Dt.tr)∧acc.length+64*Tr.bulks ((t.ts.map Dt.tr).drop i)≤64*Tr.bulks (t.ts.map Dt.tr))∧Sl a 28 [(0,pA gw 0),(1,.slice t.d.lo t.ts.length t.d.lc),(6,pA gw 0),(7,pA gw 0),(8,pA gw 0),(9,.tuple #[iV ((((⟨#[35,40]⟩:ByteArray).size:Nat):Int)),.nilIface]),(10,.slice t.d.lo t.ts.length t.d.lc),(11,iV (((t.ts.length:Nat):Int))),(12,iV (((i:Nat):Int)))]∧Mg w0 w1 (.obj gw (.cells #[pA gw 0,vo,bV pl] 182)::.row BY 1 (vo) (((bs++[35,40])++acc).length) ((Lib.byteCells ((bs++[35,40])++acc)))::T)) _ ⟨0,[],v2,rfl,⟨ii _,rfl,by rw[List.drop_zero,fx]; omega⟩,A.keep _ (by repeat' constructor),M⟩ ?_;clear M A;rintro m_ a _ ⟨i,acc,vo,rfl,ac,A,M⟩ _ aw;obtain⟨_,ae,ha9⟩:=ac;refine wsr fun _ af=>?_;rcases tf (decide (((i:Nat):Int)<((t.ts.length:Nat):Int)))with ab|ab
 ·have ab':=f5 ab;refine sdc A qy ab λA=>?_;refine qa (af _ _ (wsk fun _ ak=>wp_cond_true (A.ev rfl) ?_));refine wp_skip (ak _ _ (wsk fun _ ag=>wp_block (wsk fun _ am=>?_)));obtain⟨t1,bt1,ot1,it1,mt1,rt1_,lt1,Ht1⟩:=qeh ht (i:=i) (by omega);have hbk9:=zbg (ts:=t.ts) it1;have hw9:=(qfi pl t1.tr ((jf gt).2.2 _ mt1)).1;refine wrl (sdm A λA=>?_);refine sdo (v:=pA bt1 (ot1+i*11)) A (qk (k:=i) f9 (by kernel_rfl) rfl rfl rfl lt1 (by omega)) λA=>?_;refine sdo A (zp M Ht1 TwI_isS_30 rfl rfl) λA=>?_;refine zj (vs:=zD) (t:=30) A M rfl rfl rfl pg (qm (z:=.agg zD.toArray) (by kernel_rfl) rfl) (by decide) ?_;intro g16 _ M a A;refine sda A λA=>?_;refine qt A M rfl rfl (qj rfl rfl rfl (by kernel_rfl) M 0 rfl rfl rfl) 0 rfl rfl rfl ?_;intro _ M;refine qwr am fun _ ah=>?_;iterate 2 refine sdm A λA=>?_
  rcases tf (decide (i=0))with aa|aa
  ·have aa':=f5 aa;refine sct A ec ((show Calls Tryz.prog 250 #[pA gw 0,iV ((i:Nat):Int)] _ _ from by rw[aa']; exact jsa (toW (X:=[.obj g16 (.cells (t1.d.cells t1.ts.length).toArray 30)]) M))) ?_;rintro _ _ ⟨rfl,ap⟩;replace M:=(zi (X:=[.obj g16 (.cells (t1.d.cells t1.ts.length).toArray 30)]) ap);refine⟨_,rfl,?_⟩;intro a A;refine qa (ah _ _ (wrl (sdm A λA=>?_)));refine sdo A (qz M TwI_isS_30 rfl 0 rfl (cs:=[iV t1.d.k,iV t1.d.n,bV t1.d.y.q.b1,.slice t1.d.y.o1 t1.d.y.q.t1.length t1.d.y.c1,.slice t1.d.y.o2 t1.d.y.q.q1.length t1.d.y.c2,bV t1.d.y.q.b2,.slice t1.d.y.o3 t1.d.y.q.t2.length t1.d.y.c3,.slice t1.d.y.o4 t1.d.y.q.q2.length t1.d.y.c4,.string t1.d.s,.slice t1.d.ro t1.d.rl.length t1.d.rc,.slice t1.d.lo t1.ts.length t1.d.lc]) rfl rfl) λA=>?_;refine sct A ec (ih (.inr rfl) (toW (X:=[.obj g16 (.cells (t1.d.cells t1.ts.length).toArray 30)]) M) (.cons (by decide) hT) (t:=t1) (by have:=qhi mt1; omega) rt1_ ((jf gt).2.2 _ mt1) hz htp (by have:=qhi mt1; omega) (by simp only[fv,fw,fx]; omega)) ?_;rintro _ ax ⟨rfl,ai,aq⟩;replace M:=(zi (X:=[.obj g16 (.cells (t1.d.cells t1.ts.length).toArray 30)]) aq);refine⟨_,rfl,?_⟩;intro a A;refine qa (ag _ _ (wrl (sdo (v:=iV (((i+1:Nat):Int))) A (qb rfl rfl (fun w=>(zq (jk (by omega) (by omega)) w).trans (by rw[show(((i:Nat):Int)+1:Int)=((i+1:Nat):Int)from by omega]))) λA=>?_)));refine sdm A λA=>?_;refine qa ?_
   replace M:Mg w0 ax (.obj gw (.cells #[pA gw 0,ai,bV pl] 182)::.row BY 1 (ai) (((((bs++[35,40])++acc)++(wrT pl t1.tr))).length) ((Lib.byteCells ((((bs++[35,40])++acc)++(wrT pl t1.tr)))))::T):=by
    have h9:=M.sub (cN (cC (cC (.refl _))));exact h9
   replace M:Mg w0 ax (.obj gw (.cells #[pA gw 0,ai,bV pl] 182)::.row BY 1 (ai) ((((bs++[35,40])++(acc++([]++wrT pl t1.tr)))).length) ((Lib.byteCells (((bs++[35,40])++(acc++([]++wrT pl t1.tr))))))::T):=by
    have h9:=M;simp only[f4,gh,f8]at h9 ⊢;exact h9
   refine aw _ _ _ (by omega) ⟨i+1,acc++([]++wrT pl t1.tr),ai,rfl,⟨by omega,by rw[←ae,show decide (i+1=0)=false from gn (by omega),jth (f:=decide (i=0)) it1,aa]; rw[gj rfl]; simp only[f4],by simp only[fv,fw,fx]; omega⟩,A.keep _ (by repeat' constructor),M⟩
  ·have aa':=fy aa;refine sct A ec (jsb (.inr rfl) (toW (X:=[.obj g16 (.cells (t1.d.cells t1.ts.length).toArray 30)]) M) (.cons (by decide) hT) (i:=((i:Nat):Int)) (by omega) (by first|omega|(simp only[fv,fw,fx]; omega)|(simp only[fv,fw,fx,ByteArray.size,gg,Array.size]; omega))) ?_;rintro _ _ ⟨rfl,_,ar⟩;replace M:=(zi (X:=[.obj g16 (.cells (t1.d.cells t1.ts.length).toArray 30)]) ar);refine⟨_,rfl,?_⟩;intro a A;refine qa (ah _ _ (wrl (sdm A λA=>?_)));refine sdo A (qz M TwI_isS_30 rfl 0 rfl (cs:=[iV t1.d.k,iV t1.d.n,bV t1.d.y.q.b1,.slice t1.d.y.o1 t1.d.y.q.t1.length t1.d.y.c1,.slice t1.d.y.o2 t1.d.y.q.q1.length t1.d.y.c2,bV t1.d.y.q.b2,.slice t1.d.y.o3 t1.d.y.q.t2.length t1.d.y.c3,.slice t1.d.y.o4 t1.d.y.q.q2.length t1.d.y.c4,.string t1.d.s,.slice t1.d.ro t1.d.rl.length t1.d.rc,.slice t1.d.lo t1.ts.length t1.d.lc]) rfl rfl) λA=>?_;refine sct A ec (ih (.inr rfl) (toW (X:=[.obj g16 (.cells (t1.d.cells t1.ts.length).toArray 30)]) M) (.cons (by decide) hT) (t:=t1) (by have:=qhi mt1; omega) rt1_ ((jf gt).2.2 _ mt1) hz htp (by have:=qhi mt1; omega) (by simp only[fv,fw,fx]; omega)) ?_;rintro _ ay ⟨rfl,aj,au⟩;replace M:=(zi (X:=[.obj g16 (.cells (t1.d.cells t1.ts.length).toArray 30)]) au);refine⟨_,rfl,?_⟩;intro a A
   refine qa (ag _ _ (wrl (sdo (v:=iV (((i+1:Nat):Int))) A (qb rfl rfl (fun w=>(zq (jk (by omega) (by omega)) w).trans (by rw[show(((i:Nat):Int)+1:Int)=((i+1:Nat):Int)from by omega]))) λA=>?_)));refine sdm A λA=>?_;refine qa ?_;replace M:Mg w0 ay (.obj gw (.cells #[pA gw 0,aj,bV pl] 182)::.row BY 1 (aj) ((((((bs++[35,40])++acc)++([32]))++(wrT pl t1.tr))).length) ((Lib.byteCells (((((bs++[35,40])++acc)++([32]))++(wrT pl t1.tr)))))::T):=by
    have h9:=M.sub (cN (cC (cC (.refl _))));exact h9
   replace M:Mg w0 ay (.obj gw (.cells #[pA gw 0,aj,bV pl] 182)::.row BY 1 (aj) ((((bs++[35,40])++(acc++([32]++wrT pl t1.tr)))).length) ((Lib.byteCells (((bs++[35,40])++(acc++([32]++wrT pl t1.tr))))))::T):=by
    have h9:=M;simp only[f4,gh,f8]at h9 ⊢;exact h9
   refine aw _ _ _ (by omega) ⟨i+1,acc++([32]++wrT pl t1.tr),aj,rfl,⟨by omega,by rw[←ae,show decide (i+1=0)=false from gn (by omega),jth (f:=decide (i=0)) it1,aa,f7 (show ¬false=true by decide)]; simp only[f4],by simp only[fv,fw,fx]; omega⟩,A.keep _ (by repeat' constructor),M⟩
 ·have ab':=fy ab;refine sdc A qy ab λA=>?_;refine qa (af _ _ (wsk fun _ _=>wp_cond_false (A.ev rfl) ?_));refine wp_exit (bf _ _ (wrl (sdm A λA=>?_)));refine sdn A λA=>?_;refine sdf A 0 TwI_fld_182_0 λA=>?_;refine sct A ec (zx (.inr rfl) (toW (X:=[]) M) hT (b:=41) (by first|omega|(simp only[fv,fw,fx]; omega)|(simp only[fv,fw,fx,ByteArray.size,gg,Array.size]; omega))) ?_;rintro _ _ ⟨rfl,bh,av⟩;replace M:=(zi (X:=[]) av);refine⟨_,rfl,?_⟩;intro a A;refine qa (hnorm _ _ (jq (v:=.tuple #[]) A rfl .nil rfl ?_));refine⟨rfl,bh,?_⟩;have bi:=M.sub (L':=_::_::T) (cC (cC (.refl _)));rw[show[35,40]++wrL pl true (t.ts.map Dt.tr)++[41]=([35,40])++(acc++([41]))from(by rw[←ae,xcj (by omega),gh,f4])];simpa only[f4,gh,gq,f8]using bi
theorem TwJ_is1_27: Is1 Tryz.prog 27:=⟨⟨_,ib,rfl⟩,by kernel_rfl⟩
theorem TwJ_is1_28: Is1 Tryz.prog 28:=⟨⟨_,f9,rfl⟩,by kernel_rfl⟩
theorem TwJ_is1_3: Is1 Tryz.prog 3:=⟨⟨_,i8,rfl⟩,by kernel_rfl⟩
theorem TwJ_is1_9: Is1 Tryz.prog 9:=⟨⟨_,gi,rfl⟩,by kernel_rfl⟩
theorem TwJ_fld_182_0: FieldAt Tryz.prog 182 0 0:=⟨_,_,lh,rfl,rfl,by kernel_rfl⟩
theorem TwJ_fld_30_0: FieldAt Tryz.prog 30 0 0:=⟨_,_,iu,rfl,rfl,by kernel_rfl⟩
theorem TwJ_fld_30_1: FieldAt Tryz.prog 30 1 1:=⟨_,_,iu,rfl,rfl,by kernel_rfl⟩
theorem TwJ_fld_30_2: FieldAt Tryz.prog 30 2 2:=⟨_,_,iu,rfl,rfl,by kernel_rfl⟩
theorem TwJ_fld_30_3: FieldAt Tryz.prog 30 3 8:=⟨_,_,iu,rfl,rfl,by kernel_rfl⟩
theorem TwJ_fld_30_4: FieldAt Tryz.prog 30 4 9:=⟨_,_,iu,rfl,rfl,by kernel_rfl⟩
theorem TwJ_fld_30_5: FieldAt Tryz.prog 30 5 10:=⟨_,_,iu,rfl,rfl,by kernel_rfl⟩
theorem TwJ_isS_26: IsS Tryz.prog 26 6:=⟨⟨_,j7⟩,by kernel_rfl⟩
theorem TwJ_isS_30: IsS Tryz.prog 30 11:=⟨⟨_,iu⟩,by kernel_rfl⟩
theorem jub{w:World}{t c:Dt}(h:t.rd w)(hc:c∈t.ts):c.rd w:=by
 rw[←Dt.eta t,Dt.rd_iff]at h;exact h.2.2.2.2 c hc
theorem juc{pl:Bool}{p c:Dt}(h:p.ts[0]?=some c):itT pl p.tr=wrT pl c.tr:=by
 rw[Dt.tr_eta p,itT]
 match hh:p.ts,h with
 | x :: xs, h => simp at h; subst h; rw [i6, it2]
theorem jag{n:Int}(h:yw n=true)(h0:0≤n):C.OkR ((n.toNat:Nat):Int):=by
 unfold yw at h;unfold C.OkR;have:=f5 h;omega
theorem zca{t:Dt}:t.d.s.size+t.d.rl.length+1≤t.tr.bulk:=by
 rw[Dt.tr_eta t,xr];omega
theorem zcb{t:Dt}:t.d.s.size+t.d.rl.length+(t.d.y.q.t1.length+t.d.y.q.q1.length+(t.d.y.q.t2.length+t.d.y.q.q2.length))+1≤t.tr.bulk:=by
 rw[Dt.tr_eta t,xr];omega
theorem jkb{w:World}{y:Nu}(hy:y.nm w)(hl:LenQ y.q)(hs:xt y.q=true):Calls Tryz.prog 241 #[.agg #[bV y.q.b1,.slice y.o1 y.q.t1.length y.c1,.slice y.o2 y.q.q1.length y.c2,bV y.q.b2,.slice y.o3 y.q.t2.length y.c3,.slice y.o4 y.q.q2.length y.c4],iV 10] w (RB w (.tuple #[.string ⟨(jv 10 y.q).toArray⟩,iV 0])):=jjj hy hl (r:=10) (.inr (.inr (.inl rfl))) hs
theorem xmg{w0 w:World}{gw:Nat}{p v:Value}{pl:Bool}{bs:List UInt8}{T:List Ck}(hp:p=.pointer none∨p=(pA gw 0))(hM0:Mg w0 w (.obj gw (.cells #[p,v,bV pl] 182)::.row BY 1 v bs.length (Lib.byteCells bs)::T))(hT:QT T){y:Nu}(hy:y.nm w0)(hl:LenQ y.q)(hs:xt y.q=true)(hroom:bs.length+(jv 10 y.q).length≤1000000000):Calls Tryz.prog 194 #[pA gw 0,.agg #[bV y.q.b1,.slice y.o1 y.q.t1.length y.c1,.slice y.o2 y.q.q1.length y.c2,bV y.q.b2,.slice y.o3 y.q.t2.length y.c3,.slice y.o4 y.q.q2.length y.c4]] w fun e w'=>e=.returned (.tuple #[])∧∃v',Mg w0 w' (.obj gw (.cells #[pA gw 0,v',bV pl] 182)::.row BY 1 v' (bs++(jv 10 y.q)).length (Lib.byteCells (bs++(jv 10 y.q)))::T):=by
 have M:Mg w0 w (.obj gw (.cells #[p,v,bV pl] 182)::.row BY 1 (v) bs.length ((Lib.byteCells bs))::T):=hM0;refine wof Tryz.func194 Tryz.ntmps194 fun Q hret hnorm hP a A=>?_;refine wsr fun _ aa=>zj (vs:=[bV y.q.b1,.slice y.o1 y.q.t1.length y.c1,.slice y.o2 y.q.q1.length y.c2,bV y.q.b2,.slice y.o3 y.q.t2.length y.c3,.slice y.o4 y.q.q2.length y.c4]) (t:=26) A M rfl rfl rfl pg (qx rfl rfl) (by decide) ?_;intro g2 _ M a A;refine qa (aa _ _ (wsr fun K4 ab=>sdo A (qz M TwJ_isS_26 rfl 0 rfl (cs:=[bV y.q.b1,.slice y.o1 y.q.t1.length y.c1,.slice y.o2 y.q.q1.length y.c2,bV y.q.b2,.slice y.o3 y.q.t2.length y.c3,.slice y.o4 y.q.q2.length y.c4]) rfl rfl) λA=>?_));refine gcl A M ec (jkb (Nu.below hy M.bel) hl hs) fun _ hbx M a A=>?_;refine sdm A λA=>?_;iterate 2 refine sde A λA=>?_
 iterate 2 refine sda A λA=>?_
 refine qa (ab _ _ (wrl (sdm A λA=>?_)));refine sdn A λA=>?_;refine sdf A 0 TwJ_fld_182_0 λA=>?_;refine sdm A λA=>?_;refine sct A ec (jo hp (toW (X:=[.obj g2 (.cells #[bV y.q.b1,.slice y.o1 y.q.t1.length y.c1,.slice y.o2 y.q.q1.length y.c2,bV y.q.b2,.slice y.o3 y.q.t2.length y.c3,.slice y.o4 y.q.q2.length y.c4] 26)]) M) (s:=⟨(jv 10 y.q).toArray⟩) (by first|omega|(simp only[fv,fw,fx]; omega)|(simp only[fv,fw,fx,ByteArray.size,gg,Array.size]; omega))) ?_;rintro _ _ ⟨rfl,v6,ac⟩;replace M:=(zi (X:=[.obj g2 (.cells #[bV y.q.b1,.slice y.o1 y.q.t1.length y.c1,.slice y.o2 y.q.q1.length y.c2,bV y.q.b2,.slice y.o3 y.q.t2.length y.c3,.slice y.o4 y.q.q2.length y.c4] 26)]) ac);refine⟨_,rfl,?_⟩;intro a A;refine qa (hnorm _ _ (jq (v:=.tuple #[]) A rfl .nil rfl ?_));refine⟨rfl,v6,?_⟩;have ae:=M.sub (L':=_::_::T) (cN (cC (cC (.refl _))));simpa only[f4,gh,gq,f8]using ae
theorem zhd{w0 w:World}{gw:Nat}{p v:Value}{pl:Bool}{bs:List UInt8}{T:List Ck}(hp:p=.pointer none∨p=(pA gw 0))(hM0:Mg w0 w (.obj gw (.cells #[p,v,bV pl] 182)::.row BY 1 v bs.length (Lib.byteCells bs)::T))(hT:QT T){b:Bool}(hroom:bs.length+16≤1000000000):Calls Tryz.prog 193 #[pA gw 0,bV b] w fun e w'=>e=.returned (.tuple #[])∧∃v',Mg w0 w' (.obj gw (.cells #[pA gw 0,v',bV pl] 182)::.row BY 1 v' (bs++(if b=true then[35,116]else[35,102])).length (Lib.byteCells (bs++(if b=true then[35,116]else[35,102])))::T):=by
 cases b
 ·exact zsf hp hM0 hT (by simp only[fw,fx]; omega)
 ·exact zzi hp hM0 hT (by simp only[fw,fx]; omega)
theorem xld{w0 w:World}{gw:Nat}{p v:Value}{pl:Bool}{bs:List UInt8}{T:List Ck}(hp:p=.pointer none∨p=(pA gw 0))(hM0:Mg w0 w (.obj gw (.cells #[p,v,bV pl] 182)::.row BY 1 v bs.length (Lib.byteCells bs)::T))(hT:QT T){n:Nat}(ih:Writes n){t:Dt}(ht:t.rd w0)(gt:t.tr.good)(hbn:t.tr.bulk≤n)(hz:C.Tz16 w0)(htp:C.Tp10 w0)(hmax:t.tr.bulk≤1048576)(h8:t.d.k=8)(hroom:bs.length+(64*t.tr.bulk)≤1000000000):Calls Tryz.prog 199 #[pA gw 0,.agg (t.d.cells t.ts.length).toArray] w fun e w'=>e=.returned (.tuple #[])∧∃v',Mg w0 w' (.obj gw (.cells #[pA gw 0,v',bV pl] 182)::.row BY 1 v' (bs++(wrT pl t.tr)).length (Lib.byteCells (bs++(wrT pl t.tr)))::T):=by
 have l2t:=(jf gt).1.h8 h8;obtain⟨q0,bq0,oq0,iq0,mq0,rq0_,lq0,Hq0⟩:=qeh ht (i:=0) (by omega);obtain⟨q1,bq1,oq1,iq1,mq1,rq1_,lq1,Hq1⟩:=qeh ht (i:=1) (by omega);have gq1:=(jf gt).2.2 _ mq1;have hbq1:=qhi mq1;have hbody:(tlT pl t.tr).drop 1=wrT pl q0.tr++tlT pl q1.tr:=by
  rw[qpj h8 l2t iq0 iq1];rfl
 have M:Mg w0 w (.obj gw (.cells #[p,v,bV pl] 182)::.row BY 1 (v) bs.length ((Lib.byteCells bs))::T):=hM0;refine wof Tryz.func199 Tryz.ntmps199 fun Q hret hnorm hP a A=>?_;refine wsr fun _ cm=>zj (vs:=[iV t.d.k,iV t.d.n,bV t.d.y.q.b1,.slice t.d.y.o1 t.d.y.q.t1.length t.d.y.c1,.slice t.d.y.o2 t.d.y.q.q1.length t.d.y.c2,bV t.d.y.q.b2,.slice t.d.y.o3 t.d.y.q.t2.length t.d.y.c3,.slice t.d.y.o4 t.d.y.q.q2.length t.d.y.c4,.string t.d.s,.slice t.d.ro t.d.rl.length t.d.rc,.slice t.d.lo t.ts.length t.d.lc]) (t:=30) A M rfl rfl rfl pg (qx rfl rfl) (by decide) ?_;intro g2 _ M a A;refine qa (cm _ _ (wsk fun K4 cn=>wsr fun _ cj=>sdo A (qz M TwJ_isS_30 rfl 0 rfl (cs:=[iV t.d.k,iV t.d.n,bV t.d.y.q.b1,.slice t.d.y.o1 t.d.y.q.t1.length t.d.y.c1,.slice t.d.y.o2 t.d.y.q.q1.length t.d.y.c2,bV t.d.y.q.b2,.slice t.d.y.o3 t.d.y.q.t2.length t.d.y.c3,.slice t.d.y.o4 t.d.y.q.q2.length t.d.y.c4,.string t.d.s,.slice t.d.ro t.d.rl.length t.d.rc,.slice t.d.lo t.ts.length t.d.lc]) rfl rfl) λA=>?_));rcases tf ((isQ q0.tr&&qtT q1.tr))with ag|ag
 ·refine sct A ec (jad (p0:=q0) (p1:=q1) l2t gq1 (Dt.keep M.bel _ rq1_) lq0 (Hq0.below M.bel) lq1 (Hq1.below M.bel) ag) ?_;rintro _ _ ⟨c0,ic0,mc0,k8q,l2q,_,rfl,hbq⟩;have rc0_:=jub rq1_ mc0;have hbc0:=qhi mc0;replace M:=M.call hbq;refine⟨_,rfl,?_⟩;intro a A;refine sdm A λA=>?_;iterate 2 refine sde A λA=>?_
  refine zj (vs:=zD) (t:=30) A M rfl rfl rfl pg (qm (z:=.agg zD.toArray) (by kernel_rfl) rfl) (by decide) ?_;intro g8 _ M a A;refine qt A M rfl rfl (qj rfl rfl rfl (by kernel_rfl) M 0 rfl rfl rfl) 0 rfl rfl rfl ?_;intro _ M;refine sda A λA=>?_;refine qwr cj fun _ au=>sdm A λA=>?_;refine qct au A ?_;refine wsr fun _ av=>sdm A λA=>?_;refine sdn A λA=>?_;refine sdf A 0 TwJ_fld_182_0 λA=>?_;refine sct A ec (zx hp (toW (X:=[.obj g8 (.cells (c0.d.cells c0.ts.length).toArray 30),.obj g2 (.cells (t.d.cells t.ts.length).toArray 30)]) M) (.cons (by decide) (.cons (by decide) hT)) (b:=39) (by first|omega|(simp only[fv,fw,fx]; omega)|(simp only[fv,fw,fx,ByteArray.size,gg,Array.size]; omega))) ?_;rintro _ _ ⟨rfl,_,aw⟩;replace M:=(zi (X:=[.obj g8 (.cells (c0.d.cells c0.ts.length).toArray 30),.obj g2 (.cells (t.d.cells t.ts.length).toArray 30)]) aw);refine⟨_,rfl,?_⟩;intro a A;refine qwr av fun _ ax=>sdm A λA=>?_;refine sdo A (qz M TwJ_isS_30 rfl 0 rfl (cs:=[iV c0.d.k,iV c0.d.n,bV c0.d.y.q.b1,.slice c0.d.y.o1 c0.d.y.q.t1.length c0.d.y.c1,.slice c0.d.y.o2 c0.d.y.q.q1.length c0.d.y.c2,bV c0.d.y.q.b2,.slice c0.d.y.o3 c0.d.y.q.t2.length c0.d.y.c3,.slice c0.d.y.o4 c0.d.y.q.q2.length c0.d.y.c4,.string c0.d.s,.slice c0.d.ro c0.d.rl.length c0.d.rc,.slice c0.d.lo c0.ts.length c0.d.lc]) rfl rfl) λA=>?_
  refine sct A ec (ih (.inr rfl) (toW (X:=[.obj g8 (.cells (c0.d.cells c0.ts.length).toArray 30),.obj g2 (.cells (t.d.cells t.ts.length).toArray 30)]) M) (.cons (by decide) (.cons (by decide) hT)) (t:=c0) (by skip; omega) rc0_ ((jf gq1).2.2 _ mc0) hz htp (by skip; omega) (by simp only[fv,fw,fx]; omega)) ?_;rintro _ _ ⟨rfl,co,ay⟩;replace M:=(zi (X:=[.obj g8 (.cells (c0.d.cells c0.ts.length).toArray 30),.obj g2 (.cells (t.d.cells t.ts.length).toArray 30)]) ay);refine⟨_,rfl,?_⟩;intro a A;refine qa (ax _ _ (wp_ret (hret _ _ (jq (v:=.tuple #[]) A rfl .nil rfl ?_))));refine⟨rfl,co,?_⟩;have ah:=M.sub (L':=_::_::T) (cN (cN (cC (cC (.refl _)))));rw[show wrT pl t.tr=([39])++(wrT pl c0.tr)from(by rw[zte h8 l2t iq0 iq1 ag,juc ic0])];simpa only[f4,gh,gq,f8]using ah
 ·refine gcl A M ec (jji (p0:=q0) (p1:=q1) l2t gq1 (Dt.keep M.bel _ rq1_) lq0 (Hq0.below M.bel) lq1 (Hq1.below M.bel) ag) fun _ hbq M a A=>?_;refine sdm A λA=>?_;iterate 2 refine sde A λA=>?_
  refine zj (vs:=zD) (t:=30) A M rfl rfl rfl pg (qm (z:=.agg zD.toArray) (by kernel_rfl) rfl) (by decide) ?_;intro g23 _ M a A;refine qt A M rfl rfl (qj rfl rfl rfl (by kernel_rfl) M 0 rfl rfl rfl) 0 rfl rfl rfl ?_;intro _ M;refine sda A λA=>?_;refine qwr cj fun _ az=>sdm A λA=>?_;refine qcf az A ?_;refine wp_skip (cn _ _ (wsr fun _ bd=>sdm A λA=>?_));refine sdn A λA=>?_;refine sdf A 0 TwJ_fld_182_0 λA=>?_;refine sct A ec (zx hp (toW (X:=[.obj g23 zC,.obj g2 (.cells (t.d.cells t.ts.length).toArray 30)]) M) (.cons (by decide) (.cons (by decide) hT)) (b:=40) (by first|omega|(simp only[fv,fw,fx]; omega)|(simp only[fv,fw,fx,ByteArray.size,gg,Array.size]; omega))) ?_;rintro _ ck ⟨rfl,ai,bf⟩;replace M:=(zi (X:=[.obj g23 zC,.obj g2 (.cells (t.d.cells t.ts.length).toArray 30)]) bf);refine⟨_,rfl,?_⟩;intro a A;refine qwk bd fun _ bg=>wsr fun _ bh=>sda A λA=>?_;refine qa (bh _ _ (wp_block ?_));replace M:Mg w0 ck (.obj g2 (.cells (t.d.cells t.ts.length).toArray 30)::.obj gw (.cells #[pA gw 0,ai,bV pl] 182)::.row BY 1 (ai) (((bs++([40]))).length) ((Lib.byteCells ((bs++([40])))))::T):=by
   have h9:=M.sub (cN (cC (cC (cC (.refl _)))));exact h9
  replace M:Mg w0 ck (.obj g2 (.cells (t.d.cells t.ts.length).toArray 30)::.obj gw (.cells #[pA gw 0,ai,bV pl] 182)::.row BY 1 (ai) ((((bs++[40])++[])).length) ((Lib.byteCells (((bs++[40])++[]))))::T):=by
   have h9:=M;simp only[f4,gh,f8]at h9 ⊢;exact h9
  refine zg (fun m_ a w1=>∃(i:Nat) (p:Dt) (acc:List UInt8) (vo:Value),m_=1+p.tr.bulk∧(p.rd w0∧p.tr.good∧(i=0→p=t)∧(0<i→acc.length+64*p.tr.bulk+48≤64*t.tr.bulk)∧acc.length+64*p.tr.bulk≤64*t.tr.bulk∧i+p.tr.bulk≤t.tr.bulk∧acc++(tlT pl p.tr).drop (if i=0 then 1 else 0)=(tlT pl t.tr).drop 1)∧Sl a 56 [(0,pA gw 0),(1,.agg (t.d.cells t.ts.length).toArray),(3,pA g2 0),(4,pA g23 0),(5,bV false),(6,iV (((i:Nat):Int))),(7,.tuple #[.agg zD.toArray,bV false]),(8,.agg (t.d.cells t.ts.length).toArray),(9,.tuple #[.agg zD.toArray,bV false]),(10,.agg zD.toArray),(11,bV false),(12,bV false),(20,pA gw 0),(21,pA gw 0),(22,pA gw 0),(23,.nilIface)]∧Mg w0 w1 (.obj g2 (.cells (p.d.cells p.ts.length).toArray 30)::.obj gw (.cells #[pA gw 0,vo,bV pl] 182)::.row BY 1 (vo) (((bs++[40])++acc).length) ((Lib.byteCells ((bs++[40])++acc)))::T)) _ ⟨0,t,[],ai,rfl,⟨ht,gt,fun _=>rfl,fun h=>absurd h (Nat.lt_irrefl _),by rw[fx]; omega,by omega,by rw[gj rfl,f8]⟩,A.keep _ (by repeat' constructor),M⟩ ?_;clear M A;rintro m_ a _ ⟨i,p,acc,vo,rfl,af,A,M⟩ _ aj;obtain⟨hp_,gp,hpt,hlen,ha9,hib,ae⟩:=af;refine wsk fun _ bi=>wsr fun _ ak=>sdf A 0 TwJ_fld_30_0 λA=>?_;refine sdl A M TwJ_is1_3 0 λA=>?_;rcases tf ((p.d.k==8))with aa|aa
  ·have aa':=gr aa;refine sdc A qe aa λA=>?_;refine qct ak A ?_;refine wp_skip (bi _ _ (wsk fun _ am=>wp_block (wsr fun _ ap=>?_)));iterate 2 refine sdm A λA=>?_
   rcases tf (decide (i=0))with ac|ac
   ·have ac':=f5 ac;refine sct A ec ((show Calls Tryz.prog 250 #[pA gw 0,iV ((i:Nat):Int)] _ _ from by rw[ac']; exact jsa (toW (X:=[.obj g2 (.cells (p.d.cells p.ts.length).toArray 30)]) M))) ?_;rintro _ _ ⟨rfl,bj⟩;replace M:=(zi (X:=[.obj g2 (.cells (p.d.cells p.ts.length).toArray 30)]) bj);refine⟨_,rfl,?_⟩;intro a A;refine qwk ap fun _ bn=>?_;have l2p:=(jf gp).1.h8 aa';obtain⟨p0,bp0,op0,ip0,mp0,rp0_,lp0,Hp0⟩:=qeh hp_ (i:=0) (by omega);obtain⟨p1,bp1,op1,ip1,mp1,rp1_,lp1,Hp1⟩:=qeh hp_ (i:=1) (by omega);have hbp:=qki l2p ip0 ip1;have hw9:=(qfi pl p0.tr ((jf gp).2.2 _ mp0)).1;have htl:=qpj (pl:=pl) aa' l2p ip0 ip1;refine wrl (sdm A λA=>?_);refine sdf A 10 TwJ_fld_30_5 λA=>?_;refine sdl A M TwJ_is1_28 0 λA=>?_;refine sdo (v:=pA bp0 (op0+0*11)) A (qk (k:=0) f9 (by kernel_rfl) rfl rfl rfl lp0 (by omega)) λA=>?_;refine sdo A (zp M Hp0 TwJ_isS_30 rfl rfl) λA=>?_;refine sct A ec (ih (.inr rfl) (toW (X:=[.obj g2 (.cells (p.d.cells p.ts.length).toArray 30)]) M) (.cons (by decide) hT) (t:=p0) (by skip; omega) rp0_ ((jf gp).2.2 _ mp0) hz htp (by skip; omega) (by simp only[fv,fw,fx]; omega)) ?_;rintro _ _ ⟨rfl,bp,bq⟩;replace M:=(zi (X:=[.obj g2 (.cells (p.d.cells p.ts.length).toArray 30)]) bq);refine⟨_,rfl,?_⟩;intro a A;refine qa (bn _ _ (wrl (sdf A 10 TwJ_fld_30_5 λA=>?_)));refine sdl A M TwJ_is1_28 0 λA=>?_
    refine sdo (v:=pA bp1 (op1+1*11)) A (qk (k:=1) f9 (by kernel_rfl) rfl rfl rfl lp1 (by omega)) λA=>?_;refine sdo A (zp M Hp1 TwJ_isS_30 rfl rfl) λA=>?_;refine qt A M rfl rfl (qj rfl rfl rfl (by kernel_rfl) M 0 rfl rfl rfl) 0 rfl rfl rfl ?_;intro cp M;refine qa (am _ _ (wrl (sdm A λA=>?_)));refine sdo (v:=iV (((i+1:Nat):Int))) A (qb rfl rfl (fun w=>(zq (jk (by omega) (by omega)) w).trans (by rw[show(((i:Nat):Int)+1:Int)=((i+1:Nat):Int)from by omega]))) λA=>?_;refine sda A λA=>?_;refine qa ?_;replace M:Mg w0 cp (.obj g2 (.cells (p1.d.cells p1.ts.length).toArray 30)::.obj gw (.cells #[pA gw 0,bp,bV pl] 182)::.row BY 1 (bp) ((((bs++[40])++(acc++([]++wrT pl p0.tr)))).length) ((Lib.byteCells (((bs++[40])++(acc++([]++wrT pl p0.tr))))))::T):=by
     have h9:=M;simp only[f4,gh,f8]at h9 ⊢;exact h9
    refine aj _ _ _ (by omega) ⟨i+1,p1,acc++([]++wrT pl p0.tr),bp,rfl,⟨rp1_,(jf gp).2.2 _ mp1,fun h=>by omega,fun _=>by simp only[fv,fw,fx]; omega,by simp only[fv,fw,fx]; omega,by omega,by rw[←ae,f7 (show ¬i+1=0 by omega),gj ac',htl,List.drop_zero]; simp only[f4,gq,f8,List.drop_succ_cons,List.drop_zero]⟩,A.keep _ (by repeat' constructor),M⟩
   ·have ac':=fy ac;refine sct A ec (jsb (.inr rfl) (toW (X:=[.obj g2 (.cells (p.d.cells p.ts.length).toArray 30)]) M) (.cons (by decide) hT) (i:=((i:Nat):Int)) (by omega) (by first|omega|(simp only[fv,fw,fx]; omega)|(simp only[fv,fw,fx,ByteArray.size,gg,Array.size]; omega))) ?_;rintro _ _ ⟨rfl,_,br⟩;replace M:=(zi (X:=[.obj g2 (.cells (p.d.cells p.ts.length).toArray 30)]) br);refine⟨_,rfl,?_⟩;intro a A;refine qwk ap fun _ bw=>?_;have l2p:=(jf gp).1.h8 aa';obtain⟨p0,bp0,op0,ip0,mp0,rp0_,lp0,Hp0⟩:=qeh hp_ (i:=0) (by omega);obtain⟨p1,bp1,op1,ip1,mp1,rp1_,lp1,Hp1⟩:=qeh hp_ (i:=1) (by omega);have hbp:=qki l2p ip0 ip1;have hw9:=(qfi pl p0.tr ((jf gp).2.2 _ mp0)).1;have htl:=qpj (pl:=pl) aa' l2p ip0 ip1;refine wrl (sdm A λA=>?_);refine sdf A 10 TwJ_fld_30_5 λA=>?_;refine sdl A M TwJ_is1_28 0 λA=>?_;refine sdo (v:=pA bp0 (op0+0*11)) A (qk (k:=0) f9 (by kernel_rfl) rfl rfl rfl lp0 (by omega)) λA=>?_;refine sdo A (zp M Hp0 TwJ_isS_30 rfl rfl) λA=>?_;refine sct A ec (ih (.inr rfl) (toW (X:=[.obj g2 (.cells (p.d.cells p.ts.length).toArray 30)]) M) (.cons (by decide) hT) (t:=p0) (by skip; omega) rp0_ ((jf gp).2.2 _ mp0) hz htp (by skip; omega) (by simp only[fv,fw,fx]; omega)) ?_;rintro _ _ ⟨rfl,bz,cc⟩
    replace M:=(zi (X:=[.obj g2 (.cells (p.d.cells p.ts.length).toArray 30)]) cc);refine⟨_,rfl,?_⟩;intro a A;refine qa (bw _ _ (wrl (sdf A 10 TwJ_fld_30_5 λA=>?_)));refine sdl A M TwJ_is1_28 0 λA=>?_;refine sdo (v:=pA bp1 (op1+1*11)) A (qk (k:=1) f9 (by kernel_rfl) rfl rfl rfl lp1 (by omega)) λA=>?_;refine sdo A (zp M Hp1 TwJ_isS_30 rfl rfl) λA=>?_;refine qt A M rfl rfl (qj rfl rfl rfl (by kernel_rfl) M 0 rfl rfl rfl) 0 rfl rfl rfl ?_;intro cq M;refine qa (am _ _ (wrl (sdm A λA=>?_)));refine sdo (v:=iV (((i+1:Nat):Int))) A (qb rfl rfl (fun w=>(zq (jk (by omega) (by omega)) w).trans (by rw[show(((i:Nat):Int)+1:Int)=((i+1:Nat):Int)from by omega]))) λA=>?_;refine sda A λA=>?_;refine qa ?_;replace M:Mg w0 cq (.obj g2 (.cells (p1.d.cells p1.ts.length).toArray 30)::.obj gw (.cells #[pA gw 0,bz,bV pl] 182)::.row BY 1 (bz) ((((bs++[40])++(acc++([32]++wrT pl p0.tr)))).length) ((Lib.byteCells (((bs++[40])++(acc++([32]++wrT pl p0.tr))))))::T):=by
     have h9:=M;simp only[f4,gh,f8]at h9 ⊢;exact h9
    refine aj _ _ _ (by omega) ⟨i+1,p1,acc++([32]++wrT pl p0.tr),bz,rfl,⟨rp1_,(jf gp).2.2 _ mp1,fun h=>by omega,fun _=>by simp only[fv,fw,fx]; omega,by simp only[fv,fw,fx]; omega,by omega,by rw[←ae,f7 (show ¬i+1=0 by omega),f7 ac',htl,List.drop_zero]; simp only[f4,gq,f8,List.drop_succ_cons,List.drop_zero]⟩,A.keep _ (by repeat' constructor),M⟩
  ·have aa':=f6 aa;refine sdc A qe aa λA=>?_;refine qcf ak A ?_;refine wp_exit (bg _ _ (wsk fun _ aq=>wsk fun _ ar=>?_));have cl:i≠0:=fun e=>aa' (by rw[hpt e]; exact h8);have _:=hlen (by omega);have hw8:=(qfi pl p.tr gp).1;refine wrl (sdf A 0 TwJ_fld_30_0 λA=>?_);refine sdl A M TwJ_is1_3 0 λA=>?_;rcases tf ((p.d.k != 1))with ab|ab
   ·have ab':=iy.1 ab;refine sdc A zh ab λA=>?_;refine qct ar A ?_;refine wsr fun _ cd=>sdm A λA=>?_;refine sdn A λA=>?_;refine sdf A 0 TwJ_fld_182_0 λA=>?_;refine sct A ec (jo (.inr rfl) (toW (X:=[.obj g2 (.cells (p.d.cells p.ts.length).toArray 30)]) M) (s:=⟨#[32,46,32]⟩) (by first|omega|(simp only[fv,fw,fx]; omega)|(simp only[fv,fw,fx,ByteArray.size,gg,Array.size]; omega))) ?_;rintro _ _ ⟨rfl,_,ce⟩;replace M:=(zi (X:=[.obj g2 (.cells (p.d.cells p.ts.length).toArray 30)]) ce);refine⟨_,rfl,?_⟩;intro a A;refine qa (cd _ _ (wrl (sdm A λA=>?_)));refine sdo A (qz M TwJ_isS_30 rfl 0 rfl (cs:=[iV p.d.k,iV p.d.n,bV p.d.y.q.b1,.slice p.d.y.o1 p.d.y.q.t1.length p.d.y.c1,.slice p.d.y.o2 p.d.y.q.q1.length p.d.y.c2,bV p.d.y.q.b2,.slice p.d.y.o3 p.d.y.q.t2.length p.d.y.c3,.slice p.d.y.o4 p.d.y.q.q2.length p.d.y.c4,.string p.d.s,.slice p.d.ro p.d.rl.length p.d.rc,.slice p.d.lo p.ts.length p.d.lc]) rfl rfl) λA=>?_;refine sct A ec (ih (.inr rfl) (toW (X:=[.obj g2 (.cells (p.d.cells p.ts.length).toArray 30)]) M) (.cons (by decide) hT) (t:=p) (by skip; omega) hp_ gp hz htp (by skip; omega) (by simp only[fv,fw,fx]; omega)) ?_;rintro _ _ ⟨rfl,_,cg⟩
    replace M:=(zi (X:=[.obj g2 (.cells (p.d.cells p.ts.length).toArray 30)]) cg);refine⟨_,rfl,?_⟩;intro a A;refine qa (aq _ _ (wrl (sdm A λA=>?_)));refine sdn A λA=>?_;refine sdf A 0 TwJ_fld_182_0 λA=>?_;refine sct A ec (zx (.inr rfl) (toW (X:=[.obj g2 (.cells (p.d.cells p.ts.length).toArray 30)]) M) (.cons (by decide) hT) (b:=41) (by first|omega|(simp only[fv,fw,fx]; omega)|(simp only[fv,fw,fx,ByteArray.size,gg,Array.size]; omega))) ?_;rintro _ _ ⟨rfl,cr,ch⟩;replace M:=(zi (X:=[.obj g2 (.cells (p.d.cells p.ts.length).toArray 30)]) ch);refine⟨_,rfl,?_⟩;intro a A;refine qa (hnorm _ _ (jq (v:=.tuple #[]) A rfl .nil rfl ?_));refine⟨rfl,cr,?_⟩;have ah:=M.sub (L':=_::_::T) (cN (cC (cC (.refl _))));rw[show wrT pl t.tr=([40])++(acc++(([32,46,32])++((wrT pl p.tr)++([41]))))from(by rw[zna h8 l2t iq0 iq1 ag,←hbody,←ae,f7 cl,List.drop_zero,jtg aa' ab']; simp only[f4,gh,gq,f8])];simpa only[f4,gh,gq,f8]using ah
   ·have ab':=ie.1 ab;refine sdc A zh ab λA=>?_;refine qcf ar A ?_;refine wp_skip (aq _ _ (wrl (sdm A λA=>?_)));refine sdn A λA=>?_;refine sdf A 0 TwJ_fld_182_0 λA=>?_;refine sct A ec (zx (.inr rfl) (toW (X:=[.obj g2 (.cells (p.d.cells p.ts.length).toArray 30)]) M) (.cons (by decide) hT) (b:=41) (by first|omega|(simp only[fv,fw,fx]; omega)|(simp only[fv,fw,fx,ByteArray.size,gg,Array.size]; omega))) ?_;rintro _ _ ⟨rfl,cw,ci⟩;replace M:=(zi (X:=[.obj g2 (.cells (p.d.cells p.ts.length).toArray 30)]) ci);refine⟨_,rfl,?_⟩;intro a A;refine qa (hnorm _ _ (jq (v:=.tuple #[]) A rfl .nil rfl ?_));refine⟨rfl,cw,?_⟩;have ah:=M.sub (L':=_::_::T) (cN (cC (cC (.refl _))));rw[show wrT pl t.tr=([40])++(acc++([41]))from(by rw[zna h8 l2t iq0 iq1 ag,←hbody,←ae,f7 cl,List.drop_zero,jtf ab']; simp only[f4,gh,gq,f8])];simpa only[f4,gh,gq,f8]using ah
theorem ztj{n:Nat}(ih:Writes n):Writes (n+1):=by
 intro w0 w gw p v pl bs T t hp ce hT hn ht gt hz htp hmax hroom;have _:=(jf gt).1.h0;have _:=(jf gt).1.h1;have hn9:=jle (jf gt).1;have hbp9:=zca (t:=t);have hbw9:=zcb (t:=t);have hsl:=zm t.d.s;have M:Mg w0 w (.obj gw (.cells #[p,v,bV pl] 182)::.row BY 1 (v) bs.length ((Lib.byteCells bs))::T):=ce;refine wof Tryz.func146 Tryz.ntmps146 fun Q hret hnorm hP a A=>?_;refine wsr fun _ cg=>zj (vs:=[iV t.d.k,iV t.d.n,bV t.d.y.q.b1,.slice t.d.y.o1 t.d.y.q.t1.length t.d.y.c1,.slice t.d.y.o2 t.d.y.q.q1.length t.d.y.c2,bV t.d.y.q.b2,.slice t.d.y.o3 t.d.y.q.t2.length t.d.y.c3,.slice t.d.y.o4 t.d.y.q.q2.length t.d.y.c4,.string t.d.s,.slice t.d.ro t.d.rl.length t.d.rc,.slice t.d.lo t.ts.length t.d.lc]) (t:=30) A M rfl rfl rfl pg (qx rfl rfl) (by decide) ?_;intro g2 _ M a A;refine qa (cg _ _ (wsr fun K4 ch=>sdf A 0 TwJ_fld_30_0 λA=>?_));refine sdl A M TwJ_is1_3 0 λA=>?_;refine qa (ch _ _ (wp_block (wsr fun _ cd=>?_)));rcases tf ((t.d.k==1))with ap|ap
 ·have ap':=gr ap;refine sdc A qe ap λA=>?_;refine sda A λA=>?_;refine qct cd A ?_;refine wrl (sdm A λA=>?_);refine sdn A λA=>?_;refine sdf A 0 TwJ_fld_182_0 λA=>?_;refine sct A ec (jo hp (toW (X:=[.obj g2 (.cells (t.d.cells t.ts.length).toArray 30)]) M) (s:=⟨#[40,41]⟩) (by first|omega|(simp only[fv,fw,fx]; omega)|(simp only[fv,fw,fx,ByteArray.size,gg,Array.size]; omega))) ?_;rintro _ _ ⟨rfl,v7,aa⟩;replace M:=(zi (X:=[.obj g2 (.cells (t.d.cells t.ts.length).toArray 30)]) aa);refine⟨_,rfl,?_⟩;intro a A;refine qa (hnorm _ _ (jq (v:=.tuple #[]) A rfl .nil rfl ?_));refine⟨rfl,v7,?_⟩;have aa:=M.sub (L':=_::_::T) (cN (cC (cC (.refl _))));rw[show wrT pl t.tr=([40,41])from(by
   rw[qbc,f7 (by omega),f7 (by omega)];unfold vd;repeat (first|rw[gj (by omega)]|rw[f7 (by omega)])
   try rfl
   try simp only[beq_iff_eq])]
  simpa only[f4,gh,gq,f8]using aa
 ·have ap':=f6 ap;refine sdc A qe ap λA=>?_;refine sda A λA=>?_;refine qcf cd A ?_;refine wsr fun _ aq=>?_;rcases tf ((t.d.k==2))with ab|ab
  ·have ab':=gr ab;refine sdc A qe ab λA=>?_;refine sda A λA=>?_;refine qct aq A ?_;refine wrl (sdm A λA=>?_);refine sdf A 1 TwJ_fld_30_1 λA=>?_;refine sdl A M TwJ_is1_3 0 λA=>?_;rcases tf ((t.d.n==1))with ac|ac
   ·have ac':=gr ac;refine sdc A qe ac λA=>?_;refine sct A ec (zhd hp (toW (X:=[.obj g2 (.cells (t.d.cells t.ts.length).toArray 30)]) M) (.cons (by decide) hT) (b:=true) (by omega)) ?_;rintro _ _ ⟨rfl,ci,bf⟩;replace M:=(zi (X:=[.obj g2 (.cells (t.d.cells t.ts.length).toArray 30)]) bf);refine⟨_,rfl,?_⟩;intro a A;refine qa (hnorm _ _ (jq (v:=.tuple #[]) A rfl .nil rfl ?_));refine⟨rfl,ci,?_⟩;have aa:=M.sub (L':=_::_::T) (cN (cC (cC (.refl _))));rw[show wrT pl t.tr=(if true=true then[35,116]else[35,102])from(by
     rw[qbc,f7 (by omega),f7 (by omega)];unfold vd;repeat (first|rw[gj (by omega)]|rw[f7 (by omega)])
     try rfl
     try simp only[beq_iff_eq])]
    simpa only[f4,gh,gq,f8]using aa
   ·have ac':=f6 ac;refine sdc A qe ac λA=>?_;refine sct A ec (zhd hp (toW (X:=[.obj g2 (.cells (t.d.cells t.ts.length).toArray 30)]) M) (.cons (by decide) hT) (b:=false) (by omega)) ?_;rintro _ _ ⟨rfl,cj,bg⟩;replace M:=(zi (X:=[.obj g2 (.cells (t.d.cells t.ts.length).toArray 30)]) bg);refine⟨_,rfl,?_⟩;intro a A;refine qa (hnorm _ _ (jq (v:=.tuple #[]) A rfl .nil rfl ?_));refine⟨rfl,cj,?_⟩;have aa:=M.sub (L':=_::_::T) (cN (cC (cC (.refl _))));rw[show wrT pl t.tr=(if false=true then[35,116]else[35,102])from(by
     rw[qbc,f7 (by omega),f7 (by omega)];unfold vd;repeat (first|rw[gj (by omega)]|rw[f7 (by omega)])
     try rfl
     try simp only[beq_iff_eq])]
    simpa only[f4,gh,gq,f8]using aa
  ·have ab':=f6 ab;refine sdc A qe ab λA=>?_;refine sda A λA=>?_;refine qcf aq A ?_;refine wsr fun _ ar=>?_;rcases tf ((t.d.k==3))with ae|ae
   ·have ae':=gr ae;refine sdc A qe ae λA=>?_;refine sda A λA=>?_;refine qct ar A ?_;refine wrl (sdm A λA=>?_);refine sdf A 2 TwJ_fld_30_2 λA=>?_;refine sdo A (qz M TwJ_isS_26 rfl 0 rfl (cs:=[bV t.d.y.q.b1,.slice t.d.y.o1 t.d.y.q.t1.length t.d.y.c1,.slice t.d.y.o2 t.d.y.q.q1.length t.d.y.c2,bV t.d.y.q.b2,.slice t.d.y.o3 t.d.y.q.t2.length t.d.y.c3,.slice t.d.y.o4 t.d.y.q.q2.length t.d.y.c4]) rfl rfl) λA=>?_;refine sct A ec (xmg hp (toW (X:=[.obj g2 (.cells (t.d.cells t.ts.length).toArray 30)]) M) (.cons (by decide) hT) (y:=t.d.y) (Dt.okT ht).1.num (Dt.okT ht).1.len ((jf gt).1.h3 (by omega)) (by have:=ztd ((jf gt).2.1 (by omega)); omega)) ?_;rintro _ _ ⟨rfl,ck,bh⟩;replace M:=(zi (X:=[.obj g2 (.cells (t.d.cells t.ts.length).toArray 30)]) bh);refine⟨_,rfl,?_⟩;intro a A;refine qa (hnorm _ _ (jq (v:=.tuple #[]) A rfl .nil rfl ?_));refine⟨rfl,ck,?_⟩;have aa:=M.sub (L':=_::_::T) (cN (cC (cC (.refl _))));rw[show wrT pl t.tr=(jv 10 t.d.y.q)from(by
     rw[qbc,f7 (by omega),f7 (by omega)];unfold vd;repeat (first|rw[gj (by omega)]|rw[f7 (by omega)])
     try rfl
     try simp only[beq_iff_eq])]
    simpa only[f4,gh,gq,f8]using aa
   ·have ae':=f6 ae;refine sdc A qe ae λA=>?_;refine sda A λA=>?_;refine qcf ar A ?_;refine wsr fun _ au=>?_;rcases tf ((t.d.k==4))with af|af
    ·have af':=gr af;refine sdc A qe af λA=>?_;refine sda A λA=>?_;refine qct au A ?_;refine wrl (sdm A λA=>?_);refine sdf A 1 TwJ_fld_30_1 λA=>?_;refine sdl A M TwJ_is1_3 0 λA=>?_;refine sdo (v:=.int .i32 (((t.d.n.toNat:Nat):Int))) A (zk rfl (ar_conv i8 iz ((in_i32 (by omega) (by omega)).trans (by omega)))) λA=>?_;refine sct A ec (xla hp (toW (X:=[.obj g2 (.cells (t.d.cells t.ts.length).toArray 30)]) M) (.cons (by decide) hT) (n:=t.d.n.toNat) (jag ((jf gt).1.h4 (by omega)) hn9.1) hz (by omega)) ?_;rintro _ _ ⟨rfl,cl,bi⟩;replace M:=(zi (X:=[.obj g2 (.cells (t.d.cells t.ts.length).toArray 30)]) bi);refine⟨_,rfl,?_⟩;intro a A;refine qa (hnorm _ _ (jq (v:=.tuple #[]) A rfl .nil rfl ?_));refine⟨rfl,cl,?_⟩;have aa:=M.sub (L':=_::_::T) (cN (cC (cC (.refl _))));rw[show wrT pl t.tr=(qad pl ((t.d.n.toNat:Nat):Int))from(by
      rw[Int.toNat_of_nonneg hn9.1];rw[qbc,f7 (by omega),f7 (by omega)];unfold vd;repeat (first|rw[gj (by omega)]|rw[f7 (by omega)])
      try rfl
      try simp only[beq_iff_eq])]
     simpa only[f4,gh,gq,f8]using aa
    ·have af':=f6 af;refine sdc A qe af λA=>?_;refine sda A λA=>?_;refine qcf au A ?_;refine wsr fun _ av=>?_;rcases tf ((t.d.k==5))with ag|ag
     ·have ag':=gr ag;refine sdc A qe ag λA=>?_;refine sda A λA=>?_;refine qct av A ?_;refine wrl (sdm A λA=>?_);refine sdf A 8 TwJ_fld_30_3 λA=>?_;refine sdl A M TwJ_is1_9 0 λA=>?_;refine sct A ec (xlb hp (toW (X:=[.obj g2 (.cells (t.d.cells t.ts.length).toArray 30)]) M) (.cons (by decide) hT) (s:=t.d.s) (by omega) hz (by omega)) ?_;rintro _ _ ⟨rfl,cm,bj⟩;replace M:=(zi (X:=[.obj g2 (.cells (t.d.cells t.ts.length).toArray 30)]) bj);refine⟨_,rfl,?_⟩;intro a A;refine qa (hnorm _ _ (jq (v:=.tuple #[]) A rfl .nil rfl ?_));refine⟨rfl,cm,?_⟩;have aa:=M.sub (L':=_::_::T) (cN (cC (cC (.refl _))));rw[show wrT pl t.tr=(qlc pl t.d.s)from(by
       rw[qbc,f7 (by omega),f7 (by omega)];unfold vd;repeat (first|rw[gj (by omega)]|rw[f7 (by omega)])
       try rfl
       try simp only[beq_iff_eq])]
      simpa only[f4,gh,gq,f8]using aa
     ·have ag':=f6 ag;refine sdc A qe ag λA=>?_;refine sda A λA=>?_;refine qcf av A ?_;refine wsr fun _ aw=>?_;rcases tf ((t.d.k==6))with ah|ah
      ·have ah':=gr ah;refine sdc A qe ah λA=>?_;refine sda A λA=>?_;refine qct aw A ?_;refine wrl (sdm A λA=>?_);refine sdf A 8 TwJ_fld_30_3 λA=>?_;refine sdl A M TwJ_is1_9 0 λA=>?_;refine sct A ec (xme hp (toW (X:=[.obj g2 (.cells (t.d.cells t.ts.length).toArray 30)]) M) (.cons (by decide) hT) (s:=t.d.s) (by omega) hz (by omega)) ?_;rintro _ _ ⟨rfl,cn,bn⟩;replace M:=(zi (X:=[.obj g2 (.cells (t.d.cells t.ts.length).toArray 30)]) bn);refine⟨_,rfl,?_⟩;intro a A;refine qa (hnorm _ _ (jq (v:=.tuple #[]) A rfl .nil rfl ?_));refine⟨rfl,cn,?_⟩;have aa:=M.sub (L':=_::_::T) (cN (cC (cC (.refl _))));rw[show wrT pl t.tr=(qaj pl t.d.s)from(by
        rw[qbc,f7 (by omega),f7 (by omega)];unfold vd;repeat (first|rw[gj (by omega)]|rw[f7 (by omega)])
        try rfl
        try simp only[beq_iff_eq])]
       simpa only[f4,gh,gq,f8]using aa
      ·have ah':=f6 ah;refine sdc A qe ah λA=>?_;refine sda A λA=>?_;refine qcf aw A ?_;refine wsr fun _ ax=>?_;rcases tf ((t.d.k==7))with ai|ai
       ·have ai':=gr ai;refine sdc A qe ai λA=>?_;refine sda A λA=>?_;refine qct ax A ?_;refine wrl (sdm A λA=>?_);refine sdf A 9 TwJ_fld_30_4 λA=>?_;refine sdl A M TwJ_is1_27 0 λA=>?_;refine sct A ec (xii hp (toW (X:=[.obj g2 (.cells (t.d.cells t.ts.length).toArray 30)]) M) (.cons (by decide) hT) (l:=t.d.rl) (Dt.okT ht).1.raw (by omega) htp (by omega)) ?_;rintro _ _ ⟨rfl,co,bp⟩;replace M:=(zi (X:=[.obj g2 (.cells (t.d.cells t.ts.length).toArray 30)]) bp);refine⟨_,rfl,?_⟩;intro a A;refine qa (hnorm _ _ (jq (v:=.tuple #[]) A rfl .nil rfl ?_));refine⟨rfl,co,?_⟩;have aa:=M.sub (L':=_::_::T) (cN (cC (cC (.refl _))));rw[show wrT pl t.tr=(zmf t.d.rl)from(by
         rw[qbc,f7 (by omega),f7 (by omega)];unfold vd;repeat (first|rw[gj (by omega)]|rw[f7 (by omega)])
         try rfl
         try simp only[beq_iff_eq])]
        simpa only[f4,gh,gq,f8]using aa
       ·have ai':=f6 ai;refine sdc A qe ai λA=>?_;refine sda A λA=>?_;refine qcf ax A ?_;refine wsr fun _ ay=>?_;rcases tf ((t.d.k==8))with aj|aj
        ·have aj':=gr aj;refine sdc A qe aj λA=>?_;refine sda A λA=>?_;refine qct ay A ?_;refine wrl (sdm A λA=>?_);refine sdo A (qz M TwJ_isS_30 rfl 0 rfl (cs:=[iV t.d.k,iV t.d.n,bV t.d.y.q.b1,.slice t.d.y.o1 t.d.y.q.t1.length t.d.y.c1,.slice t.d.y.o2 t.d.y.q.q1.length t.d.y.c2,bV t.d.y.q.b2,.slice t.d.y.o3 t.d.y.q.t2.length t.d.y.c3,.slice t.d.y.o4 t.d.y.q.q2.length t.d.y.c4,.string t.d.s,.slice t.d.ro t.d.rl.length t.d.rc,.slice t.d.lo t.ts.length t.d.lc]) rfl rfl) λA=>?_;refine sct A ec (xld hp (toW (X:=[.obj g2 (.cells (t.d.cells t.ts.length).toArray 30)]) M) (.cons (by decide) hT) ih (t:=t) ht gt (by omega) hz htp hmax (by omega) hroom) ?_;rintro _ _ ⟨rfl,cp,bq⟩;replace M:=(zi (X:=[.obj g2 (.cells (t.d.cells t.ts.length).toArray 30)]) bq);refine⟨_,rfl,?_⟩;intro a A;refine qa (hnorm _ _ (jq (v:=.tuple #[]) A rfl .nil rfl ?_));refine⟨rfl,cp,?_⟩;have aa:=M.sub (L':=_::_::T) (cN (cC (cC (.refl _))));simpa only[f4,gh,gq,f8]using aa
        ·have aj':=f6 aj;refine sdc A qe aj λA=>?_;refine sda A λA=>?_;refine qcf ay A ?_;refine wsr fun _ az=>?_;rcases tf ((t.d.k==9))with ak|ak
         ·have ak':=gr ak;refine sdc A qe ak λA=>?_;refine sda A λA=>?_;refine qct az A ?_;refine wrl (sdm A λA=>?_);refine sdf A 10 TwJ_fld_30_5 λA=>?_;refine sdl A M TwJ_is1_28 0 λA=>?_;refine sct A ec (xmf hp (toW (X:=[.obj g2 (.cells (t.d.cells t.ts.length).toArray 30)]) M) (.cons (by decide) hT) ih (t:=t) ht gt (by omega) hz htp hmax hroom) ?_;rintro _ _ ⟨rfl,cq,br⟩;replace M:=(zi (X:=[.obj g2 (.cells (t.d.cells t.ts.length).toArray 30)]) br);refine⟨_,rfl,?_⟩;intro a A;refine qa (hnorm _ _ (jq (v:=.tuple #[]) A rfl .nil rfl ?_));refine⟨rfl,cq,?_⟩;have aa:=M.sub (L':=_::_::T) (cN (cC (cC (.refl _))));rw[show wrT pl t.tr=([35,40]++wrL pl true (t.ts.map Dt.tr)++[41])from(by rw[qbc,f7 (by omega),gj (by omega)])];simpa only[f4,gh,gq,f8]using aa
         ·have ak':=f6 ak;refine sdc A qe ak λA=>?_;refine sda A λA=>?_;refine qcf az A ?_;refine wsr fun _ bd=>?_;rcases tf ((t.d.k==10))with am|am
          ·have am':=gr am;refine sdc A qe am λA=>?_;refine sda A λA=>?_;refine qct bd A ?_;refine wrl (sdm A λA=>?_);refine sdn A λA=>?_;refine sdf A 0 TwJ_fld_182_0 λA=>?_;refine sct A ec (jo hp (toW (X:=[.obj g2 (.cells (t.d.cells t.ts.length).toArray 30)]) M) (s:=⟨#[35,60,118,111,105,100,62]⟩) (by first|omega|(simp only[fv,fw,fx]; omega)|(simp only[fv,fw,fx,ByteArray.size,gg,Array.size]; omega))) ?_;rintro _ _ ⟨rfl,cr,bw⟩;replace M:=(zi (X:=[.obj g2 (.cells (t.d.cells t.ts.length).toArray 30)]) bw);refine⟨_,rfl,?_⟩;intro a A;refine qa (hnorm _ _ (jq (v:=.tuple #[]) A rfl .nil rfl ?_));refine⟨rfl,cr,?_⟩;have aa:=M.sub (L':=_::_::T) (cN (cC (cC (.refl _))));rw[show wrT pl t.tr=([35,60,118,111,105,100,62])from(by
            rw[qbc,f7 (by omega),f7 (by omega)];unfold vd;repeat (first|rw[gj (by omega)]|rw[f7 (by omega)])
            try rfl
            try simp only[beq_iff_eq])]
           simpa only[f4,gh,gq,f8]using aa
          ·have am':=f6 am;refine sdc A qe am λA=>?_;refine sda A λA=>?_;refine qcf bd A ?_;refine wsr fun _ bz=>sdo (v:=bV true) A (qb rfl rfl (fun w=>(qe w).trans (by rw[show((t.d.k==11))=true from(beq_iff_eq.2 (by omega))]))) λA=>?_;refine sda A λA=>?_;refine qct bz A ?_;refine wrl (sdm A λA=>?_);refine sdf A 8 TwJ_fld_30_3 λA=>?_;refine sdl A M TwJ_is1_9 0 λA=>?_;refine sct A ec (xic hp (toW (X:=[.obj g2 (.cells (t.d.cells t.ts.length).toArray 30)]) M) (.cons (by decide) hT) (s:=t.d.s) (by simp only[fv,fw,fx]; omega)) ?_;rintro _ _ ⟨rfl,cw,cc⟩;replace M:=(zi (X:=[.obj g2 (.cells (t.d.cells t.ts.length).toArray 30)]) cc);refine⟨_,rfl,?_⟩;intro a A;refine qa (hnorm _ _ (jq (v:=.tuple #[]) A rfl .nil rfl ?_));refine⟨rfl,cw,?_⟩;have aa:=M.sub (L':=_::_::T) (cN (cC (cC (.refl _))));rw[show wrT pl t.tr=([35,60]++t.d.s.data.toList++[62])from(by
            rw[qbc,f7 (by omega),f7 (by omega)];unfold vd;repeat (first|rw[gj (by omega)]|rw[f7 (by omega)])
            try rfl
            try simp only[beq_iff_eq])]
           simpa only[f4,gh,gq,f8]using aa
theorem zcc: ∀n,Writes n
 | 0 => fun _ _ _ h => absurd h (j4 _)
 | n + 1 => ztj (zcc n)
theorem znc(W:World)(q:Option Addr):(Builtin.unsafeString_ #[124,3] 9 #[.pointer q,iV 0]).run Tryz.prog W=.ok (.string .empty) W:=Lib.run_unsafeString_none W _ _ _ q
theorem xda{w:World}{B gw:Nat}{p q:Value}(hbk:w.heap[gw]?=some (.cells #[p,.slice none 0 0,q] 182 (0,0))):Calls Tryz.prog 39 #[pA gw 0] w fun e w'=>e=.returned (.string ⟨#[]⟩)∧Below B w w':=by
 have mixed:Tryz.prog.follows .mixedOrders=true:=by kernel_rfl
 have c1:w.drew.cell? ⟨gw,1,none⟩=some (.slice none 0 0):=by
  have:w.drew.heap[gw]?=some (.cells #[p,.slice none 0 0,q] 182 (0,0)):=hbk;rw[Lib.cell_of_heap this]; rfl
 have hSD:(Builtin.unsafeSliceData_ #[27] 124 #[.slice none 0 0]).run Tryz.prog w.drew=.ok (.pointer none) w.drew:=rfl;have hUS:=znc
 go_enter Tryz.func39,Tryz.ntmps39
 go_wp2
 go_region_o
 all_goals (go_wp2; go_ret; exact⟨rfl,Below.drew (Below.refl B w)⟩)
theorem jud{w:World}{B gw g cap:Nat}{p q:Value}(hc0:cap≠0)(hbk:w.heap[gw]?=some (.cells #[p,.slice (aO g) 0 cap,q] 182 (0,0))):Calls Tryz.prog 39 #[pA gw 0] w fun e w'=>e=.returned (.string ⟨#[]⟩)∧Below B w w':=by
 have mixed:Tryz.prog.follows .mixedOrders=true:=by kernel_rfl
 have c1:w.drew.cell? ⟨gw,1,none⟩=some (.slice (aO g) 0 cap):=by
  have:w.drew.heap[gw]?=some (.cells #[p,.slice (aO g) 0 cap,q] 182 (0,0)):=hbk;rw[Lib.cell_of_heap this]; rfl
 have hSD:(Builtin.unsafeSliceData_ #[27] 124 #[.slice (aO g) 0 cap]).run Tryz.prog w.drew=.ok (pA g 0) w.drew:=
  Lib.run_unsafeSliceData_row _ _ _ _ _ _ hc0
 clear hc0;have hUS:=znc
 go_enter Tryz.func39,Tryz.ntmps39
 go_wp2
 go_region_o
 all_goals (go_wp2; go_ret; exact⟨rfl,Below.drew (Below.refl B w)⟩)
theorem jah{w:World}{B gw g:Nat}{p q:Value}{cur:Array Value}(hBw:B≤w.heap.size)(hbk:w.heap[gw]?=some (.cells #[p,.slice (aO g) 0 0,q] 182 (0,0)))(hg:w.heap[g]?=some (.cells cur 5 (0,0))):Calls Tryz.prog 39 #[pA gw 0] w fun e w'=>e=.returned (.string ⟨#[]⟩)∧Below B w w':=by
 have mixed:Tryz.prog.follows .mixedOrders=true:=by kernel_rfl
 have hlt:gw<w.heap.size:=by
  rcases Nat.lt_or_ge gw w.heap.size with h'|h'
  ·exact h'
  ·simp[Array.getElem?_eq_none h']at hbk
 have c1:w.drew.cell? ⟨gw,1,none⟩=some (.slice (aO g) 0 0):=by
  have:w.drew.heap[gw]?=some (.cells #[p,.slice (aO g) 0 0,q] 182 (0,0)):=hbk;rw[Lib.cell_of_heap this]; rfl
 have hSD:(Builtin.unsafeSliceData_ #[27] 124 #[.slice (aO g) 0 0]).run Tryz.prog w.drew=.ok (pA w.drew.heap.size 0) (w.drew.alloc (.view ⟨g,0,none⟩ 5)):=
  Lib.run_unsafeSliceData_zero w.drew _ _ 5 Tryz.underlying124 ⟨g,0,none⟩ 0 (5,cur.size) (by have hg':w.drew.heap[g]?=some (.cells cur 5 (0,0)):=hg; simp[World.shape?,hg'])
 have c2:(w.drew.alloc (.view ⟨g,0,none⟩ 5)).cell? ⟨gw,1,none⟩=some (.slice (aO g) 0 0):=by
  have:(w.drew.alloc (.view ⟨g,0,none⟩ 5)).heap[gw]?=_:=(Lib.alloc_old w.drew _ gw hlt).trans hbk;rw[Lib.cell_of_heap this]; rfl
 have c3:(w.alloc (.view ⟨g,0,none⟩ 5)).drew.cell? ⟨gw,1,none⟩=some (.slice (aO g) 0 0):=c2;have c0:w.cell? ⟨gw,1,none⟩=some (.slice (aO g) 0 0):=c1;have hUS:=znc
 go_enter Tryz.func39,Tryz.ntmps39
 go_wp2
 go_region_o
 all_goals (go_wp2; go_ret; exact⟨rfl,(Below.drew (Below.refl B w)).alloc hBw _⟩)
theorem jkc{w0 w:World}{gw:Nat}{p v:Value}{pl:Bool}{bs:List UInt8}{T:List Ck}(M:Mg w0 w (.obj gw (.cells #[p,v,bV pl] 182)::.row BY 1 v bs.length (Lib.byteCells bs)::T))(hmax:bs.length≤9223372036854775807):Calls Tryz.prog 39 #[pA gw 0] w fun e w'=>e=.returned (.string ⟨bs.toArray⟩)∧Below w0.heap.size w w':=by
 have hown:=M.has 1 rfl;have hb:=M.obj 0 rfl;rcases hown.2 with⟨rfl,hz⟩|⟨g,cap,cur,rfl,hbg,hg,hnc,hcm,hcs,htake⟩
 ·have h0:bs=[]:=List.eq_nil_of_length_eq_zero hz;subst h0;exact xda hb
 ·by_cases h0:bs=[]
  ·subst h0;by_cases aa:cap=0
   ·subst aa;exact jah M.bel.size hb hg
   ·exact jud aa hb
  ·exact xaa h0 hb hg hnc hmax hbg (fun j x hx=>by
    have h9:=hown.cells (g:=g) rfl j (.int .u8 x.toNat) (by simp[Lib.byteCells,hx]);rw[jt,Nat.zero_add]at h9;exact h9) (by simp at hcs; omega)
def wrA(pl:Bool)(t:Tr):List UInt8×Int:=if qs qh t=true then(wrT pl t,0)else([],2)
theorem qjg{pl:Bool}{t:Tr}(h:qs qh t=true):wrA pl t=(wrT pl t,0):=gj h
theorem jue{pl:Bool}{t:Tr}(h:qs qh t=false):wrA pl t=([],2):=f7 (by rw[h]; decide)
theorem zhe{w:World}{t:Dt}(ht:t.rd w)(hTb:Tabs8 w)(hz:C.Tz16 w)(htp:C.Tp10 w)(hmax:t.tr.bulk≤1048576)(pl:Bool):Calls Tryz.prog 105 #[.agg (t.d.cells t.ts.length).toArray,bV pl] w (RB w (.tuple #[.string ⟨(wrA pl t.tr).1.toArray⟩,iV (wrA pl t.tr).2])):=by
 have M:=Mg.start w;refine wof Tryz.func105 Tryz.ntmps105 fun Q hret hnorm hP a A=>?_;refine wsr fun _ ag=>zj (vs:=[iV t.d.k,iV t.d.n,bV t.d.y.q.b1,.slice t.d.y.o1 t.d.y.q.t1.length t.d.y.c1,.slice t.d.y.o2 t.d.y.q.q1.length t.d.y.c2,bV t.d.y.q.b2,.slice t.d.y.o3 t.d.y.q.t2.length t.d.y.c3,.slice t.d.y.o4 t.d.y.q.q2.length t.d.y.c4,.string t.d.s,.slice t.d.ro t.d.rl.length t.d.rc,.slice t.d.lo t.ts.length t.d.lc]) (t:=30) A M rfl rfl rfl pg (qx rfl rfl) (by decide) ?_;intro g2 _ M a A;iterate 2 refine sda A λA=>?_
 refine qa (ag _ _ (wsk fun K4 ah=>wsr fun _ af=>sdo A (qz M zv rfl 0 rfl (cs:=[iV t.d.k,iV t.d.n,bV t.d.y.q.b1,.slice t.d.y.o1 t.d.y.q.t1.length t.d.y.c1,.slice t.d.y.o2 t.d.y.q.q1.length t.d.y.c2,bV t.d.y.q.b2,.slice t.d.y.o3 t.d.y.q.t2.length t.d.y.c3,.slice t.d.y.o4 t.d.y.q.q2.length t.d.y.c4,.string t.d.s,.slice t.d.ro t.d.rl.length t.d.rc,.slice t.d.lo t.ts.length t.d.lc]) rfl rfl) λA=>?_));rcases tf (qs qh t.tr)with aa|aa
 ·refine gcl A M ec ((aa▸sound_any (t:=t) (Dt.keep M.bel _ ht) (hTb.below M.bel))) fun _ _ M a A=>?_;refine sdu A λA=>?_;refine qcf af A ?_;refine wp_skip (ah _ _ (wsr fun _ ai=>sdm A λA=>?_));refine sdo (v:=.agg #[.pointer none,.slice none 0 0,bV pl]) A (qn rfl (fun w=>by kernel_rfl)) λA=>?_;refine zj (vs:=[.pointer none,.slice none 0 0,bV false]) (t:=182) A M rfl rfl rfl pg (qm (z:=.agg #[.pointer none,.slice none 0 0,bV false]) (by kernel_rfl) rfl) (by decide) ?_;intro g10 _ M a A;refine qt A M rfl rfl (qj rfl rfl rfl (by kernel_rfl) M 0 rfl rfl rfl) 0 rfl rfl rfl ?_;intro _ M;refine qwk ai fun _ ab=>?_;have hMn:=Mg.addNil M (qi (by simp) (qi (by simp) (za zd)));obtain⟨gw,hgw⟩:∃x,x=g10:=⟨_,rfl⟩;rw[←hgw]at A hMn;replace M:=hMn.perm (.swap _ _ _);refine wrl (sdo A (qz M zv rfl 2 rfl (cs:=[iV t.d.k,iV t.d.n,bV t.d.y.q.b1,.slice t.d.y.o1 t.d.y.q.t1.length t.d.y.c1,.slice t.d.y.o2 t.d.y.q.q1.length t.d.y.c2,bV t.d.y.q.b2,.slice t.d.y.o3 t.d.y.q.t2.length t.d.y.c3,.slice t.d.y.o4 t.d.y.q.q2.length t.d.y.c4,.string t.d.s,.slice t.d.ro t.d.rl.length t.d.rc,.slice t.d.lo t.ts.length t.d.lc]) rfl rfl) λA=>?_);refine sct A ec (zcc (t.tr.bulk+1) (bs:=[]) (T:=[.obj g2 (.cells (t.d.cells t.ts.length).toArray 30)]) (.inl rfl) M (.cons (by decide) .nil) (Nat.lt_succ_self _) ht (qvc ht aa) hz htp hmax (by rw[fx]; omega)) ?_;rintro _ _ ⟨rfl,_,aj⟩;replace M:=aj;refine⟨_,rfl,?_⟩;intro a A;refine qa (ab _ _ (wsr fun _ ac=>sdf A 0 jyi λA=>?_))
  refine sct A ec (jkc (bs:=[]++wrT pl t.tr) M (by have:=(qfi pl t.tr (qvc ht aa)).1; rw[f8]; omega)) ?_;rintro _ ak ⟨rfl,hbs⟩;replace M:Mg w ak ([]):=⟨M.bel.trans hbs,by simp,.nil⟩;refine⟨_,rfl,?_⟩;intro a A;iterate 2 refine sda A λA=>?_
  refine qa (ac _ _ (wp_ret (hret _ _ (en2 A rfl (qf rfl) (qf rfl) ?_))));exact⟨by rw[qjg aa]<;>rfl,M.bel⟩
 ·refine gcl A M ec ((aa▸sound_any (t:=t) (Dt.keep M.bel _ ht) (hTb.below M.bel))) fun _ _ M a A=>?_;refine sdu A λA=>?_;refine qct af A ?_;refine wsr fun _ ae=>?_;iterate 2 refine sda A λA=>?_
  refine qa (ae _ _ (wp_ret (hret _ _ (en2 A rfl (qf rfl) (qf rfl) ?_))));exact⟨by rw[jue aa]<;>rfl,M.bel⟩
theorem jkd{w:World}{t:Dt}(ht:t.rd w)(hTb:Tabs8 w)(hz:C.Tz16 w)(htp:C.Tp10 w)(hmax:t.tr.bulk≤1048576):Calls Tryz.prog 73 #[.agg (t.d.cells t.ts.length).toArray] w (RB w (.tuple #[.string ⟨(wrA false t.tr).1.toArray⟩,iV (wrA false t.tr).2])):=by
 have M:=Mg.start w;refine wof Tryz.func73 Tryz.ntmps73 fun Q hret hnorm hP a A=>?_;refine wsr fun _ aa=>zj (vs:=[iV t.d.k,iV t.d.n,bV t.d.y.q.b1,.slice t.d.y.o1 t.d.y.q.t1.length t.d.y.c1,.slice t.d.y.o2 t.d.y.q.q1.length t.d.y.c2,bV t.d.y.q.b2,.slice t.d.y.o3 t.d.y.q.t2.length t.d.y.c3,.slice t.d.y.o4 t.d.y.q.q2.length t.d.y.c4,.string t.d.s,.slice t.d.ro t.d.rl.length t.d.rc,.slice t.d.lo t.ts.length t.d.lc]) (t:=30) A M rfl rfl rfl pg (qx rfl rfl) (by decide) ?_;intro g2 _ M a A;iterate 2 refine sda A λA=>?_
 refine qa (aa _ _ (wsr fun K4 ab=>sdo A (qz M zv rfl 0 rfl (cs:=[iV t.d.k,iV t.d.n,bV t.d.y.q.b1,.slice t.d.y.o1 t.d.y.q.t1.length t.d.y.c1,.slice t.d.y.o2 t.d.y.q.q1.length t.d.y.c2,bV t.d.y.q.b2,.slice t.d.y.o3 t.d.y.q.t2.length t.d.y.c3,.slice t.d.y.o4 t.d.y.q.q2.length t.d.y.c4,.string t.d.s,.slice t.d.ro t.d.rl.length t.d.rc,.slice t.d.lo t.ts.length t.d.lc]) rfl rfl) λA=>?_));refine gcl A M ec (zhe (Dt.keep M.bel _ ht) (hTb.below M.bel) (vq hz M.bel) (htp.below M.bel) hmax false) fun _ hbt M a A=>?_;iterate 2 refine sde A λA=>?_
 iterate 2 refine sda A λA=>?_
 refine qa (ab _ _ (wp_ret (hret _ _ (en2 A rfl (qf rfl) (qf rfl) ?_))));exact⟨rfl,M.bel⟩
theorem quc{w:World}{t:Dt}(ht:t.rd w)(hTb:Tabs8 w)(hz:C.Tz16 w)(htp:C.Tp10 w)(hmax:t.tr.bulk≤1048576):Calls Tryz.prog 71 #[.agg (t.d.cells t.ts.length).toArray] w (RB w (.tuple #[.string ⟨(wrA true t.tr).1.toArray⟩,iV (wrA true t.tr).2])):=by
 have M:=Mg.start w;refine wof Tryz.func71 Tryz.ntmps71 fun Q hret hnorm hP a A=>?_;refine wsr fun _ aa=>zj (vs:=[iV t.d.k,iV t.d.n,bV t.d.y.q.b1,.slice t.d.y.o1 t.d.y.q.t1.length t.d.y.c1,.slice t.d.y.o2 t.d.y.q.q1.length t.d.y.c2,bV t.d.y.q.b2,.slice t.d.y.o3 t.d.y.q.t2.length t.d.y.c3,.slice t.d.y.o4 t.d.y.q.q2.length t.d.y.c4,.string t.d.s,.slice t.d.ro t.d.rl.length t.d.rc,.slice t.d.lo t.ts.length t.d.lc]) (t:=30) A M rfl rfl rfl pg (qx rfl rfl) (by decide) ?_;intro g2 _ M a A;iterate 2 refine sda A λA=>?_
 refine qa (aa _ _ (wsr fun K4 ab=>sdo A (qz M zv rfl 0 rfl (cs:=[iV t.d.k,iV t.d.n,bV t.d.y.q.b1,.slice t.d.y.o1 t.d.y.q.t1.length t.d.y.c1,.slice t.d.y.o2 t.d.y.q.q1.length t.d.y.c2,bV t.d.y.q.b2,.slice t.d.y.o3 t.d.y.q.t2.length t.d.y.c3,.slice t.d.y.o4 t.d.y.q.q2.length t.d.y.c4,.string t.d.s,.slice t.d.ro t.d.rl.length t.d.rc,.slice t.d.lo t.ts.length t.d.lc]) rfl rfl) λA=>?_));refine gcl A M ec (zhe (Dt.keep M.bel _ ht) (hTb.below M.bel) (vq hz M.bel) (htp.below M.bel) hmax true) fun _ hbt M a A=>?_;iterate 2 refine sde A λA=>?_
 iterate 2 refine sda A λA=>?_
 refine qa (ab _ _ (wp_ret (hret _ _ (en2 A rfl (qf rfl) (qf rfl) ?_))));exact⟨rfl,M.bel⟩
open Go.RowKit Go.Lib
def xle: List ByteArray:=[⟨#[110,117,108]⟩,⟨#[97,108,97,114,109]⟩,⟨#[98,97,99,107,115,112,97,99,101]⟩,⟨#[116,97,98]⟩,⟨#[108,105,110,101,102,101,101,100]⟩,⟨#[110,101,119,108,105,110,101]⟩,⟨#[118,116,97,98]⟩,⟨#[112,97,103,101]⟩,⟨#[114,101,116,117,114,110]⟩,⟨#[101,115,99]⟩,⟨#[115,112,97,99,101]⟩,⟨#[100,101,108,101,116,101]⟩]
def xlf: List Int:=[0,7,8,9,10,10,11,12,13,27,32,127]
def xlg: List ByteArray:=[⟨#[110,117,108]⟩,⟨#[97,108,97,114,109]⟩,⟨#[98,97,99,107,115,112,97,99,101]⟩,⟨#[116,97,98]⟩,⟨#[110,101,119,108,105,110,101]⟩,⟨#[118,116,97,98]⟩,⟨#[112,97,103,101]⟩,⟨#[114,101,116,117,114,110]⟩,⟨#[101,115,99]⟩,⟨#[115,112,97,99,101]⟩,⟨#[100,101,108,101,116,101]⟩]
def nmA(i:Nat):ByteArray:=xle.getD i ⟨#[]⟩
def nuA(i:Nat):Int:=xlf.getD i 0
def nmB(i:Nat):ByteArray:=xlg.getD i ⟨#[]⟩
def nmC: List Value:=xle.map .string
def nuC: List Value:=xlf.map (.int .i64)
def nmD: List Value:=xlg.map .string
def qlg(s:ByteArray):Nat→Nat→Int
  | 0, _ => -1
  | f + 1, i => if nmA i = s then nuA i else qlg s f (i + 1)
def qed(s:ByteArray):Int:=qlg s 12 0
theorem juf{s:ByteArray}{i:Nat}(hi:i<12)(h:nmA i=s):qlg s (12-i) i=nuA i:=by
  obtain⟨f,hf⟩:∃f,12-i=f+1:=⟨11-i,by omega⟩;rw[hf,qlg,gj h]
theorem xdb{s:ByteArray}{i:Nat}(hi:i<12)(h:nmA i≠s):qlg s (12-i) i=qlg s (12-(i+1)) (i+1):=by
  obtain⟨f,hf⟩:∃f,12-i=f+1:=⟨11-i,by omega⟩;rw[hf,qlg,f7 h,show 12-(i+1)=f by omega]
theorem jug{s:ByteArray}{i:Nat}(hi:¬i<12):qlg s (12-i) i=-1:=by rw[show 12-i=0 by omega,qlg]
theorem xij{i:Nat}(h:i<12):nmC[0+i]?=some (.string (nmA i)):=by
  rw[Nat.zero_add]
  match i,h with
  | 0, _|1, _|2, _|3, _|4, _|5, _|6, _|7, _|8, _|9, _|10, _|11, _ => rfl
  | n + 12, h => omega
theorem xja{i:Nat}(h:i<12):nuC[0+i]?=some (.int .i64 (nuA i)):=by
  rw[Nat.zero_add]
  match i,h with
  | 0, _|1, _|2, _|3, _|4, _|5, _|6, _|7, _|8, _|9, _|10, _|11, _ => rfl
  | n + 12, h => omega
theorem xjb{i:Nat}(h:i<11):nmD[0+i]?=some (.string (nmB i)):=by
  rw[Nat.zero_add]
  match i,h with
  | 0, _|1, _|2, _|3, _|4, _|5, _|6, _|7, _|8, _|9, _|10, _ => rfl
  | n + 11, h => omega
theorem juh: ∀i:Fin 11,C.nameL (qed (nmB i.val))=nmB i.val:=by decide +kernel
theorem jke: ∀i:Fin 11,qed (nmB i.val)=[0,7,8,9,10,11,12,13,27,32,127].getD i.val 0:=by decide +kernel
theorem jkf{n:Int}(h:∀j,j<11→qed (nmB j)≠n):C.nameL n=⟨#[]⟩:=by
  have k:∀i:Fin 11,[0,7,8,9,10,11,12,13,27,32,127].getD i.val 0≠n:=fun i=>by rw[←jke i]; exact h i.val i.isLt
  have k0:(0:Int)≠n:=k 0;have k1:(7:Int)≠n:=k 1;have k2:(8:Int)≠n:=k 2;have k3:(9:Int)≠n:=k 3;have k4:(10:Int)≠n:=k 4;have k5:(11:Int)≠n:=k 5;have k6:(12:Int)≠n:=k 6;have k7:(13:Int)≠n:=k 7;have k8:(27:Int)≠n:=k 8;have k9:(32:Int)≠n:=k 9;have k10:(127:Int)≠n:=k 10;unfold C.nameL;rw[f7 (Ne.symm k0),f7 (Ne.symm k1),f7 (Ne.symm k2),f7 (Ne.symm k3),f7 (Ne.symm k4),f7 (Ne.symm k5),f7 (Ne.symm k6),f7 (Ne.symm k7),f7 (Ne.symm k8),f7 (Ne.symm k9),f7 (Ne.symm k10)]
theorem qde(x:ByteArray):(⟨x.data.toList.toArray⟩:ByteArray)=x:=by cases x; simp
theorem qsg{P:Program}{s d:TypeId}{k:IntKind}{n:Nat}(hs:P.underlying s=some (.int k))(hd:P.underlying d=some .string)(h:C.OkR ((n:Nat):Int)):∀w,(convert s d (.int k ((n:Nat):Int))).run P w=.ok (.string ⟨(encodeRune ((n:Nat):Int)).toArray⟩) w:=fun w=>by
  rw[run_convert_int_string w s d k _ (by rw[hs]; rfl) hd];have hv:ValidR ((n:Nat):Int):=by unfold C.OkR at h; unfold ValidR; omega
  have e:=qde (Utf8.encode ((n:Nat):Int));rw[encode_valid _ hv]at e;rw[e]
theorem zua{P:Program}{t:TypeId}{x y:Operand}{a:List UInt8}{s:ByteArray}(hm:a.length+s.size≤9223372036854775807):∀w,(do eqGuard .add t x y (.string (bsL a)) (.string s); binOp .add t (.string (bsL a)) (.string s):Sem Value).run P w=.ok (.string (bsL (a++s.data.toList))) w:=by
  have h:=ql (P:=P) (t:=t) (x:=x) (y:=y) (a:=a) (b:=s.data.toList) (by rw[zm]; exact hm)
  rwa [show bsL s.data.toList=s from qde s]at h
theorem jkg{w:World}{s:ByteArray}:Calls Tryz.prog 205 #[.string s] w (RB w (iV (qed s))):=by
 have M:=Mg.start w;refine wof Tryz.func205 Tryz.ntmps205 fun Q hret hnorm hP a A=>?_;refine wsr fun _ ap=>sda A λA=>?_;refine qa (ap _ _ (wsr fun _ aq=>jr (e:=9) (sz:=1) (m:=12) (vs:=[.string (⟨#[110,117,108]⟩),.string (⟨#[97,108,97,114,109]⟩),.string (⟨#[98,97,99,107,115,112,97,99,101]⟩),.string (⟨#[116,97,98]⟩),.string (⟨#[108,105,110,101,102,101,101,100]⟩),.string (⟨#[110,101,119,108,105,110,101]⟩),.string (⟨#[118,116,97,98]⟩),.string (⟨#[112,97,103,101]⟩),.string (⟨#[114,101,116,117,114,110]⟩),.string (⟨#[101,115,99]⟩),.string (⟨#[115,112,97,99,101]⟩),.string (⟨#[100,101,108,101,116,101]⟩)]) A M rfl rfl rfl (qg rfl (by kernel_rfl)) rfl rfl (.inl (by decide)) ?_));intro g3 _ M a A;refine sda A λA=>?_;refine qa (aq _ _ (wsr fun _ ar=>jr (e:=3) (sz:=1) (m:=12) (vs:=[iV 0,iV 7,iV 8,iV 9,iV 10,iV 10,iV 11,iV 12,iV 13,iV 27,iV 32,iV 127]) A M rfl rfl rfl (qg rfl (by kernel_rfl)) rfl rfl (.inl (by decide)) ?_));intro g6 _ M a A;refine sda A λA=>?_;refine qwk ar fun _ au=>wsr fun _ av=>sda A λA=>?_
 refine qa (av _ _ (wp_block (zg (fun m_ a w1=>∃(i:Nat),m_=1+(12-i)∧(i≤12∧qed s=qlg s (12-i) i)∧Sl a 24 [(0,.string s),(3,.slice (aO g3) 12 12),(4,.slice (aO g6) 12 12),(5,iV (((i:Nat):Int))),(6,.slice (aO g3) 12 12),(7,.slice (aO g6) 12 12)]∧Mg w w1 (.row 3 1 (.slice (aO g6) 12 12) 12 ([iV 0,iV 7,iV 8,iV 9,iV 10,iV 10,iV 11,iV 12,iV 13,iV 27,iV 32,iV 127])::.row 9 1 (.slice (aO g3) 12 12) 12 ([.string (⟨#[110,117,108]⟩),.string (⟨#[97,108,97,114,109]⟩),.string (⟨#[98,97,99,107,115,112,97,99,101]⟩),.string (⟨#[116,97,98]⟩),.string (⟨#[108,105,110,101,102,101,101,100]⟩),.string (⟨#[110,101,119,108,105,110,101]⟩),.string (⟨#[118,116,97,98]⟩),.string (⟨#[112,97,103,101]⟩),.string (⟨#[114,101,116,117,114,110]⟩),.string (⟨#[101,115,99]⟩),.string (⟨#[115,112,97,99,101]⟩),.string (⟨#[100,101,108,101,116,101]⟩)])::[])) _ ⟨0,rfl,⟨ii _,rfl⟩,A.keep _ (by repeat' constructor),M⟩ ?_)));clear M A;rintro m_ a _ ⟨i,rfl,ac,A,M⟩ _ ah;obtain⟨_,ae⟩:=ac;refine wsk fun _ ai=>wsr fun _ af=>?_;iterate 2 refine sdm A λA=>?_
 refine sdo A (qr lw rfl) λA=>?_;rcases tf (decide (((i:Nat):Int)<12))with ab|ab
 ·have ab':=f5 ab;refine sdc A qy ab λA=>?_;refine qct af A ?_;refine wp_skip (ai _ _ (wsk fun _ aj=>wp_block (wsr fun _ ag=>?_)));iterate 2 refine sdm A λA=>?_
  refine sdo (v:=pA g3 (0+i)) A (ja (k:=i) lw (by kernel_rfl) rfl rfl rfl rfl (by omega)) λA=>?_;refine sdo A (qog M 1 rfl (xij (by omega)) o99 rfl) λA=>?_;refine sdm A λA=>?_;rcases tf (decide (nmA i=s))with aa|aa
  ·have aa':=f5 aa;refine sdo (v:=bV true) A (qb rfl rfl (fun w=>(je gi w).trans (by rw[aa]<;>rfl))) λA=>?_;refine qct ag A ?_;refine wsr fun _ ak=>?_;iterate 2 refine sdm A λA=>?_
   refine sdo (v:=pA g6 (0+i)) A (ja (k:=i) ln (by kernel_rfl) rfl rfl rfl rfl (by omega)) λA=>?_;refine sdo A (qog M 0 rfl (xja (by omega)) o93 rfl) λA=>?_;refine sda A λA=>?_;refine qr1 ak hret A ?_;exact⟨by rw[show qed s=nuA i from by rw[ae,juf (by omega) aa']],M.bel⟩
  ·have aa':=fy aa;refine sdo (v:=bV false) A (qb rfl rfl (fun w=>(je gi w).trans (by rw[aa]<;>rfl))) λA=>?_;refine qcf ag A ?_;refine wp_skip (aj _ _ (wrl (sdm A λA=>?_)));refine sdo (v:=iV (((i+1:Nat):Int))) A (qb rfl rfl (fun w=>(zq (jk (by omega) (by omega)) w).trans (by rw[show(((i:Nat):Int)+1:Int)=((i+1:Nat):Int)from by omega]))) λA=>?_;refine sda A λA=>?_;refine qa ?_;refine ah _ _ _ (by omega) ⟨i+1,rfl,⟨by omega,by rw[ae,xdb (by omega) aa']⟩,A.keep _ (by repeat' constructor),M⟩
 ·have ab':=fy ab;refine sdc A qy ab λA=>?_;refine qcf af A ?_;refine wp_exit (au _ _ (wsr fun _ am=>sda A λA=>?_));refine qr1 am hret A ?_;exact⟨by rw[show qed s=-1 from by rw[ae,jug (by omega)]],M.bel⟩
theorem zhf{w:World}{n:Int}:Calls Tryz.prog 152 #[iV n] w (RB w (.string (C.nameL n))):=by
 have M:=Mg.start w;refine wof Tryz.func152 Tryz.ntmps152 fun Q hret hnorm hP a A=>?_;refine wsr fun _ ap=>sda A λA=>?_;refine qa (ap _ _ (wsk fun _ aq=>wsr fun _ ar=>jr (e:=9) (sz:=1) (m:=11) (vs:=[.string (⟨#[110,117,108]⟩),.string (⟨#[97,108,97,114,109]⟩),.string (⟨#[98,97,99,107,115,112,97,99,101]⟩),.string (⟨#[116,97,98]⟩),.string (⟨#[110,101,119,108,105,110,101]⟩),.string (⟨#[118,116,97,98]⟩),.string (⟨#[112,97,103,101]⟩),.string (⟨#[114,101,116,117,114,110]⟩),.string (⟨#[101,115,99]⟩),.string (⟨#[115,112,97,99,101]⟩),.string (⟨#[100,101,108,101,116,101]⟩)]) A M rfl rfl rfl (qg rfl (by kernel_rfl)) rfl rfl (.inl (by decide)) ?_));intro g4 _ M a A;refine sdo A (qr lw rfl) λA=>?_;refine sdm A λA=>?_;refine qa (ar _ _ (wp_block (zg (fun m_ a w1=>∃(i:Nat),m_=1+(11-i)∧(i≤11∧∀j,j<i→qed (nmB j)≠n)∧Sl a 17 [(0,iV n),(5,.slice (aO g4) 11 11),(6,iV 11),(7,iV (((i:Nat):Int)))]∧Mg w w1 (.row 9 1 (.slice (aO g4) 11 11) 11 ([.string (⟨#[110,117,108]⟩),.string (⟨#[97,108,97,114,109]⟩),.string (⟨#[98,97,99,107,115,112,97,99,101]⟩),.string (⟨#[116,97,98]⟩),.string (⟨#[110,101,119,108,105,110,101]⟩),.string (⟨#[118,116,97,98]⟩),.string (⟨#[112,97,103,101]⟩),.string (⟨#[114,101,116,117,114,110]⟩),.string (⟨#[101,115,99]⟩),.string (⟨#[115,112,97,99,101]⟩),.string (⟨#[100,101,108,101,116,101]⟩)])::[])) _ ⟨0,rfl,⟨ii _,fun j hj=>absurd hj (j4 _)⟩,A.keep _ ⟨rfl,rfl,rfl,rfl,trivial⟩,M⟩ ?_)));clear M A;rintro m_ a _ ⟨i,rfl,ac,A,M⟩ _ au;obtain⟨_,ae⟩:=ac;refine wsr fun _ am=>?_;rcases tf (decide (((i:Nat):Int)<11))with ab|ab
 ·have ab':=f5 ab;refine sdc A qy ab λA=>?_;refine qa (am _ _ (wsk fun _ ag=>wp_cond_true (A.ev rfl) ?_));refine wp_skip (ag _ _ (wsk fun _ ah=>wp_block (wsr fun _ ai=>sdo (v:=pA g4 (0+i)) A (ja (k:=i) lw (by kernel_rfl) rfl rfl rfl rfl (by omega)) λA=>?_)));refine sdo A (qog M 0 rfl (xjb (by omega)) o99 rfl) λA=>?_;refine sda A λA=>?_;refine qwr ai fun _ af=>sdm A λA=>?_;refine gcl A M ec (jkg) fun _ _ M a A=>?_;refine sdm A λA=>?_;rcases tf ((qed (nmB i)==n))with aa|aa
  ·have aa':=gr aa;refine sdc A qe aa λA=>?_;refine qct af A ?_;refine wsr fun _ aj=>sdm A λA=>?_;refine sda A λA=>?_;refine qr1 aj hret A ?_;exact⟨by rw[←show qed (nmB i)=n from aa',juh ⟨i,by omega⟩],M.bel⟩
  ·have aa':=f6 aa;refine sdc A qe aa λA=>?_;refine qcf af A ?_;refine wp_skip (ah _ _ (wrl (sdo (v:=iV (((i+1:Nat):Int))) A (qb rfl rfl (fun w=>(zq (jk (by omega) (by omega)) w).trans (by rw[show(((i:Nat):Int)+1:Int)=((i+1:Nat):Int)from by omega]))) λA=>?_)));refine sdm A λA=>?_;refine qa ?_;refine au _ _ _ (by omega) ⟨i+1,rfl,⟨by omega,fun j hj=>by
    by_cases e:j=i
    ·rw[e]; exact aa'
    ·exact ae j (by omega)⟩,A.keep _ ⟨rfl,rfl,rfl,rfl,trivial⟩,M⟩
 ·have ab':=fy ab;refine sdc A qy ab λA=>?_;refine qa (am _ _ (wsk fun _ _=>wp_cond_false (A.ev rfl) ?_));refine wp_exit (aq _ _ (wsr fun _ ak=>sda A λA=>?_));refine qr1 ak hret A ?_;exact⟨by rw[jkf (fun j hj=>ae j (by omega))],M.bel⟩
theorem jkh{w:World}{n:Nat}(ho:C.OkR ((n:Nat):Int)):Calls Tryz.prog 109 #[iV ((n:Nat):Int)] w (RB w (.string ⟨(qad false ((n:Nat):Int)).toArray⟩)):=by
 have hn:=kp ho;have _:=qfg hn;have _:=qfh ((n:Nat):Int);have _:=qne ((n:Nat):Int);have hen4:=qbi ((n:Nat):Int);have hxd:=C.hexD_len n hn;have M:=Mg.start w;refine wof Tryz.func109 Tryz.ntmps109 fun Q hret hnorm hP a A=>?_;refine wsr fun _ ak=>sda A λA=>?_;refine qwr ak fun _ am=>sdm A λA=>?_;refine sdo (v:=.int .i32 (((n:Nat):Int))) A (zk rfl (ar_conv i8 iz (in_i32 (by omega) (by omega)))) λA=>?_;refine sda A λA=>?_;refine qwk am fun _ ap=>wsr fun K4 aj=>sdm A λA=>?_;refine gcl A M ec (zhf) fun _ _ M a A=>?_;rcases tf (decide (C.nameL ((n:Nat):Int)=⟨#[]⟩))with ab|ab
 ·have ab':=f5 ab;refine sdo (v:=bV false) A (qb rfl rfl (fun w=>(kx gi w).trans (by rw[ab]<;>rfl))) λA=>?_;refine qcf aj A ?_;refine wp_skip (ap _ _ (wsk fun _ aq=>wsr fun _ ae=>sdm A λA=>?_));rcases tf (C.ctlB ((n:Nat):Int))with aa|aa
  ·refine sct A ec ((aa▸C.rodd_any ((n:Nat):Int) _)) ?_;rintro _ _ ⟨rfl,hw11⟩;subst hw11;refine⟨_,rfl,?_⟩;intro a A;refine sdm A λA=>?_;iterate 2 refine sks A λA=>?_
   refine sdk (v:=bV true) A λA=>?_;refine qct ae A ?_;refine wsr fun _ af=>sdm A λA=>?_;refine gcl A M ec (C.rhex_any n (kp ho) _) fun _ _ M a A=>?_;refine sdo (v:=.string (⟨(([35,92,120])++(C.hexD n)).toArray⟩)) A (qb rfl rfl (ql (a:=[35,92,120]) (b:=C.hexD n) (by first|omega|(simp only[fv,fw,fx]; omega)))) λA=>?_;refine sda A λA=>?_;refine qr1 af hret A ?_;exact⟨by rw[show qad false ((n:Nat):Int)=([35,92,120])++(C.hexD n)from(zmh rfl ab' (by rw[aa]; simp)).trans (by first|rfl|(unfold jw; rw[Int.toNat_natCast]; rfl))],M.bel⟩
  ·refine sct A ec ((aa▸C.rodd_any ((n:Nat):Int) _)) ?_;rintro _ _ ⟨rfl,hw16⟩;subst hw16;refine⟨_,rfl,?_⟩;intro a A;iterate 2 refine sdm A λA=>?_
   rcases tf (C.blankB ((n:Nat):Int))with ac|ac
   ·refine sct A ec ((ac▸C.rblank_any ((n:Nat):Int) _)) ?_;rintro _ _ ⟨rfl,hw19⟩;subst hw19;refine⟨_,rfl,?_⟩;intro a A;refine sdk (v:=bV true) A λA=>?_;refine qct ae A ?_;refine wsr fun _ ag=>sdm A λA=>?_;refine gcl A M ec (C.rhex_any n (kp ho) _) fun _ _ M a A=>?_;refine sdo (v:=.string (⟨(([35,92,120])++(C.hexD n)).toArray⟩)) A (qb rfl rfl (ql (a:=[35,92,120]) (b:=C.hexD n) (by first|omega|(simp only[fv,fw,fx]; omega)))) λA=>?_;refine sda A λA=>?_;refine qr1 ag hret A ?_;exact⟨by rw[show qad false ((n:Nat):Int)=([35,92,120])++(C.hexD n)from(zmh rfl ab' (by rw[ac,aa]; rfl)).trans (by first|rfl|(unfold jw; rw[Int.toNat_natCast]; rfl))],M.bel⟩
   ·refine sct A ec ((ac▸C.rblank_any ((n:Nat):Int) _)) ?_;rintro _ _ ⟨rfl,hw24⟩;subst hw24;refine⟨_,rfl,?_⟩;intro a A;refine sdk (v:=bV false) A λA=>?_;refine qcf ae A ?_;refine wp_skip (aq _ _ (wsr fun _ ah=>sdm A λA=>?_));refine sdo (v:=.string (⟨(Lib.encodeRune (((n:Nat):Int))).toArray⟩)) A (zk rfl (qsg (n:=n) iz gi ho)) λA=>?_;refine sdo (v:=.string (⟨(([35,92])++(Lib.encodeRune (((n:Nat):Int)))).toArray⟩)) A (qb rfl rfl (ql (a:=[35,92]) (b:=Lib.encodeRune (((n:Nat):Int))) (by first|omega|(simp only[fv,fw,fx]; omega)))) λA=>?_;refine sda A λA=>?_;refine qr1 ah hret A ?_;exact⟨by rw[show qad false ((n:Nat):Int)=([35,92])++(Lib.encodeRune (((n:Nat):Int)))from(jsi rfl ab' (by rw[ac,aa]; rfl)).trans (by first|rfl|(unfold jw; rw[Int.toNat_natCast]; rfl))],M.bel⟩
 ·have ab':=fy ab;refine sdo (v:=bV true) A (qb rfl rfl (fun w=>(kx gi w).trans (by rw[ab]<;>rfl))) λA=>?_;refine qct aj A ?_;refine wsr fun _ ai=>sdm A λA=>?_;refine gcl A M ec (zhf) fun _ _ M a A=>?_;refine sdo (v:=.string (⟨(([35,92])++((C.nameL ((n:Nat):Int)).data.toList)).toArray⟩)) A (qb rfl rfl (zua (a:=[35,92]) (s:=C.nameL ((n:Nat):Int)) (by first|omega|(simp only[fv,fw,fx]; omega)))) λA=>?_;refine sda A λA=>?_;refine qr1 ai hret A ?_;exact⟨by rw[show qad false ((n:Nat):Int)=([35,92])++((C.nameL ((n:Nat):Int)).data.toList)from(jsh rfl ab').trans (by first|rfl|(unfold jw; rw[Int.toNat_natCast]; rfl))],M.bel⟩
theorem jui{w:World}{s:ByteArray}(hs:s.size≤2000000):Calls Tryz.prog 110 #[.string s] w (RB w (.string ⟨(qlc false s).toArray⟩)):=by
 have M:=Mg.start w;refine wof Tryz.func110 Tryz.ntmps110 fun Q hret hnorm hP a A=>?_;refine wsr fun _ cd=>sda A λA=>?_;refine qwr cd fun _ ce=>sda A λA=>?_;refine qwk ce fun _ cg=>wsr fun K4 ch=>sdm A λA=>?_;refine qui A M rfl gi rfl rfl rfl rfl ?_;intro g5 _ M a A;refine qa (ch _ _ (wp_block (zg (fun m_ a w1=>∃(p_:Nat) (acc:List UInt8),m_=1+(s.size-p_)∧(acc++(qdd s p_).flatMap C.strC=(ze s.data.toList).flatMap C.strC∧acc.length≤9*p_∧p_≤s.size)∧Sl a 79 [(0,.string s),(2,.string (⟨#[]⟩)),(3,.string (⟨([34]++acc).toArray⟩)),(6,.string s),(7,pA g5 0)]∧Mg w w1 (.obj g5 (.stringIter s p_)::[])) _ ⟨0,[],rfl,⟨by rw[f8,qea],ii _,ii _⟩,A.keep _ ⟨rfl,rfl,rfl,rfl,rfl,trivial⟩,M⟩ ?_)));clear M A;rintro m_ a _ ⟨p_,acc,rfl,ay,A,M⟩ _ av;obtain⟨ae,ha9,hp9⟩:=ay;refine wsr fun _ az=>?_;by_cases ac:p_<s.size
 ·obtain⟨aa,cq14,he15⟩:∃r q,Utf8.decode s p_=(r,q):=⟨_,_,rfl⟩;refine zie (L':=(.obj g5 (.stringIter s (p_+cq14))::[])) A M rfl rfl 0 rfl ac rfl rfl rfl he15 rfl ?_;intro _ M a A;refine sde A λA=>?_;refine qa (az _ _ (wsk fun _ br=>wp_cond_true (A.ev rfl) ?_));refine wp_skip (br _ _ (wp_block (wsk fun _ bw=>?_)));have _:=(qdg ac he15).2;have cc:=kp (ve he15);have hxd:=C.hexD_len aa cc;have hen4:=qbi ((aa:Nat):Int);have hs9:=zmi cc;refine wrl (sde A λA=>?_);refine sda A λA=>?_;refine qa (bw _ _ (wp_block (wsr fun _ bd=>sdm A λA=>?_)));rcases tf ((((aa:Nat):Int)==34))with af|af
  ·have af':=gr af;refine sdc A qe af λA=>?_;refine sda A λA=>?_;refine qct bd A ?_;refine wrl (sdm A λA=>?_);refine sdo (v:=.string (⟨(([34]++acc)++([92,34])).toArray⟩)) A (qb rfl rfl (ql (a:=[34]++acc) (b:=[92,34]) (by first|omega|(simp only[fv,fw,fx]; omega)))) λA=>?_;refine sda A λA=>?_;refine qa ?_;have ab:C.strC ((aa:Nat):Int)=([92,34]):=(by rw[show((aa:Nat):Int)=34 from af']; rfl);refine av _ _ _ (by omega) ⟨p_+cq14,acc++([92,34]),rfl,⟨by rw[←ae,jd ac he15,ij,ab,f4],by rw[←ab,fv]; omega,by omega⟩,A.keep _ ⟨rfl,rfl,rfl,rfl,rfl,trivial⟩,M⟩
  ·have af':=f6 af;refine sdc A qe af λA=>?_;refine sda A λA=>?_;refine qcf bd A ?_;refine wsr fun _ bf=>sdm A λA=>?_;rcases tf ((((aa:Nat):Int)==92))with ag|ag
   ·have ag':=gr ag;refine sdc A qe ag λA=>?_;refine sda A λA=>?_;refine qct bf A ?_;refine wrl (sdm A λA=>?_);refine sdo (v:=.string (⟨(([34]++acc)++([92,92])).toArray⟩)) A (qb rfl rfl (ql (a:=[34]++acc) (b:=[92,92]) (by first|omega|(simp only[fv,fw,fx]; omega)))) λA=>?_;refine sda A λA=>?_;refine qa ?_;have ab:C.strC ((aa:Nat):Int)=([92,92]):=(by rw[show((aa:Nat):Int)=92 from ag']; rfl);refine av _ _ _ (by omega) ⟨p_+cq14,acc++([92,92]),rfl,⟨by rw[←ae,jd ac he15,ij,ab,f4],by rw[←ab,fv]; omega,by omega⟩,A.keep _ ⟨rfl,rfl,rfl,rfl,rfl,trivial⟩,M⟩
   ·have ag':=f6 ag;refine sdc A qe ag λA=>?_;refine sda A λA=>?_;refine qcf bf A ?_;refine wsr fun _ bg=>sdm A λA=>?_;rcases tf ((((aa:Nat):Int)==7))with ah|ah
    ·have ah':=gr ah;refine sdc A qe ah λA=>?_;refine sda A λA=>?_;refine qct bg A ?_;refine wrl (sdm A λA=>?_);refine sdo (v:=.string (⟨(([34]++acc)++([92,97])).toArray⟩)) A (qb rfl rfl (ql (a:=[34]++acc) (b:=[92,97]) (by first|omega|(simp only[fv,fw,fx]; omega)))) λA=>?_;refine sda A λA=>?_;refine qa ?_;have ab:C.strC ((aa:Nat):Int)=([92,97]):=(by rw[show((aa:Nat):Int)=7 from ah']; rfl);refine av _ _ _ (by omega) ⟨p_+cq14,acc++([92,97]),rfl,⟨by rw[←ae,jd ac he15,ij,ab,f4],by rw[←ab,fv]; omega,by omega⟩,A.keep _ ⟨rfl,rfl,rfl,rfl,rfl,trivial⟩,M⟩
    ·have ah':=f6 ah;refine sdc A qe ah λA=>?_;refine sda A λA=>?_;refine qcf bg A ?_;refine wsr fun _ bh=>sdm A λA=>?_;rcases tf ((((aa:Nat):Int)==8))with ai|ai
     ·have ai':=gr ai;refine sdc A qe ai λA=>?_;refine sda A λA=>?_;refine qct bh A ?_;refine wrl (sdm A λA=>?_);refine sdo (v:=.string (⟨(([34]++acc)++([92,98])).toArray⟩)) A (qb rfl rfl (ql (a:=[34]++acc) (b:=[92,98]) (by first|omega|(simp only[fv,fw,fx]; omega)))) λA=>?_;refine sda A λA=>?_;refine qa ?_;have ab:C.strC ((aa:Nat):Int)=([92,98]):=(by rw[show((aa:Nat):Int)=8 from ai']; rfl);refine av _ _ _ (by omega) ⟨p_+cq14,acc++([92,98]),rfl,⟨by rw[←ae,jd ac he15,ij,ab,f4],by rw[←ab,fv]; omega,by omega⟩,A.keep _ ⟨rfl,rfl,rfl,rfl,rfl,trivial⟩,M⟩
     ·have ai':=f6 ai;refine sdc A qe ai λA=>?_;refine sda A λA=>?_;refine qcf bh A ?_;refine wsr fun _ bi=>sdm A λA=>?_;rcases tf ((((aa:Nat):Int)==9))with aj|aj
      ·have aj':=gr aj;refine sdc A qe aj λA=>?_;refine sda A λA=>?_;refine qct bi A ?_;refine wrl (sdm A λA=>?_);refine sdo (v:=.string (⟨(([34]++acc)++([92,116])).toArray⟩)) A (qb rfl rfl (ql (a:=[34]++acc) (b:=[92,116]) (by first|omega|(simp only[fv,fw,fx]; omega)))) λA=>?_;refine sda A λA=>?_;refine qa ?_;have ab:C.strC ((aa:Nat):Int)=([92,116]):=(by rw[show((aa:Nat):Int)=9 from aj']; rfl);refine av _ _ _ (by omega) ⟨p_+cq14,acc++([92,116]),rfl,⟨by rw[←ae,jd ac he15,ij,ab,f4],by rw[←ab,fv]; omega,by omega⟩,A.keep _ ⟨rfl,rfl,rfl,rfl,rfl,trivial⟩,M⟩
      ·have aj':=f6 aj;refine sdc A qe aj λA=>?_;refine sda A λA=>?_;refine qcf bi A ?_;refine wsr fun _ bj=>sdm A λA=>?_;rcases tf ((((aa:Nat):Int)==10))with ak|ak
       ·have ak':=gr ak;refine sdc A qe ak λA=>?_;refine sda A λA=>?_;refine qct bj A ?_;refine wrl (sdm A λA=>?_);refine sdo (v:=.string (⟨(([34]++acc)++([92,110])).toArray⟩)) A (qb rfl rfl (ql (a:=[34]++acc) (b:=[92,110]) (by first|omega|(simp only[fv,fw,fx]; omega)))) λA=>?_;refine sda A λA=>?_;refine qa ?_;have ab:C.strC ((aa:Nat):Int)=([92,110]):=(by rw[show((aa:Nat):Int)=10 from ak']; rfl);refine av _ _ _ (by omega) ⟨p_+cq14,acc++([92,110]),rfl,⟨by rw[←ae,jd ac he15,ij,ab,f4],by rw[←ab,fv]; omega,by omega⟩,A.keep _ ⟨rfl,rfl,rfl,rfl,rfl,trivial⟩,M⟩
       ·have ak':=f6 ak;refine sdc A qe ak λA=>?_;refine sda A λA=>?_;refine qcf bj A ?_;refine wsr fun _ bn=>sdm A λA=>?_;rcases tf ((((aa:Nat):Int)==11))with am|am
        ·have am':=gr am;refine sdc A qe am λA=>?_;refine sda A λA=>?_;refine qct bn A ?_;refine wrl (sdm A λA=>?_);refine sdo (v:=.string (⟨(([34]++acc)++([92,118])).toArray⟩)) A (qb rfl rfl (ql (a:=[34]++acc) (b:=[92,118]) (by first|omega|(simp only[fv,fw,fx]; omega)))) λA=>?_;refine sda A λA=>?_;refine qa ?_;have ab:C.strC ((aa:Nat):Int)=([92,118]):=(by rw[show((aa:Nat):Int)=11 from am']; rfl);refine av _ _ _ (by omega) ⟨p_+cq14,acc++([92,118]),rfl,⟨by rw[←ae,jd ac he15,ij,ab,f4],by rw[←ab,fv]; omega,by omega⟩,A.keep _ ⟨rfl,rfl,rfl,rfl,rfl,trivial⟩,M⟩
        ·have am':=f6 am;refine sdc A qe am λA=>?_;refine sda A λA=>?_;refine qcf bn A ?_;refine wsr fun _ bp=>sdm A λA=>?_;rcases tf ((((aa:Nat):Int)==12))with ap|ap
         ·have ap':=gr ap;refine sdc A qe ap λA=>?_;refine sda A λA=>?_;refine qct bp A ?_;refine wrl (sdm A λA=>?_);refine sdo (v:=.string (⟨(([34]++acc)++([92,102])).toArray⟩)) A (qb rfl rfl (ql (a:=[34]++acc) (b:=[92,102]) (by first|omega|(simp only[fv,fw,fx]; omega)))) λA=>?_;refine sda A λA=>?_;refine qa ?_;have ab:C.strC ((aa:Nat):Int)=([92,102]):=(by rw[show((aa:Nat):Int)=12 from ap']; rfl);refine av _ _ _ (by omega) ⟨p_+cq14,acc++([92,102]),rfl,⟨by rw[←ae,jd ac he15,ij,ab,f4],by rw[←ab,fv]; omega,by omega⟩,A.keep _ ⟨rfl,rfl,rfl,rfl,rfl,trivial⟩,M⟩
         ·have ap':=f6 ap;refine sdc A qe ap λA=>?_;refine sda A λA=>?_;refine qcf bp A ?_;refine wsr fun _ bq=>sdm A λA=>?_;rcases tf ((((aa:Nat):Int)==13))with aq|aq
          ·have aq':=gr aq;refine sdc A qe aq λA=>?_;refine sda A λA=>?_;refine qct bq A ?_;refine wrl (sdm A λA=>?_);refine sdo (v:=.string (⟨(([34]++acc)++([92,114])).toArray⟩)) A (qb rfl rfl (ql (a:=[34]++acc) (b:=[92,114]) (by first|omega|(simp only[fv,fw,fx]; omega)))) λA=>?_;refine sda A λA=>?_;refine qa ?_;have ab:C.strC ((aa:Nat):Int)=([92,114]):=(by rw[show((aa:Nat):Int)=13 from aq']; rfl);refine av _ _ _ (by omega) ⟨p_+cq14,acc++([92,114]),rfl,⟨by rw[←ae,jd ac he15,ij,ab,f4],by rw[←ab,fv]; omega,by omega⟩,A.keep _ ⟨rfl,rfl,rfl,rfl,rfl,trivial⟩,M⟩
          ·have aq':=f6 aq;refine sdc A qe aq λA=>?_;refine sda A λA=>?_;refine qcf bq A ?_;refine wsr fun _ ax=>sdm A λA=>?_;rcases tf (C.ctlB (((aa:Nat):Int)))with aw|aw
           ·refine sct A ec ((aw▸C.rodd_any (((aa:Nat):Int)) _)) ?_;rintro _ _ ⟨rfl,hw38⟩;subst hw38;refine⟨_,rfl,?_⟩;intro a A;refine sdm A λA=>?_;iterate 2 refine sks A λA=>?_
            refine sdk (v:=bV true) A λA=>?_;refine sdm A λA=>?_;iterate 2 refine sks A λA=>?_
            refine sdk (v:=bV true) A λA=>?_;refine sda A λA=>?_;refine qct ax A ?_;refine wrl ?_;iterate 2 refine sdm A λA=>?_
            refine gcl A M ec (C.rhex_any aa (kp (ve he15)) _) fun _ _ M a A=>?_;refine sdo (v:=.string (⟨(([92,120])++(C.hexD aa)).toArray⟩)) A (qb rfl rfl (ql (a:=[92,120]) (b:=C.hexD aa) (by first|omega|(simp only[fv,fw,fx]; omega)))) λA=>?_;refine sdo (v:=.string (⟨((([92,120])++(C.hexD aa))++([59])).toArray⟩)) A (qb rfl rfl (ql (a:=([92,120])++(C.hexD aa)) (b:=[59]) (by first|omega|(simp only[fv,fw,fx]; omega)))) λA=>?_;refine sdo (v:=.string (⟨(([34]++acc)++((([92,120])++(C.hexD aa))++([59]))).toArray⟩)) A (qb rfl rfl (ql (a:=[34]++acc) (b:=(([92,120])++(C.hexD aa))++([59])) (by first|omega|(simp only[fv,fw,fx]; omega)))) λA=>?_;refine sda A λA=>?_;refine qa ?_;have ab:C.strC ((aa:Nat):Int)=((([92,120])++(C.hexD aa))++([59])):=((kt (by omega) (by omega) (.inl aw)).trans (by rw[qae]));refine av _ _ _ (by omega) ⟨p_+cq14,acc++((([92,120])++(C.hexD aa))++([59])),rfl,⟨by rw[←ae,jd ac he15,ij,ab,f4],by rw[←ab,fv]; omega,by omega⟩,A.keep _ ⟨rfl,rfl,rfl,rfl,rfl,trivial⟩,M⟩
           ·refine sct A ec ((aw▸C.rodd_any (((aa:Nat):Int)) _)) ?_;rintro _ _ ⟨rfl,hw42⟩;subst hw42;refine⟨_,rfl,?_⟩;intro a A;iterate 2 refine sdm A λA=>?_
            rcases tf ((((aa:Nat):Int)==8232))with ar|ar
            ·have ar':=gr ar;refine sdc A qe ar λA=>?_;refine sdk (v:=bV true) A λA=>?_;refine sdm A λA=>?_;iterate 2 refine sks A λA=>?_
             refine sdk (v:=bV true) A λA=>?_;refine sda A λA=>?_;refine qct ax A ?_;refine wrl ?_;iterate 2 refine sdm A λA=>?_
             refine gcl A M ec (C.rhex_any aa (kp (ve he15)) _) fun _ _ M a A=>?_;refine sdo (v:=.string (⟨(([92,120])++(C.hexD aa)).toArray⟩)) A (qb rfl rfl (ql (a:=[92,120]) (b:=C.hexD aa) (by first|omega|(simp only[fv,fw,fx]; omega)))) λA=>?_;refine sdo (v:=.string (⟨((([92,120])++(C.hexD aa))++([59])).toArray⟩)) A (qb rfl rfl (ql (a:=([92,120])++(C.hexD aa)) (b:=[59]) (by first|omega|(simp only[fv,fw,fx]; omega)))) λA=>?_;refine sdo (v:=.string (⟨(([34]++acc)++((([92,120])++(C.hexD aa))++([59]))).toArray⟩)) A (qb rfl rfl (ql (a:=[34]++acc) (b:=(([92,120])++(C.hexD aa))++([59])) (by first|omega|(simp only[fv,fw,fx]; omega)))) λA=>?_;refine sda A λA=>?_;refine qa ?_;have ab:C.strC ((aa:Nat):Int)=((([92,120])++(C.hexD aa))++([59])):=((kt (by omega) (by omega) (.inr (by omega))).trans (by rw[qae]));refine av _ _ _ (by omega) ⟨p_+cq14,acc++((([92,120])++(C.hexD aa))++([59])),rfl,⟨by rw[←ae,jd ac he15,ij,ab,f4],by rw[←ab,fv]; omega,by omega⟩,A.keep _ ⟨rfl,rfl,rfl,rfl,rfl,trivial⟩,M⟩
            ·have ar':=f6 ar;refine sdc A qe ar λA=>?_;refine sdk (v:=bV false) A λA=>?_;iterate 2 refine sdm A λA=>?_
             rcases tf ((((aa:Nat):Int)==65279))with au|au
             ·have au':=gr au;refine sdc A qe au λA=>?_;refine sdk (v:=bV true) A λA=>?_;refine sda A λA=>?_;refine qct ax A ?_;refine wrl ?_;iterate 2 refine sdm A λA=>?_
              refine gcl A M ec (C.rhex_any aa (kp (ve he15)) _) fun _ _ M a A=>?_;refine sdo (v:=.string (⟨(([92,120])++(C.hexD aa)).toArray⟩)) A (qb rfl rfl (ql (a:=[92,120]) (b:=C.hexD aa) (by first|omega|(simp only[fv,fw,fx]; omega)))) λA=>?_;refine sdo (v:=.string (⟨((([92,120])++(C.hexD aa))++([59])).toArray⟩)) A (qb rfl rfl (ql (a:=([92,120])++(C.hexD aa)) (b:=[59]) (by first|omega|(simp only[fv,fw,fx]; omega)))) λA=>?_;refine sdo (v:=.string (⟨(([34]++acc)++((([92,120])++(C.hexD aa))++([59]))).toArray⟩)) A (qb rfl rfl (ql (a:=[34]++acc) (b:=(([92,120])++(C.hexD aa))++([59])) (by first|omega|(simp only[fv,fw,fx]; omega)))) λA=>?_;refine sda A λA=>?_;refine qa ?_;have ab:C.strC ((aa:Nat):Int)=((([92,120])++(C.hexD aa))++([59])):=((kt (by omega) (by omega) (.inr (by omega))).trans (by rw[qae]));refine av _ _ _ (by omega) ⟨p_+cq14,acc++((([92,120])++(C.hexD aa))++([59])),rfl,⟨by rw[←ae,jd ac he15,ij,ab,f4],by rw[←ab,fv]; omega,by omega⟩,A.keep _ ⟨rfl,rfl,rfl,rfl,rfl,trivial⟩,M⟩
             ·have au':=f6 au;refine sdc A qe au λA=>?_;refine sdk (v:=bV false) A λA=>?_;refine sda A λA=>?_;refine qcf ax A ?_;refine wrl ?_;iterate 2 refine sdm A λA=>?_
              refine sdo (v:=.string (⟨(Lib.encodeRune (((aa:Nat):Int))).toArray⟩)) A (zk rfl (qsg (n:=aa) iz gi (ve he15))) λA=>?_;refine sdo (v:=.string (⟨(([34]++acc)++(Lib.encodeRune (((aa:Nat):Int)))).toArray⟩)) A (qb rfl rfl (ql (a:=[34]++acc) (b:=Lib.encodeRune (((aa:Nat):Int))) (by first|omega|(simp only[fv,fw,fx]; omega)))) λA=>?_;refine sda A λA=>?_;refine qa ?_;have ab:C.strC ((aa:Nat):Int)=(Lib.encodeRune (((aa:Nat):Int))):=(qnd (by omega) (by omega) (fun k=>by rcases k with k|k; rw[aw]at k; cases k; omega));refine av _ _ _ (by omega) ⟨p_+cq14,acc++(Lib.encodeRune (((aa:Nat):Int))),rfl,⟨by rw[←ae,jd ac he15,ij,ab,f4],by rw[←ab,fv]; omega,by omega⟩,A.keep _ ⟨rfl,rfl,rfl,rfl,rfl,trivial⟩,M⟩
 ·refine zif A M rfl rfl 0 rfl ac rfl rfl rfl λa A=>?_;refine sde A λA=>?_;refine qa (az _ _ (wsk fun _ _=>wp_cond_false (A.ev rfl) ?_));refine wp_exit (cg _ _ (wsr fun _ bz=>sdm A λA=>?_));refine sdo (v:=.string (⟨(([34]++acc)++([34])).toArray⟩)) A (qb rfl rfl (ql (a:=[34]++acc) (b:=[34]) (by first|omega|(simp only[fv,fw,fx]; omega)))) λA=>?_;refine sda A λA=>?_;refine qr1 bz hret A ?_;exact⟨by rw[show qlc false s=([34]++acc)++([34])from(by unfold qlc; rw[f7 (by decide),←ae,qeb ac,List.flatMap_nil,gh])],M.bel⟩
theorem qud{l:List UInt8}(hl:l≠[]):ze l=((decodeL l).1:Int)::ze (l.drop (decodeL l).2):=by
  have hw:=vt l hl;unfold ze;obtain⟨m,hm⟩:∃m,l.length=m+1:=⟨l.length-1,by omega⟩;rw[hm]
  conv=>lhs; unfold xq
  rw[f7 hl,qje m (l.drop (decodeL l).2).length _ (by rw[il]; omega) (gm _)]
def qjh(rs:List Int):List Value:=rs.map fun r=>.int .i32 r
theorem kr{rs:List Int}{j:Nat}(h:j<rs.length):(qjh rs)[j]?=some (.int .i32 (rs.getD j 0)):=by
  unfold qjh;rw[List.getElem?_map,List.getElem?_eq_getElem h];simp[List.getD,List.getElem?_eq_getElem h]
theorem jai{l:List UInt8}(h:(decodeL l).1<128):(decodeL l).1=(l.getD 0 0).toNat∧(decodeL l).2≤1:=by
  rw[decodeL_N]at h ⊢;have k0:=(l.getD 0 0).toNat_lt;generalize (l.getD 0 0).toNat=b0 at *
  generalize (l.getD 1 0).toNat=b1 at *
  generalize (l.getD 2 0).toNat=b2 at *
  generalize (l.getD 3 0).toNat=b3 at *
  by_cases hb:b0<128
  · unfold decodeN;rw[gj hb];exact⟨rfl,gm _⟩
  · have key:128≤(decodeN l.length b0 b1 b2 b3).1:=by
      unfold decodeN;rw[f7 hb];repeat' split
      all_goals (simp only; omega)
    omega
theorem jaj{b:UInt8}{r:List UInt8}(h:b.toNat<128):decodeL (b::r)=(b.toNat,1):=by
  rw[decodeL_N];simp only[List.getD_cons_zero];unfold decodeN;rw[gj h]
theorem qsh{b:UInt8}{r:List UInt8}(h:b.toNat<128):ze (b::r)=((b.toNat:Nat):Int)::ze r:=by
  rw[qud (by simp),jaj h];rfl
theorem qdf{l:List UInt8}(h:hasPrefix l [45,62]=true):ze l=45::62::ze (l.drop 2):=by
  unfold hasPrefix at h
  match l,h with
  | [], h => simp [List.isPrefixOf] at h
  | [a], h => simp [List.isPrefixOf] at h
  | a :: b :: r, h =>
    simp[List.isPrefixOf]at h;obtain⟨rfl,rfl⟩:=h;rw[qsh (by decide),qsh (by decide)];rfl
theorem xdc{l:List UInt8}(h2:2≤(ze l).length)(h0:(ze l).getD 0 0=45)(h1:(ze l).getD 1 0=62):hasPrefix l [45,62]=true:=by
  have key:∀(m:List UInt8) (c:Nat),c<128→m≠[]→(ze m).getD 0 0=((c:Nat):Int)→∃r,m=UInt8.ofNat c::r:=by
    intro m c hc hm h;rw[qud hm]at h;simp only[List.getD_cons_zero]at h;have h9:=jai (l:=m) (by omega)
    match m,hm with
    | a :: r, _ =>
      simp only[List.getD_cons_zero]at h9;refine⟨r,?_⟩
      congr 1
      rw[show c=a.toNat by omega,UInt8.ofNat_toNat]
  have hl:l≠[]:=fun e=>by subst e; simp[ze,xq]at h2
  obtain⟨r,rfl⟩:=key l 45 (by decide) hl h0;rw[qsh (by decide)]at h1 h2;simp only[List.getD_cons_succ,fw]at h1 h2;have hr:r≠[]:=fun e=>by subst e; simp[ze,xq]at h2
  obtain⟨r',rfl⟩:=key r 62 (by decide) hr h1;rfl
theorem jki{l:List UInt8}{i:Nat}(hi:i<(ze l).length):∃n:Nat,(ze l).getD i 0=((n:Nat):Int)∧C.OkR ((n:Nat):Int):=by
  have key:∀(f:Nat) (l:List UInt8),∀x∈xq f l,∃n:Nat,x=((n:Nat):Int)∧C.OkR ((n:Nat):Int):=by
    intro f
    induction f with
    | zero => intro l x hx; simp [xq] at hx
    | succ f ih =>
      intro l x hx;unfold xq at hx
      split at hx
      · simp at hx
      · rcases ik.1 hx with rfl|hx
        · refine⟨_,rfl,?_⟩;have:=qge l;unfold C.OkR;omega
        · exact ih _ x hx
  rw[show(ze l).getD i 0=(ze l)[i]from by simp[List.getD,List.getElem?_eq_getElem hi]];exact key _ l _ (ip hi)
theorem qsi{rs:List Int}{i:Nat}(hi:i<rs.length)(fl:Bool):inL fl (rs.drop i)=inS fl (rs.getD i 0)++inL false (rs.drop (i+1)):=by
  rw[List.drop_eq_getElem_cons hi,show rs.getD i 0=rs[i]from by simp[List.getD,List.getElem?_eq_getElem hi]];rfl
theorem juj{rs:List Int}{i:Nat}(hi:¬i<rs.length)(fl:Bool):inL fl (rs.drop i)=[]:=by rw[i7 (by omega)]; rfl
theorem zcd: ∀(f:Nat) (l:List UInt8),(xq f l).length≤f
  | 0, l => by simp [xq]
  | f + 1, l => by
    unfold xq
    split
    · simp
    · rw[fw]; have:=zcd f (l.drop (decodeL l).2); omega
theorem jva(s:ByteArray):(ze s.data.toList).length≤s.size:=by
  have:=zcd s.data.toList.length s.data.toList;rw[zm]at this;unfold ze;rw[zm];exact this
theorem jba{w:World}{s:ByteArray}(hs:s.size≤2000000):Calls Tryz.prog 156 #[.string s] w fun e w'=>∃v,e=.returned v∧Mg w w' [.row 21 1 v (ze s.data.toList).length (qjh (ze s.data.toList))]:=by
 have M:=Mg.start w;refine wof Tryz.func156 Tryz.ntmps156 fun Q hret hnorm hP a A=>?_;refine wsr fun _ am=>sda A λA=>?_;refine qa (am _ _ (wsr fun _ ap=>jr (e:=21) (sz:=1) (m:=0) (vs:=[]) A M rfl rfl rfl (qg rfl (by kernel_rfl)) rfl rfl (.inl (by decide)) ?_));intro g3 _ M a A;refine sda A λA=>?_;refine qwk ap fun _ aq=>wsr fun _ ar=>sdm A λA=>?_;refine qui A M rfl gi rfl rfl rfl rfl ?_;intro g7 _ M a A;refine qa (ar _ _ (wp_block (zg (fun m_ a w1=>∃(p:Nat) (acc:List Int) (vo:Value),m_=1+(s.size-p)∧(acc++qdd s p=ze s.data.toList∧acc.length≤p∧p≤s.size)∧Sl a 17 [(0,.string s),(2,.slice none 0 0),(3,vo),(6,.slice (aO g3) 0 0),(7,.string s),(8,pA g7 0)]∧Mg w w1 (.obj g7 (.stringIter s p)::.row 21 1 (vo) acc.length ((qjh acc))::[])) _ ⟨0,[],.slice (aO g3) 0 0,rfl,⟨by rw[f8,qea],ii _,ii _⟩,A.keep _ (by repeat' constructor),M⟩ ?_)));clear M A;rintro m_ a _ ⟨p,acc,vo,rfl,ac,A,M⟩ _ ag;obtain⟨ae,ha9,hp9⟩:=ac;refine wsr fun _ af=>?_;by_cases aa:p<s.size
 ·obtain⟨ab,cq16,he17⟩:∃r q,Utf8.decode s p=(r,q):=⟨_,_,rfl⟩;refine zie (L':=(.obj g7 (.stringIter s (p+cq16))::.row 21 1 (vo) acc.length ((qjh acc))::[])) A M rfl rfl 0 rfl aa rfl rfl rfl he17 rfl ?_;intro _ M a A;refine sde A λA=>?_;refine qa (af _ _ (wsk fun _ ah=>wp_cond_true (A.ev rfl) ?_));refine wp_skip (ah _ _ (wp_block (wsr fun _ ai=>sde A λA=>?_)));refine sda A λA=>?_;refine qa (ai _ _ (wrl ?_));iterate 2 refine sdm A λA=>?_
  refine jr (e:=21) (sz:=1) (m:=1) (vs:=[.int .i32 (((ab:Nat):Int))]) A M rfl rfl rfl (qg rfl (by kernel_rfl)) rfl rfl (.inl (by decide)) ?_;intro g20 _ M a A;refine xd (e:=21) (sz:=1) (k:=2) (q:=acc.length) (m:=1) (xs:=(qjh acc)) (news:=[.int .i32 (((ab:Nat):Int))]) A rfl rfl rfl (qjj (z:=.int .i32 0) (sz:=1) (by_:=4) j2 (by kernel_rfl) rfl rfl rfl M 2 rfl rfl 0 rfl rfl rfl rfl (by omega)) (fun _=>rfl) ?_;intro ak au M a A;refine sda A λA=>?_;refine qa ?_;replace M:Mg w au (.obj g7 (.stringIter s (p+cq16))::.row 21 1 (ak) ((acc++[((ab:Nat):Int)]).length) ((qjh (acc++[((ab:Nat):Int)])))::[]):=by
   have h9:=M.sub (cN (cC (cC (.refl _))));simpa[qjh]using h9
  have _:=(qdg aa he17).2;refine ag _ _ _ (by omega) ⟨p+cq16,acc++[((ab:Nat):Int)],ak,rfl,⟨by rw[←ae,jd aa he17,f4]; rfl,by rw[fv]; simp only[fw,fx]; omega,by omega⟩,A.keep _ (by repeat' constructor),M⟩
 ·refine zif A M rfl rfl 0 rfl aa rfl rfl rfl λa A=>?_;refine sde A λA=>?_;refine qa (af _ _ (wsk fun _ _=>wp_cond_false (A.ev rfl) ?_));refine wp_exit (aq _ _ (wsr fun _ aj=>sdm A λA=>?_));refine sda A λA=>?_;refine qr1 aj hret A ?_;rw[←ae,qeb aa,gh];exact⟨_,rfl,M.sub (cN (cC (.refl _)))⟩
theorem jvb{w:World}{s:ByteArray}(hs:s.size≤2000000):Calls Tryz.prog 111 #[.string s] w (RB w (.string ⟨(qaj false s).toArray⟩)):=by
 have hcl:=jva s;have M:=Mg.start w;refine wof Tryz.func111 Tryz.ntmps111 fun Q hret hnorm hP a A=>?_;refine wsr fun _ cy=>sda A λA=>?_;refine qwk cy fun _ cz=>wsr fun _ cx=>sdm A λA=>?_;rcases tf (decide (s=⟨#[]⟩))with au|au
 ·have au':=f5 au;refine sdo (v:=bV true) A (qb rfl rfl (fun w=>(je gi w).trans (by rw[au]<;>rfl))) λA=>?_;refine qct cx A ?_;refine wsr fun _ db=>sda A λA=>?_;refine qr1 db hret A ?_;exact⟨by rw[jsj (fun k=>by rcases k with k|k|k|k; cases k; all_goals (rw[au']at k; cases k)) au'],M.bel⟩
 ·have au':=fy au;refine sdo (v:=bV false) A (qb rfl rfl (fun w=>(je gi w).trans (by rw[au]<;>rfl))) λA=>?_;refine qcf cx A ?_;refine wp_skip (cz _ _ (wsk fun _ dd=>wsr fun _ bw=>sdm A λA=>?_));rcases tf (decide (s=⟨#[43]⟩))with ay|ay
  ·have ay':=f5 ay;refine sdo (v:=bV true) A (qb rfl rfl (fun w=>(je gi w).trans (by rw[ay]<;>rfl))) λA=>?_;refine sdm A λA=>?_;iterate 2 refine sks A λA=>?_
   refine sdk (v:=bV true) A λA=>?_;refine sdm A λA=>?_;iterate 2 refine sks A λA=>?_
   refine sdk (v:=bV true) A λA=>?_;refine qct bw A ?_;refine wsr fun _ de=>sdm A λA=>?_;refine sda A λA=>?_;refine qr1 de hret A ?_;exact⟨by rw[qnf (.inr (.inl ay')),qde],M.bel⟩
  ·have ay':=fy ay;refine sdo (v:=bV false) A (qb rfl rfl (fun w=>(je gi w).trans (by rw[ay]<;>rfl))) λA=>?_;iterate 2 refine sdm A λA=>?_
   rcases tf (decide (s=⟨#[45]⟩))with aa|aa
   ·have aa':=f5 aa;refine sdo (v:=bV true) A (qb rfl rfl (fun w=>(je gi w).trans (by rw[aa]<;>rfl))) λA=>?_;refine sdk (v:=bV true) A λA=>?_;refine sdm A λA=>?_;iterate 2 refine sks A λA=>?_
    refine sdk (v:=bV true) A λA=>?_;refine qct bw A ?_;refine wsr fun _ bz=>sdm A λA=>?_;refine sda A λA=>?_;refine qr1 bz hret A ?_;exact⟨by rw[qnf (.inr (.inr (.inl aa'))),qde],M.bel⟩
   ·have aa':=fy aa;refine sdo (v:=bV false) A (qb rfl rfl (fun w=>(je gi w).trans (by rw[aa]<;>rfl))) λA=>?_;refine sdk (v:=bV false) A λA=>?_;iterate 2 refine sdm A λA=>?_
    rcases tf (decide (s=⟨#[46,46,46]⟩))with ab|ab
    ·have ab':=f5 ab;refine sdo (v:=bV true) A (qb rfl rfl (fun w=>(je gi w).trans (by rw[ab]<;>rfl))) λA=>?_;refine sdk (v:=bV true) A λA=>?_;refine qct bw A ?_;refine wsr fun _ cc=>sdm A λA=>?_;refine sda A λA=>?_;refine qr1 cc hret A ?_;exact⟨by rw[qnf (.inr (.inr (.inr ab'))),qde],M.bel⟩
    ·have ab':=fy ab;refine sdo (v:=bV false) A (qb rfl rfl (fun w=>(je gi w).trans (by rw[ab]<;>rfl))) λA=>?_;refine sdk (v:=bV false) A λA=>?_;refine qcf bw A ?_;refine wp_skip (dd _ _ (wsr fun _ cd=>sdm A λA=>?_));refine sct A ec (jba hs) ?_;rintro _ _ ⟨_,rfl,bj⟩;obtain⟨am,ap,rfl⟩:=qjc (bj.has 0 rfl);replace M:=(M.both bj (za zd) (qi (by simp) (za zd)));refine⟨_,rfl,?_⟩;intro a A;refine sda A λA=>?_;refine qwr cd fun _ ce=>sda A λA=>?_;refine qwr ce fun _ cg=>sda A λA=>?_;refine qwk cg fun df ch=>?_;have az:∀a w1,(∃(fr:Nat) (P:List UInt8),((Lib.hasPrefix s.data.toList [45,62]=true∧fr=2∧P=[45,62])∨(Lib.hasPrefix s.data.toList [45,62]=false∧fr=0∧P=[]))∧Sl a 75 [(0,.string s),(2,.string (⟨#[]⟩)),(3,.slice am ((ze s.data.toList).length) ap),(4,.string (⟨(P).toArray⟩)),(5,iV (((fr:Nat):Int))),(8,.string s),(9,bV false),(10,.string s),(11,bV false),(12,bV false),(13,.string s),(14,bV false),(15,bV false),(16,bV false),(17,.string s),(18,bV false),(19,bV false),(21,.string s),(22,.slice am ((ze s.data.toList).length) ap)]∧Mg w w1 (.row 21 1 (.slice am ((ze s.data.toList).length) ap) ((ze s.data.toList).length) ((qjh (ze s.data.toList)))::[]))→df a w1:=by
      clear A M;rintro a _ ⟨fr,P,bf,A,M⟩;have hfr:fr≤(ze s.data.toList).length:=by
       rcases bf with⟨h,h2,_⟩|⟨_,h2,_⟩
       ·have:=j9 List.length (qdf h);simp only[fw]at this;omega
       ·omega
      have hPl:P.length≤2:=(by rcases bf with⟨_,_,h⟩|⟨_,_,h⟩<;>rw[h]<;>decide);have hpx:=bf;refine ch _ _ (wsk fun _ ci=>wsr fun _ cj=>sdm A λA=>?_);refine sda A λA=>?_;refine qa (cj _ _ (wp_block (zg (fun m_ a w1=>∃(i:Nat) (acc:List UInt8),m_=1+((ze s.data.toList).length-i)∧(fr≤i∧i≤(ze s.data.toList).length∧acc++inL (decide (i=0)) ((ze s.data.toList).drop i)=P++inL (decide (fr=0)) ((ze s.data.toList).drop fr)∧acc.length≤9*i+2)∧Sl a 75 [(0,.string s),(2,.string (⟨#[]⟩)),(3,.slice am ((ze s.data.toList).length) ap),(4,.string (⟨(acc).toArray⟩)),(5,iV (((fr:Nat):Int))),(6,iV (((i:Nat):Int))),(8,.string s),(9,bV false),(10,.string s),(11,bV false),(12,bV false),(13,.string s),(14,bV false),(15,bV false),(16,bV false),(17,.string s),(18,bV false),(19,bV false),(21,.string s),(22,.slice am ((ze s.data.toList).length) ap),(38,iV (((fr:Nat):Int)))]∧Mg w w1 (.row 21 1 (.slice am ((ze s.data.toList).length) ap) ((ze s.data.toList).length) ((qjh (ze s.data.toList)))::[])) _ ⟨fr,P,rfl,⟨gm _,hfr,rfl,by omega⟩,A.keep _ (by repeat' constructor),M⟩ ?_)));clear M A;rintro m_ a _ ⟨i,acc,rfl,bg,A,M⟩ _ aq;obtain⟨_,_,af,ha9⟩:=bg;refine wsk fun _ ck=>wsr fun _ bn=>?_;iterate 2 refine sdm A λA=>?_
      refine sdo A (qr j2 rfl) λA=>?_;rcases tf (decide (((i:Nat):Int)<(((ze s.data.toList).length:Nat):Int)))with ai|ai
      ·have ai':=f5 ai;refine sdc A qy ai λA=>?_;refine qct bn A ?_;refine wp_skip (ck _ _ (wsk fun _ ar=>wp_block (wsr fun _ bp=>?_)));iterate 2 refine sdm A λA=>?_
       obtain⟨gu,hgu⟩:=qpg M 0 rfl (by omega);refine sdo (v:=pA gu (i*1)) A (jn (k:=i) j2 (by kernel_rfl) rfl rfl rfl hgu (show i<(ze s.data.toList).length by omega)) λA=>?_;obtain⟨rn,hrn,ho⟩:=jki (l:=s.data.toList) (i:=i) (by omega);have hn:=kp ho;have hxd:=C.hexD_len rn hn;have hen4:=qbi ((rn:Nat):Int);refine sdo A (vv (j:=i*1) M 0 rfl hgu (by rw[Nat.mul_one,kr (by omega),hrn]) qyi rfl) λA=>?_;rcases tf ((C.firstB ((rn:Nat):Int)||C.restB ((rn:Nat):Int)))with av|av
       ·refine gcl A M ec ((av▸C.rrest_any ((rn:Nat):Int) ho _)) fun _ _ M a A=>?_;refine sda A λA=>?_;refine qwk bp fun _ bh=>wsr fun _ bq=>sdm A λA=>?_;rcases tf ((((i:Nat):Int)==0))with aj|aj
        ·have aj':=gr aj;refine sdc A qe aj λA=>?_;refine qct bq A ?_;refine wrl ?_;iterate 2 refine sdm A λA=>?_
         refine sdo (v:=pA gu (i*1)) A (jn (k:=i) j2 (by kernel_rfl) rfl rfl rfl hgu (show i<(ze s.data.toList).length by omega)) λA=>?_;refine sdo A (vv (j:=i*1) M 0 rfl hgu (by rw[Nat.mul_one,kr (by omega),hrn]) qyi rfl) λA=>?_;rcases tf (C.firstB ((rn:Nat):Int))with aw|aw
         ·refine gcl A M ec ((aw▸C.rfirst_any ((rn:Nat):Int) ho _)) fun _ _ M a A=>?_;refine sda A λA=>?_;refine qwr bh fun _ cl=>sdm A λA=>?_;refine qct cl A ?_;refine wrl ?_;iterate 3 refine sdm A λA=>?_
          refine sdo (v:=pA gu (i*1)) A (jn (k:=i) j2 (by kernel_rfl) rfl rfl rfl hgu (show i<(ze s.data.toList).length by omega)) λA=>?_;refine sdo A (vv (j:=i*1) M 0 rfl hgu (by rw[Nat.mul_one,kr (by omega),hrn]) qyi rfl) λA=>?_;refine sdo (v:=.string (⟨(Lib.encodeRune (((rn:Nat):Int))).toArray⟩)) A (zk rfl (qsg (n:=rn) iz gi ho)) λA=>?_;refine sdo (v:=.string (⟨(acc++(Lib.encodeRune (((rn:Nat):Int)))).toArray⟩)) A (qb rfl rfl (ql (a:=acc) (b:=Lib.encodeRune (((rn:Nat):Int))) (by first|omega|(simp only[fv,fw,fx]; omega)))) λA=>?_;refine sda A λA=>?_;refine qa (ar _ _ (wrl (sdm A λA=>?_)));refine sdo (v:=iV (((i+1:Nat):Int))) A (qb rfl rfl (fun w=>(zq (jk (by omega) (by omega)) w).trans (by rw[show(((i:Nat):Int)+1:Int)=((i+1:Nat):Int)from by omega]))) λA=>?_;refine sda A λA=>?_;refine qa ?_;have hd9:decide (i=0)=true:=gv (by omega);have ag:inS true ((rn:Nat):Int)=(Lib.encodeRune (((rn:Nat):Int))):=zta (by rw[aw]; rfl);have hs9:=ud true hn;rw[ag]at hs9;refine aq _ _ _ (by omega) ⟨i+1,acc++(Lib.encodeRune (((rn:Nat):Int))),rfl,⟨by omega,by omega,by rw[←af,hd9,show decide (i+1=0)=false from gn (by omega),qsi (i:=i) (by omega),hrn,ag,f4],by rw[fv]; omega⟩,A.keep _ (by repeat' constructor),M⟩
         ·refine gcl A M ec ((aw▸C.rfirst_any ((rn:Nat):Int) ho _)) fun _ _ M a A=>?_;refine sda A λA=>?_;refine qwr bh fun _ cm=>sdm A λA=>?_;refine qcf cm A ?_;refine wrl ?_;iterate 3 refine sdm A λA=>?_
          refine sdo (v:=pA gu (i*1)) A (jn (k:=i) j2 (by kernel_rfl) rfl rfl rfl hgu (show i<(ze s.data.toList).length by omega)) λA=>?_;refine sdo A (vv (j:=i*1) M 0 rfl hgu (by rw[Nat.mul_one,kr (by omega),hrn]) qyi rfl) λA=>?_;refine gcl A M ec (C.rhex_any rn (kp ho) _) fun _ _ M a A=>?_;refine sdo (v:=.string (⟨(([92,120])++(C.hexD rn)).toArray⟩)) A (qb rfl rfl (ql (a:=[92,120]) (b:=C.hexD rn) (by first|omega|(simp only[fv,fw,fx]; omega)))) λA=>?_;refine sdo (v:=.string (⟨((([92,120])++(C.hexD rn))++([59])).toArray⟩)) A (qb rfl rfl (ql (a:=([92,120])++(C.hexD rn)) (b:=[59]) (by first|omega|(simp only[fv,fw,fx]; omega)))) λA=>?_;refine sdo (v:=.string (⟨(acc++((([92,120])++(C.hexD rn))++([59]))).toArray⟩)) A (qb rfl rfl (ql (a:=acc) (b:=(([92,120])++(C.hexD rn))++([59])) (by first|omega|(simp only[fv,fw,fx]; omega)))) λA=>?_;refine sda A λA=>?_;refine qa (ar _ _ (wrl (sdm A λA=>?_)));refine sdo (v:=iV (((i+1:Nat):Int))) A (qb rfl rfl (fun w=>(zq (jk (by omega) (by omega)) w).trans (by rw[show(((i:Nat):Int)+1:Int)=((i+1:Nat):Int)from by omega]))) λA=>?_;refine sda A λA=>?_;refine qa ?_;have hd9:decide (i=0)=true:=gv (by omega);have ag:inS true ((rn:Nat):Int)=((([92,120])++(C.hexD rn))++([59])):=((ztb (by rw[aw]; rfl)).trans (by rw[qae]));have hs9:=ud true hn;rw[ag]at hs9;refine aq _ _ _ (by omega) ⟨i+1,acc++((([92,120])++(C.hexD rn))++([59])),rfl,⟨by omega,by omega,by rw[←af,hd9,show decide (i+1=0)=false from gn (by omega),qsi (i:=i) (by omega),hrn,ag,f4],by rw[fv]; omega⟩,A.keep _ (by repeat' constructor),M⟩
        ·have aj':=f6 aj;refine sdc A qe aj λA=>?_;refine qcf bq A ?_;refine wp_skip (bh _ _ (wsr fun _ cn=>sdm A λA=>?_));refine qct cn A ?_;refine wrl ?_;iterate 3 refine sdm A λA=>?_
         refine sdo (v:=pA gu (i*1)) A (jn (k:=i) j2 (by kernel_rfl) rfl rfl rfl hgu (show i<(ze s.data.toList).length by omega)) λA=>?_;refine sdo A (vv (j:=i*1) M 0 rfl hgu (by rw[Nat.mul_one,kr (by omega),hrn]) qyi rfl) λA=>?_;refine sdo (v:=.string (⟨(Lib.encodeRune (((rn:Nat):Int))).toArray⟩)) A (zk rfl (qsg (n:=rn) iz gi ho)) λA=>?_;refine sdo (v:=.string (⟨(acc++(Lib.encodeRune (((rn:Nat):Int)))).toArray⟩)) A (qb rfl rfl (ql (a:=acc) (b:=Lib.encodeRune (((rn:Nat):Int))) (by first|omega|(simp only[fv,fw,fx]; omega)))) λA=>?_;refine sda A λA=>?_;refine qa (ar _ _ (wrl (sdm A λA=>?_)));refine sdo (v:=iV (((i+1:Nat):Int))) A (qb rfl rfl (fun w=>(zq (jk (by omega) (by omega)) w).trans (by rw[show(((i:Nat):Int)+1:Int)=((i+1:Nat):Int)from by omega]))) λA=>?_;refine sda A λA=>?_;refine qa ?_;have hd9:decide (i=0)=false:=gn (by omega);have ag:inS false ((rn:Nat):Int)=(Lib.encodeRune (((rn:Nat):Int))):=zta (by rw[Bool.not_false,Bool.true_and]; exact av);have hs9:=ud false hn;rw[ag]at hs9;refine aq _ _ _ (by omega) ⟨i+1,acc++(Lib.encodeRune (((rn:Nat):Int))),rfl,⟨by omega,by omega,by rw[←af,hd9,show decide (i+1=0)=false from gn (by omega),qsi (i:=i) (by omega),hrn,ag,f4],by rw[fv]; omega⟩,A.keep _ (by repeat' constructor),M⟩
       ·refine gcl A M ec ((av▸C.rrest_any ((rn:Nat):Int) ho _)) fun _ _ M a A=>?_;refine sda A λA=>?_;refine qwk bp fun _ bi=>wsr fun _ br=>sdm A λA=>?_;rcases tf ((((i:Nat):Int)==0))with ak|ak
        ·have ak':=gr ak;refine sdc A qe ak λA=>?_;refine qct br A ?_;refine wrl ?_;iterate 2 refine sdm A λA=>?_
         refine sdo (v:=pA gu (i*1)) A (jn (k:=i) j2 (by kernel_rfl) rfl rfl rfl hgu (show i<(ze s.data.toList).length by omega)) λA=>?_;refine sdo A (vv (j:=i*1) M 0 rfl hgu (by rw[Nat.mul_one,kr (by omega),hrn]) qyi rfl) λA=>?_;rcases tf (C.firstB ((rn:Nat):Int))with ax|ax
         ·refine gcl A M ec ((ax▸C.rfirst_any ((rn:Nat):Int) ho _)) fun _ _ M a A=>?_;refine sda A λA=>?_;refine qwr bi fun _ co=>sdm A λA=>?_;refine qct co A ?_;refine wrl ?_;iterate 3 refine sdm A λA=>?_
          refine sdo (v:=pA gu (i*1)) A (jn (k:=i) j2 (by kernel_rfl) rfl rfl rfl hgu (show i<(ze s.data.toList).length by omega)) λA=>?_;refine sdo A (vv (j:=i*1) M 0 rfl hgu (by rw[Nat.mul_one,kr (by omega),hrn]) qyi rfl) λA=>?_;refine sdo (v:=.string (⟨(Lib.encodeRune (((rn:Nat):Int))).toArray⟩)) A (zk rfl (qsg (n:=rn) iz gi ho)) λA=>?_;refine sdo (v:=.string (⟨(acc++(Lib.encodeRune (((rn:Nat):Int)))).toArray⟩)) A (qb rfl rfl (ql (a:=acc) (b:=Lib.encodeRune (((rn:Nat):Int))) (by first|omega|(simp only[fv,fw,fx]; omega)))) λA=>?_;refine sda A λA=>?_;refine qa (ar _ _ (wrl (sdm A λA=>?_)));refine sdo (v:=iV (((i+1:Nat):Int))) A (qb rfl rfl (fun w=>(zq (jk (by omega) (by omega)) w).trans (by rw[show(((i:Nat):Int)+1:Int)=((i+1:Nat):Int)from by omega]))) λA=>?_;refine sda A λA=>?_;refine qa ?_;have hd9:decide (i=0)=true:=gv (by omega);have ag:inS true ((rn:Nat):Int)=(Lib.encodeRune (((rn:Nat):Int))):=zta (by rw[ax]; rfl);have hs9:=ud true hn;rw[ag]at hs9;refine aq _ _ _ (by omega) ⟨i+1,acc++(Lib.encodeRune (((rn:Nat):Int))),rfl,⟨by omega,by omega,by rw[←af,hd9,show decide (i+1=0)=false from gn (by omega),qsi (i:=i) (by omega),hrn,ag,f4],by rw[fv]; omega⟩,A.keep _ (by repeat' constructor),M⟩
         ·refine gcl A M ec ((ax▸C.rfirst_any ((rn:Nat):Int) ho _)) fun _ _ M a A=>?_;refine sda A λA=>?_;refine qwr bi fun _ cp=>sdm A λA=>?_;refine qcf cp A ?_;refine wrl ?_;iterate 3 refine sdm A λA=>?_
          refine sdo (v:=pA gu (i*1)) A (jn (k:=i) j2 (by kernel_rfl) rfl rfl rfl hgu (show i<(ze s.data.toList).length by omega)) λA=>?_;refine sdo A (vv (j:=i*1) M 0 rfl hgu (by rw[Nat.mul_one,kr (by omega),hrn]) qyi rfl) λA=>?_;refine gcl A M ec (C.rhex_any rn (kp ho) _) fun _ _ M a A=>?_;refine sdo (v:=.string (⟨(([92,120])++(C.hexD rn)).toArray⟩)) A (qb rfl rfl (ql (a:=[92,120]) (b:=C.hexD rn) (by first|omega|(simp only[fv,fw,fx]; omega)))) λA=>?_;refine sdo (v:=.string (⟨((([92,120])++(C.hexD rn))++([59])).toArray⟩)) A (qb rfl rfl (ql (a:=([92,120])++(C.hexD rn)) (b:=[59]) (by first|omega|(simp only[fv,fw,fx]; omega)))) λA=>?_;refine sdo (v:=.string (⟨(acc++((([92,120])++(C.hexD rn))++([59]))).toArray⟩)) A (qb rfl rfl (ql (a:=acc) (b:=(([92,120])++(C.hexD rn))++([59])) (by first|omega|(simp only[fv,fw,fx]; omega)))) λA=>?_;refine sda A λA=>?_;refine qa (ar _ _ (wrl (sdm A λA=>?_)));refine sdo (v:=iV (((i+1:Nat):Int))) A (qb rfl rfl (fun w=>(zq (jk (by omega) (by omega)) w).trans (by rw[show(((i:Nat):Int)+1:Int)=((i+1:Nat):Int)from by omega]))) λA=>?_;refine sda A λA=>?_;refine qa ?_;have hd9:decide (i=0)=true:=gv (by omega);have ag:inS true ((rn:Nat):Int)=((([92,120])++(C.hexD rn))++([59])):=((ztb (by rw[ax]; rfl)).trans (by rw[qae]));have hs9:=ud true hn;rw[ag]at hs9;refine aq _ _ _ (by omega) ⟨i+1,acc++((([92,120])++(C.hexD rn))++([59])),rfl,⟨by omega,by omega,by rw[←af,hd9,show decide (i+1=0)=false from gn (by omega),qsi (i:=i) (by omega),hrn,ag,f4],by rw[fv]; omega⟩,A.keep _ (by repeat' constructor),M⟩
        ·have ak':=f6 ak;refine sdc A qe ak λA=>?_;refine qcf br A ?_;refine wp_skip (bi _ _ (wsr fun _ cq=>sdm A λA=>?_));refine qcf cq A ?_;refine wrl ?_;iterate 3 refine sdm A λA=>?_
         refine sdo (v:=pA gu (i*1)) A (jn (k:=i) j2 (by kernel_rfl) rfl rfl rfl hgu (show i<(ze s.data.toList).length by omega)) λA=>?_;refine sdo A (vv (j:=i*1) M 0 rfl hgu (by rw[Nat.mul_one,kr (by omega),hrn]) qyi rfl) λA=>?_;refine gcl A M ec (C.rhex_any rn (kp ho) _) fun _ _ M a A=>?_;refine sdo (v:=.string (⟨(([92,120])++(C.hexD rn)).toArray⟩)) A (qb rfl rfl (ql (a:=[92,120]) (b:=C.hexD rn) (by first|omega|(simp only[fv,fw,fx]; omega)))) λA=>?_;refine sdo (v:=.string (⟨((([92,120])++(C.hexD rn))++([59])).toArray⟩)) A (qb rfl rfl (ql (a:=([92,120])++(C.hexD rn)) (b:=[59]) (by first|omega|(simp only[fv,fw,fx]; omega)))) λA=>?_;refine sdo (v:=.string (⟨(acc++((([92,120])++(C.hexD rn))++([59]))).toArray⟩)) A (qb rfl rfl (ql (a:=acc) (b:=(([92,120])++(C.hexD rn))++([59])) (by first|omega|(simp only[fv,fw,fx]; omega)))) λA=>?_;refine sda A λA=>?_;refine qa (ar _ _ (wrl (sdm A λA=>?_)));refine sdo (v:=iV (((i+1:Nat):Int))) A (qb rfl rfl (fun w=>(zq (jk (by omega) (by omega)) w).trans (by rw[show(((i:Nat):Int)+1:Int)=((i+1:Nat):Int)from by omega]))) λA=>?_;refine sda A λA=>?_;refine qa ?_;have hd9:decide (i=0)=false:=gn (by omega);have ag:inS false ((rn:Nat):Int)=((([92,120])++(C.hexD rn))++([59])):=((ztb (by rw[Bool.not_false,Bool.true_and]; exact av)).trans (by rw[qae]));have hs9:=ud false hn;rw[ag]at hs9;refine aq _ _ _ (by omega) ⟨i+1,acc++((([92,120])++(C.hexD rn))++([59])),rfl,⟨by omega,by omega,by rw[←af,hd9,show decide (i+1=0)=false from gn (by omega),qsi (i:=i) (by omega),hrn,ag,f4],by rw[fv]; omega⟩,A.keep _ (by repeat' constructor),M⟩
      ·have ai':=fy ai;refine sdc A qy ai λA=>?_;refine qcf bn A ?_;refine wp_exit (ci _ _ (wsr fun _ cr=>sdm A λA=>?_));refine sda A λA=>?_;refine qr1 cr hret A ?_;exact⟨by
        rw[juj (by omega),gh]at af;rw[show qaj false s=acc from by
         rw[af];rcases hpx with⟨h,h2,h3⟩|⟨h,h2,h3⟩
         ·rw[h2,h3,jta (fun k=>by rcases k with k|k|k|k; cases k; exact ay' k; exact aa' k; exact ab' k) au' h,show ze (s.data.toList.drop 2)=(ze s.data.toList).drop 2 from by rw[qdf h]; rfl];rfl
         ·rw[h2,h3,jtb (fun k=>by rcases k with k|k|k|k; cases k; exact ay' k; exact aa' k; exact ab' k) au' h];rfl],M.bel⟩
     refine wsr fun _ bd=>sdm A λA=>?_;refine sdo A (qr j2 rfl) λA=>?_;rcases tf (decide (2≤(((ze s.data.toList).length:Nat):Int)))with ah|ah
     ·have ah':=f5 ah;refine sdc A zt ah λA=>?_;iterate 2 refine sdm A λA=>?_
      obtain⟨gu,hgu⟩:=qpg M 0 rfl (by omega);refine sdo (v:=pA gu (0*1)) A (jn (k:=0) j2 (by kernel_rfl) rfl rfl rfl hgu (show 0<(ze s.data.toList).length by omega)) λA=>?_;refine sdo A (vv (j:=0*1) M 0 rfl hgu (kr (by omega)) qyi rfl) λA=>?_;rcases tf (((ze s.data.toList).getD 0 0==45))with ac|ac
      ·have ac':=gr ac;refine sdc A qe ac λA=>?_;refine sdk (v:=bV true) A λA=>?_;iterate 2 refine sdm A λA=>?_
       refine sdo (v:=pA gu (1*1)) A (jn (k:=1) j2 (by kernel_rfl) rfl rfl rfl hgu (show 1<(ze s.data.toList).length by omega)) λA=>?_;refine sdo A (vv (j:=1*1) M 0 rfl hgu (kr (by omega)) qyi rfl) λA=>?_;rcases tf (((ze s.data.toList).getD 1 0==62))with ae|ae
       ·have ae':=gr ae;refine sdc A qe ae λA=>?_;refine sdk (v:=bV true) A λA=>?_;refine qct bd A ?_;refine wsr fun _ cw=>sda A λA=>?_;refine qa (cw _ _ (wrl (sda A λA=>?_)));refine qa ?_;exact az _ _ ⟨2,[45,62],.inl ⟨xdc (by omega) ac' ae',rfl,rfl⟩,A.keep _ (by repeat' constructor),M⟩
       ·have ae':=f6 ae;refine sdc A qe ae λA=>?_;refine sdk (v:=bV false) A λA=>?_;refine qcf bd A ?_;refine wp_skip ?_;exact az _ _ ⟨0,[],.inr ⟨by
         rcases tf (Lib.hasPrefix s.data.toList [45,62])with h9|h9
         ·exfalso;have h7:=ae';rw[qdf h9]at h7;simp at h7
         ·exact h9,rfl,rfl⟩,A.keep _ (by repeat' constructor),M⟩
      ·have ac':=f6 ac;refine sdc A qe ac λA=>?_;refine sdk (v:=bV false) A λA=>?_;refine sdm A λA=>?_;iterate 4 refine sks A λA=>?_
       refine sdk (v:=bV false) A λA=>?_;refine qcf bd A ?_;refine wp_skip ?_;exact az _ _ ⟨0,[],.inr ⟨by
        rcases tf (Lib.hasPrefix s.data.toList [45,62])with h9|h9
        ·exfalso;have h7:=ac';rw[qdf h9]at h7;simp at h7
        ·exact h9,rfl,rfl⟩,A.keep _ (by repeat' constructor),M⟩
     ·have ah':=fy ah;refine sdc A zt ah λA=>?_;refine sdm A λA=>?_;iterate 4 refine sks A λA=>?_
      refine sdk (v:=bV false) A λA=>?_;refine sdm A λA=>?_;iterate 4 refine sks A λA=>?_
      refine sdk (v:=bV false) A λA=>?_;refine qcf bd A ?_;refine wp_skip ?_;exact az _ _ ⟨0,[],.inr ⟨by
       rcases tf (Lib.hasPrefix s.data.toList [45,62])with h9|h9
       ·exfalso;have h7:=ah';have h8:=j9 List.length (qdf h9);simp only[fw]at h8;omega
       ·exact h9,rfl,rfl⟩,A.keep _ (by repeat' constructor),M⟩
def dtC(us:List Dt):List Value:=us.flatMap fun t=>t.d.cells t.ts.length
theorem jvc(us:List Dt)(p:Dt):dtC (us++[p])=dtC us++p.d.cells p.ts.length:=by unfold dtC; rw[ll]; simp
theorem jvd: ∀{us:List Dt} {i j:Nat} {t:Dt},us[i]?=some t→j<11→(dtC us)[i*11+j]?=(t.d.cells t.ts.length)[j]?
  | [], i, j, t, h, hj => by simp at h
  | u :: us, 0, j, t, h, hj => by
    simp only[List.getElem?_cons_zero,Option.some.injEq]at h;subst h;unfold dtC;rw[ij,Nat.zero_mul,Nat.zero_add,List.getElem?_append_left (by exact hj)]
  | u :: us, i + 1, j, t, h, hj => by
    rw[List.getElem?_cons_succ]at h;have:=jvd h hj;unfold dtC at this ⊢;rw[ij,List.getElem?_append_right (by show 11≤_; omega),show(i+1)*11+j-(u.d.cells u.ts.length).length=i*11+j from by show(i+1)*11+j-11=_; omega];exact this
theorem xjc{w0 w:World}{L:List Ck}{e:TypeId}(hM:Mg w0 w L)(k:Nat){so:Option Addr}{n cap:Nat}{us:List Dt}(hk:L[k]?=some (.row e 11 (.slice so n cap) n (dtC us)))(hn:n=us.length):Rt w so us:=fun hne=>by
  have hown:=hM.has k hk;have hpos:us.length≠0:=fun h=>hne (List.eq_nil_of_length_eq_zero h);rcases hown.2 with⟨_,h0⟩|⟨g,cap',cur,he,hbg,hg,_⟩
  · omega
  · cases he
    refine⟨g,0,rfl,fun i t hi=>⟨?_,fun j v hj=>?_⟩⟩
    · exact(Array.getElem?_eq_some_iff.1 hg).1
    · have hj11:j<11:=(List.getElem?_eq_some_iff.1 hj).1;have h9:=hown.cells (g:=g) rfl (i*11+j) v ((jvd hi hj11).trans hj);rw[jt,Nat.zero_add]at h9;rw[Nat.zero_add];exact h9
theorem zub(pl:Bool):∀(f:Bool) (a:List Tr) (x:Tr),wrL pl f (a++[x])=wrL pl f a++((if f=true∧a=[]then[]else[32])++wrT pl x)
  | f, [], x => by
    rw[f8,wrL,wrL,wrL,f8,gh];cases f<;>simp
  | f, y :: a, x => by
    rw[gq,wrL,wrL,zub pl false a x,f7 (show ¬(false=true∧a=[])from fun h=>by cases h.1),f7 (show ¬(f=true∧y::a=[])from fun h=>by cases h.2)];simp only[f4]
structure SpU(w:World)(pl:Bool)(t q0 q1:Dt)(us:List Dt)(p:Dt):Prop where
  rd:p.rd w
  gd:p.tr.good
  ur:∀u∈us,u.rd w
  ug:∀u∈us,u.tr.good
  bk:Tr.bulks (us.map Dt.tr)+p.tr.bulk+us.length≤t.tr.bulk
  z:us.length=0→p=t
  tx:wrL pl true (us.map Dt.tr)++(tlT pl p.tr).drop (if us.length=0 then 1 else 0)=(tlT pl t.tr).drop 1
  o1:us.length=1→us=[q0]∧p=q1
  o2:us.length=2→∃c0,us=[q0,c0]∧q1.d.k=8∧q1.ts=[c0,p]
  o3:3≤us.length→qtT q1.tr=false
theorem SpU.start{w:World}{pl:Bool}{t q0 q1:Dt}(h:t.rd w)(g:t.tr.good):SpU w pl t q0 q1 [] t:=
  ⟨h,g,fun _ h=>(by cases h),fun _ h=>(by cases h),(by simp[Tr.bulks]),fun _=>rfl,(by simp[wrL]),fun h=>(by simp at h),fun h=>(by simp at h),fun h=>(by simp at h)⟩
theorem zce: ∀(a:List Tr) (x:Tr),Tr.bulks (a++[x])=Tr.bulks a+x.bulk
  | [], x => by simp [Tr.bulks]
  | y :: a, x => by rw [gq, Tr.bulks, Tr.bulks, zce a x]; omega
theorem SpU.go{w:World}{pl:Bool}{t q0 q1 p p0 p1:Dt}{us:List Dt}(h:SpU w pl t q0 q1 us p)(iq0:t.ts[0]?=some q0)(iq1:t.ts[1]?=some q1)(h8:p.d.k=8)(l2:p.ts.length=2)(i0:p.ts[0]?=some p0)(i1:p.ts[1]?=some p1)(r0:p0.rd w)(r1:p1.rd w)(g0:p0.tr.good)(g1:p1.tr.good):SpU w pl t q0 q1 (us++[p0]) p1:=by
  have hb:=qki l2 i0 i1;have hbk:=h.bk;have hl:(us++[p0]).length=us.length+1:=by simp
  refine⟨r1,g1,fun u hu=>?_,fun u hu=>?_,?_,fun h=>by omega,?_,fun h1=>?_,fun h1=>?_,fun h1=>?_⟩
  · rcases lk.1 hu with k|k
    · exact h.ur u k
    · rw[iq.1 k]; exact r0
  · rcases lk.1 hu with k|k
    · exact h.ug u k
    · rw[iq.1 k]; exact g0
  · rw[j6,i6,lg,zce,hl];omega
  · rw[←h.tx,f7 (by omega),List.drop_zero,j6,i6,lg,zub,qpj h8 l2 i0 i1];by_cases h0:us.length=0
    · rw[gj h0,gj ⟨rfl,by rw[List.eq_nil_of_length_eq_zero h0]; rfl⟩];simp only[f4,f8,gq,List.drop_succ_cons,List.drop_zero]
    · rw[f7 h0,f7 (fun k=>h0 (by have:=j9 List.length k.2; simpa using this))];simp only[f4,List.drop_zero]
  · have h0:us.length=0:=(by omega);have e:=h.z h0;subst e;rw[List.eq_nil_of_length_eq_zero h0];rw[iq0]at i0;rw[iq1]at i1;cases i0
    cases i1
    exact⟨rfl,rfl⟩
  · obtain⟨e1,e2⟩:=h.o1 (by omega);subst e1 e2;exact⟨p0,rfl,h8,qmc l2 i0 i1⟩
  · by_cases h2:us.length=2
    · obtain⟨c0,e1,e2,e3⟩:=h.o2 h2;rw[ztf e2 (by rw[e3]; rfl) (p0:=c0) (p1:=p) (by rw[e3]; rfl) (by rw[e3]; rfl)];exact gn (by omega)
    · exact h.o3 (by omega)
theorem SpU.list{w:World}{pl:Bool}{t q0 q1 p:Dt}{us:List Dt}(h:SpU w pl t q0 q1 us p)(h8:t.d.k=8)(l2:t.ts.length=2)(iq0:t.ts[0]?=some q0)(iq1:t.ts[1]?=some q1)(hp:p.d.k≠8)(hq:(isQ q0.tr&&qtT q1.tr)=false):wrT pl t.tr=[40]++(wrL pl true (us.map Dt.tr)++tlT pl p.tr)++[41]:=by
  have h0:us.length≠0:=fun e=>hp (by rw[h.z e]; exact h8);have htx:=h.tx;rw[f7 h0,List.drop_zero,qpj h8 l2 iq0 iq1]at htx;rw[zna h8 l2 iq0 iq1 hq,htx];rfl
theorem SpU.quote{w:World}{pl:Bool}{t q0 q1 p:Dt}{us:List Dt}(h:SpU w pl t q0 q1 us p)(h8:t.d.k=8)(l2:t.ts.length=2)(iq0:t.ts[0]?=some q0)(iq1:t.ts[1]?=some q1){c0:Dt}(hu:us=[q0,c0])(hp:p.d.k=1)(hq:isQ q0.tr=true):wrT pl t.tr=[39]++wrT pl c0.tr:=by
  obtain⟨c,e1,e2,e3⟩:=h.o2 (by rw[hu]; rfl);rw[hu]at e1;injection e1 with _ e1;injection e1 with e1 _;subst e1;have l2':q1.ts.length=2:=by rw[e3]; rfl
  have j0:q1.ts[0]?=some c0:=by rw[e3]; rfl
  have j1:q1.ts[1]?=some p:=by rw[e3]; rfl
  rw[zte h8 l2 iq0 iq1 (by rw[hq,ztf e2 l2' j0 j1,gv hp]; rfl),xlc l2' j0 j1]
theorem SpU.no{w:World}{pl:Bool}{t q0 q1 p:Dt}{us:List Dt}(h:SpU w pl t q0 q1 us p)(h8:t.d.k=8)(hp:p.d.k≠8)(hn:us.length≠2∨p.d.k≠1∨isQ q0.tr=false):(isQ q0.tr&&qtT q1.tr)=false:=by
  by_cases h2:us.length=2
  · rcases hn with hn|hn|hn
    · exact absurd h2 hn
    · obtain⟨c0,e1,e2,e3⟩:=h.o2 h2;rw[ztf e2 (by rw[e3]; rfl) (p0:=c0) (p1:=p) (by rw[e3]; rfl) (by rw[e3]; rfl),gn hn,Bool.and_false]
    · rw[hn,Bool.false_and]
  · by_cases h1:us.length=1
    · rw[←(h.o1 h1).2,xeh hp,Bool.and_false]
    · by_cases h0:us.length=0
      · exact absurd (by rw[h.z h0]; exact h8) hp
      · rw[h.o3 (by omega),Bool.and_false]
theorem xlh{w:World}{lo:Option Addr}{ts:List Dt}(h:Rt w lo ts)(hr:∀t∈ts,t.rd w){i:Nat}(hi:i<ts.length):∃t b o,ts[i]?=some t∧t∈ts∧t.rd w∧lo=some ⟨b,o,none⟩∧Here w b (o+i*11) (t.d.cells t.ts.length):=by
 obtain⟨b,o,e,h2⟩:=h (fun e=>by subst e; exact absurd hi (j4 _));have ht:=List.getElem?_eq_getElem hi;exact⟨ts[i],b,o,ht,ip hi,hr _ (ip hi),e,h2 i _ ht⟩
theorem jfc{pl f:Bool}{ts:List Dt}{p:Dt}{i:Nat}(hi:ts[i]?=some p):wrL pl f ((ts.map Dt.tr).drop i)=(if f=true then[]else[32])++wrT pl p.tr++wrL pl false ((ts.map Dt.tr).drop (i+1)):=by rw[yv hi,wrL]
theorem jve{pl f:Bool}{ts:List Dt}{i:Nat}(h:¬i<ts.length):wrL pl f ((ts.map Dt.tr).drop i)=[]:=by rw[qbj h,wrL]
theorem qga{ts:List Dt}{t:Dt}(h:t∈ts):t.tr.bulk≤Tr.bulks (ts.map Dt.tr):=ul (j5 (f:=Dt.tr) h)
def Tells(n:Nat):Prop:=∀{w:World} {t:Dt} {mk:Bool},t.tr.bulk<n→t.rd w→t.tr.good→t.tr.bulk≤1048576→Calls Tryz.prog 76 #[.agg (t.d.cells t.ts.length).toArray,bV mk] w (RB w (.string ⟨(wrT (!mk) t.tr).toArray⟩))
theorem zuc{n:Nat}(ih:Tells n){w:World}{lo:Option Addr}{lc:Nat}{ts:List Dt}{mk:Bool}(hR:Rt w lo ts)(hr:∀t∈ts,t.rd w)(hg:∀t∈ts,t.tr.good)(hb:Tr.bulks (ts.map Dt.tr)<n)(hmax:Tr.bulks (ts.map Dt.tr)≤1048576)(hlt:ts.length≤9223372036854775807):Calls Tryz.prog 113 #[.slice lo ts.length lc,bV mk] w (RB w (.string ⟨(wrL (!mk) true (ts.map Dt.tr)).toArray⟩)):=by
 have M:=Mg.start w;refine wof Tryz.func113 Tryz.ntmps113 fun Q hret hnorm hP a A=>?_;refine wsr fun _ am=>sda A λA=>?_;refine qwr am fun _ ap=>sda A λA=>?_;refine qwk ap fun _ aq=>wsr fun K4 ar=>sda A λA=>?_;refine qa (ar _ _ (wp_block (zg (fun m_ a w1=>∃(i:Nat) (acc:List UInt8),m_=1+(ts.length-i)∧(i≤ts.length∧acc++wrL (!mk) (decide (i=0)) ((ts.map Dt.tr).drop i)=wrL (!mk) true (ts.map Dt.tr)∧acc.length+64*Tr.bulks ((ts.map Dt.tr).drop i)≤64*Tr.bulks (ts.map Dt.tr))∧Sl a 26 [(0,.slice lo ts.length lc),(1,bV mk),(4,.string (⟨#[]⟩)),(5,.string (⟨(acc).toArray⟩)),(6,iV (((i:Nat):Int)))]∧Mg w w1 ([])) _ ⟨0,[],rfl,⟨ii _,rfl,by rw[List.drop_zero,fx]; omega⟩,A.keep _ ⟨rfl,rfl,rfl,rfl,rfl,trivial⟩,M⟩ ?_)));clear M A;rintro m_ a _ ⟨i,acc,rfl,ae,A,M⟩ _ aj;obtain⟨_,ac,ha9⟩:=ae;refine wsk fun _ au=>wsr fun _ ak=>?_;iterate 2 refine sdm A λA=>?_
 refine sdo A (qr f9 rfl) λA=>?_;rcases tf (decide (((i:Nat):Int)<((ts.length:Nat):Int)))with aa|aa
 ·have aa':=f5 aa;refine sdc A qy aa λA=>?_;refine qct ak A ?_;refine wp_skip (au _ _ (wsk fun _ af=>wp_block (wsk fun _ ag=>wsr fun _ ah=>sdm A λA=>?_)));rcases tf (decide (0<((i:Nat):Int)))with ab|ab
  ·have ab':=f5 ab;refine sdc A jh ab λA=>?_;refine qct ah A ?_;refine wrl (sdm A λA=>?_);refine sdo (v:=.string (⟨(acc++([32])).toArray⟩)) A (qb rfl rfl (ql (a:=acc) (b:=[32]) (by first|omega|(simp only[fv,fw,fx]; omega)))) λA=>?_;refine sda A λA=>?_;refine qa (ag _ _ ?_);obtain⟨t1,bt1,ot1,it1,mt1,rt1_,lt1,Ht1⟩:=xlh hR hr (i:=i) (by omega);have hbk9:=zbg it1;have hbm9:=qga mt1;have hw9:=(qfi (!mk) t1.tr (hg _ mt1)).1;refine wrl ?_;iterate 3 refine sdm A λA=>?_
   refine sdo (v:=pA bt1 (ot1+i*11)) A (qk (k:=i) f9 (by kernel_rfl) rfl rfl rfl lt1 (by omega)) λA=>?_;refine sdo A (zp M Ht1 zv rfl rfl) λA=>?_;refine sdm A λA=>?_;refine gcl A M ec (ih (t:=t1) (by omega) (Dt.keep M.bel _ rt1_) (hg _ mt1) (by omega)) fun _ _ M a A=>?_;refine sdo (v:=.string (⟨((acc++([32]))++(wrT (!mk) t1.tr)).toArray⟩)) A (qb rfl rfl (ql (a:=acc++([32])) (b:=wrT (!mk) t1.tr) (by first|omega|(simp only[fv,fw,fx]; omega)))) λA=>?_;refine sda A λA=>?_;refine qa (af _ _ (wrl (sdm A λA=>?_)));refine sdo (v:=iV (((i+1:Nat):Int))) A (qb rfl rfl (fun w=>(zq (jk (by omega) (by omega)) w).trans (by rw[show(((i:Nat):Int)+1:Int)=((i+1:Nat):Int)from by omega]))) λA=>?_;refine sda A λA=>?_;refine qa ?_;have hd9:decide (i=0)=false:=gn (by omega);refine aj _ _ _ (by omega) ⟨i+1,(acc++([32]))++(wrT (!mk) t1.tr),rfl,⟨by omega,by rw[←ac,hd9,show decide (i+1=0)=false from gn (by omega),jfc (f:=false) it1,f7 (show ¬false=true by decide)]; simp only[f4,f8],by simp only[fv,fw,fx]; omega⟩,A.keep _ ⟨rfl,rfl,rfl,rfl,rfl,trivial⟩,M⟩
  ·have ab':=fy ab;refine sdc A jh ab λA=>?_;refine qcf ah A ?_;refine wp_skip (ag _ _ ?_);obtain⟨t1,bt1,ot1,it1,mt1,rt1_,lt1,Ht1⟩:=xlh hR hr (i:=i) (by omega);have hbk9:=zbg it1;have hbm9:=qga mt1;have hw9:=(qfi (!mk) t1.tr (hg _ mt1)).1;refine wrl ?_;iterate 3 refine sdm A λA=>?_
   refine sdo (v:=pA bt1 (ot1+i*11)) A (qk (k:=i) f9 (by kernel_rfl) rfl rfl rfl lt1 (by omega)) λA=>?_;refine sdo A (zp M Ht1 zv rfl rfl) λA=>?_;refine sdm A λA=>?_;refine gcl A M ec (ih (t:=t1) (by omega) (Dt.keep M.bel _ rt1_) (hg _ mt1) (by omega)) fun _ _ M a A=>?_;refine sdo (v:=.string (⟨(acc++(wrT (!mk) t1.tr)).toArray⟩)) A (qb rfl rfl (ql (a:=acc) (b:=wrT (!mk) t1.tr) (by first|omega|(simp only[fv,fw,fx]; omega)))) λA=>?_;refine sda A λA=>?_;refine qa (af _ _ (wrl (sdm A λA=>?_)));refine sdo (v:=iV (((i+1:Nat):Int))) A (qb rfl rfl (fun w=>(zq (jk (by omega) (by omega)) w).trans (by rw[show(((i:Nat):Int)+1:Int)=((i+1:Nat):Int)from by omega]))) λA=>?_;refine sda A λA=>?_;refine qa ?_;have hd9:decide (i=0)=true:=gv (by omega);refine aj _ _ _ (by omega) ⟨i+1,acc++(wrT (!mk) t1.tr),rfl,⟨by omega,by rw[←ac,hd9,show decide (i+1=0)=false from gn (by omega),jfc (f:=true) it1,gj rfl]; simp only[f4,f8],by simp only[fv,fw,fx]; omega⟩,A.keep _ ⟨rfl,rfl,rfl,rfl,rfl,trivial⟩,M⟩
 ·have aa':=fy aa;refine sdc A qy aa λA=>?_;refine qcf ak A ?_;refine wp_exit (aq _ _ (wsr fun _ ai=>sdm A λA=>?_));refine sda A λA=>?_;refine qr1 ai hret A ?_;exact⟨by rw[jve (by omega),gh]at ac; rw[ac],M.bel⟩
theorem xli{w:World}{t:Dt}(h:t.rd w):Rt w t.d.lo t.ts:=by
 rw[←Dt.eta t,Dt.rd_iff]at h;exact h.2.2.2.1
theorem ku{pl:Bool}{t:Dt}(h8:t.d.k≠8)(h9:t.d.k≠9):wrT pl t.tr=vd pl t.d.k t.d.n t.d.y.q t.d.s t.d.rl:=by rw[qbc,f7 h8,f7 h9]
theorem jbb{w:World}{y:Nu}(hy:y.nm w)(hl:LenQ y.q)(hs:xt y.q=true):Calls Tryz.prog 108 #[.agg #[bV y.q.b1,.slice y.o1 y.q.t1.length y.c1,.slice y.o2 y.q.q1.length y.c2,bV y.q.b2,.slice y.o3 y.q.t2.length y.c3,.slice y.o4 y.q.q2.length y.c4],iV 10] w (RB w (.tuple #[.string ⟨(jv 10 y.q).toArray⟩,iV 0])):=jka hy hl (r:=10) (.inr (.inr (.inl rfl))) hs
theorem jbc{n:Nat}(ih:Tells n):Tells (n+1):=by
 intro w t mk hn ht gt hmax;have _:=(jf gt).1.h0;have _:=(jf gt).1.h1;have hn9:=jle (jf gt).1;have hbp9:=zca (t:=t);have hbw9:=zcb (t:=t);have hsl:=zm t.d.s;have M:=Mg.start w;refine wof Tryz.func76 Tryz.ntmps76 fun Q hret hnorm hP a A=>?_;refine wsr fun _ fj=>zj (vs:=[iV t.d.k,iV t.d.n,bV t.d.y.q.b1,.slice t.d.y.o1 t.d.y.q.t1.length t.d.y.c1,.slice t.d.y.o2 t.d.y.q.q1.length t.d.y.c2,bV t.d.y.q.b2,.slice t.d.y.o3 t.d.y.q.t2.length t.d.y.c3,.slice t.d.y.o4 t.d.y.q.q2.length t.d.y.c4,.string t.d.s,.slice t.d.ro t.d.rl.length t.d.rc,.slice t.d.lo t.ts.length t.d.lc]) (t:=30) A M rfl rfl rfl pg (qx rfl rfl) (by decide) ?_;intro g2 _ M a A;refine sda A λA=>?_;refine qa (fj _ _ (wsk fun K4 fk=>wsr fun _ fm=>sdf A 0 xk λA=>?_));refine sdl A M o93 0 λA=>?_;refine qa (fm _ _ (wp_block (wsr fun _ ff=>?_)));rcases tf ((t.d.k==1))with bh|bh
 ·have bh':=gr bh;refine sdc A qe bh λA=>?_;refine sda A λA=>?_;refine qct ff A ?_;refine wsr fun _ fp=>sda A λA=>?_;refine qr1 fp hret A ?_;exact⟨by
   rw[show wrT (!mk) t.tr=[40,41]from by
    rw[ku (by omega) (by omega)];unfold vd;repeat (first|rw[gj (by omega)]|rw[f7 (by omega)])
    try rfl],M.bel⟩
 ·have bh':=f6 bh;refine sdc A qe bh λA=>?_;refine sda A λA=>?_;refine qcf ff A ?_;refine wsr fun _ fg=>?_;rcases tf ((t.d.k==2))with ai|ai
  ·have ai':=gr ai;refine sdc A qe ai λA=>?_;refine sda A λA=>?_;refine qct fg A ?_;refine wsk fun _ dg=>wsr fun _ br=>sdf A 1 vn λA=>?_;refine sdl A M o93 0 λA=>?_;rcases tf ((t.d.n==1))with aj|aj
   ·have aj':=gr aj;refine sdc A qe aj λA=>?_;refine qct br A ?_;refine wsr fun _ dh=>sda A λA=>?_;refine qr1 dh hret A ?_;exact⟨by
     rw[show wrT (!mk) t.tr=[35,116]from by
      rw[ku (by omega) (by omega)];unfold vd;repeat (first|rw[gj (by omega)]|rw[f7 (by omega)])
      try rfl],M.bel⟩
   ·have aj':=f6 aj;refine sdc A qe aj λA=>?_;refine qcf br A ?_;refine wp_skip (dg _ _ (wsr fun _ di=>sda A λA=>?_));refine qr1 di hret A ?_;exact⟨by
     rw[show wrT (!mk) t.tr=[35,102]from by
      rw[ku (by omega) (by omega)];unfold vd;repeat (first|rw[gj (by omega)]|rw[f7 (by omega)])
      try rfl],M.bel⟩
  ·have ai':=f6 ai;refine sdc A qe ai λA=>?_;refine sda A λA=>?_;refine qcf fg A ?_;refine wsr fun _ bw=>?_;rcases tf ((t.d.k==3))with ak|ak
   ·have ak':=gr ak;refine sdc A qe ak λA=>?_;refine sda A λA=>?_;refine qct bw A ?_;refine wsr fun _ dj=>sdf A 2 uq λA=>?_;refine sdo A (qz M jnc rfl 0 rfl (cs:=[bV t.d.y.q.b1,.slice t.d.y.o1 t.d.y.q.t1.length t.d.y.c1,.slice t.d.y.o2 t.d.y.q.q1.length t.d.y.c2,bV t.d.y.q.b2,.slice t.d.y.o3 t.d.y.q.t2.length t.d.y.c3,.slice t.d.y.o4 t.d.y.q.q2.length t.d.y.c4]) rfl rfl) λA=>?_;refine gcl A M ec ((jbb (y:=t.d.y) (Nu.below (Dt.okT ht).1.num M.bel) (Dt.okT ht).1.len ((jf gt).1.h3 (by omega)))) fun _ _ M a A=>?_;refine sdm A λA=>?_;iterate 2 refine sde A λA=>?_
    iterate 2 refine sda A λA=>?_
    refine qwr dj fun _ dk=>sdm A λA=>?_;refine sda A λA=>?_;refine qr1 dk hret A ?_;exact⟨by
     rw[show wrT (!mk) t.tr=jv 10 t.d.y.q from by
      rw[ku (by omega) (by omega)];unfold vd;repeat (first|rw[gj (by omega)]|rw[f7 (by omega)])
      try rfl],M.bel⟩
   ·have ak':=f6 ak;refine sdc A qe ak λA=>?_;refine sda A λA=>?_;refine qcf bw A ?_;refine wsr fun _ bz=>?_;rcases tf ((t.d.k==4))with am|am
    ·have am':=gr am;refine sdc A qe am λA=>?_;refine sda A λA=>?_;refine qct bz A ?_;refine wsk fun _ dn=>wsr fun _ dq=>sdm A λA=>?_;refine qa (dq _ _ ?_);refine wp_cond_split (t:=mk) (A.ev rfl) (fun bi=>?_) (fun bi=>?_)
     ·refine wsr fun _ dr=>sdf A 1 vn λA=>?_;refine sdl A M o93 0 λA=>?_;refine gcl A M ec ((show Calls Tryz.prog 109 #[iV t.d.n] _ _ from by rw[←Int.toNat_of_nonneg hn9.1]; exact jkh (jag ((jf gt).1.h4 (by omega)) hn9.1))) fun _ _ M a A=>?_;refine sda A λA=>?_;refine qr1 dr hret A ?_;exact⟨by
       rw[show wrT (!mk) t.tr=qad false ((t.d.n.toNat:Nat):Int)from by
        rw[Int.toNat_of_nonneg hn9.1];rw[ku (by omega) (by omega)];unfold vd;repeat (first|rw[gj (by omega)]|rw[f7 (by omega)])
        rw[bi];try rfl],M.bel⟩
     ·refine wp_skip (dn _ _ (wsr fun _ dt=>sdf A 1 vn λA=>?_));refine sdl A M o93 0 λA=>?_;refine sdo (v:=.int .i32 (((t.d.n.toNat:Nat):Int))) A (zk rfl (ar_conv i8 iz ((in_i32 (by omega) (by omega)).trans (by omega)))) λA=>?_;refine sdo (v:=.string (⟨(Lib.encodeRune ((t.d.n.toNat:Nat):Int)).toArray⟩)) A (zk rfl (qsg (n:=t.d.n.toNat) iz gi (jag ((jf gt).1.h4 (by omega)) hn9.1))) λA=>?_;refine sda A λA=>?_;refine qr1 dt hret A ?_;exact⟨by
       rw[show wrT (!mk) t.tr=Lib.encodeRune ((t.d.n.toNat:Nat):Int)from by
        rw[Int.toNat_of_nonneg hn9.1];rw[ku (by omega) (by omega)];unfold vd;repeat (first|rw[gj (by omega)]|rw[f7 (by omega)])
        rw[bi];try rfl],M.bel⟩
    ·have am':=f6 am;refine sdc A qe am λA=>?_;refine sda A λA=>?_;refine qcf bz A ?_;refine wsr fun _ cc=>?_;rcases tf ((t.d.k==5))with ap|ap
     ·have ap':=gr ap;refine sdc A qe ap λA=>?_;refine sda A λA=>?_;refine qct cc A ?_;refine wsk fun _ du=>wsr fun _ dv=>sdm A λA=>?_;refine qa (dv _ _ ?_);refine wp_cond_split (t:=mk) (A.ev rfl) (fun bj=>?_) (fun bj=>?_)
      ·refine wsr fun _ dw=>sdf A 8 vg λA=>?_;refine sdl A M o99 0 λA=>?_;refine gcl A M ec (jui (by omega)) fun _ _ M a A=>?_;refine sda A λA=>?_;refine qr1 dw hret A ?_;exact⟨by
        rw[show wrT (!mk) t.tr=qlc false t.d.s from by
         rw[ku (by omega) (by omega)];unfold vd;repeat (first|rw[gj (by omega)]|rw[f7 (by omega)])
         rw[bj];try rfl],M.bel⟩
      ·refine wp_skip (du _ _ (wsr fun _ dx=>sdf A 8 vg λA=>?_));refine sdl A M o99 0 λA=>?_;refine sda A λA=>?_;refine qr1 dx hret A ?_;exact⟨by
        rw[show wrT (!mk) t.tr=t.d.s.data.toList from by
         rw[ku (by omega) (by omega)];unfold vd;repeat (first|rw[gj (by omega)]|rw[f7 (by omega)])
         rw[bj];try rfl,qde],M.bel⟩
     ·have ap':=f6 ap;refine sdc A qe ap λA=>?_;refine sda A λA=>?_;refine qcf cc A ?_;refine wsr fun _ cd=>?_;rcases tf ((t.d.k==6))with aq|aq
      ·have aq':=gr aq;refine sdc A qe aq λA=>?_;refine sda A λA=>?_;refine qct cd A ?_;refine wsk fun _ dy=>wsr fun _ dz=>sdm A λA=>?_;refine qa (dz _ _ ?_);refine wp_cond_split (t:=mk) (A.ev rfl) (fun bn=>?_) (fun bn=>?_)
       ·refine wsr fun _ d5=>sdf A 8 vg λA=>?_;refine sdl A M o99 0 λA=>?_;refine gcl A M ec (jvb (by omega)) fun _ _ M a A=>?_;refine sda A λA=>?_;refine qr1 d5 hret A ?_;exact⟨by
         rw[show wrT (!mk) t.tr=qaj false t.d.s from by
          rw[ku (by omega) (by omega)];unfold vd;repeat (first|rw[gj (by omega)]|rw[f7 (by omega)])
          rw[bn];try rfl],M.bel⟩
       ·refine wp_skip (dy _ _ (wsr fun _ d6=>sdf A 8 vg λA=>?_));refine sdl A M o99 0 λA=>?_;refine sda A λA=>?_;refine qr1 d6 hret A ?_;exact⟨by
         rw[show wrT (!mk) t.tr=t.d.s.data.toList from by
          rw[ku (by omega) (by omega)];unfold vd;repeat (first|rw[gj (by omega)]|rw[f7 (by omega)])
          rw[bn];try rfl,qde],M.bel⟩
      ·have aq':=f6 aq;refine sdc A qe aq λA=>?_;refine sda A λA=>?_;refine qcf cd A ?_;refine wsr fun _ ce=>?_;rcases tf ((t.d.k==7))with ar|ar
       ·have ar':=gr ar;refine sdc A qe ar λA=>?_;refine sda A λA=>?_;refine qct ce A ?_;refine wsr fun _ d7=>sda A λA=>?_;refine qwk d7 fun _ d9=>wsr fun _ ed=>sda A λA=>?_;refine qa (ed _ _ (wp_block (zg (fun m_ a w1=>∃(i:Nat) (acc:List UInt8),m_=1+(t.d.rl.length-i)∧(i≤t.d.rl.length∧acc++quh (decide (i=0)) (t.d.rl.drop i)=quh true t.d.rl∧acc.length≤4*i)∧Sl a 156 [(0,.agg (t.d.cells t.ts.length).toArray),(1,bV mk),(2,pA g2 0),(4,.string (⟨#[]⟩)),(7,.string (⟨(acc).toArray⟩)),(8,iV (((i:Nat):Int))),(12,pA g2 0),(13,iV t.d.k),(14,bV false),(15,bV false),(16,bV false),(17,bV false),(21,bV false),(22,bV false),(30,bV false),(31,bV false),(40,bV false),(41,bV false),(48,bV false),(49,bV false),(56,bV true),(57,bV true)]∧Mg w w1 (.obj g2 (.cells (t.d.cells t.ts.length).toArray 30)::[])) _ ⟨0,[],rfl,⟨ii _,rfl,ii _⟩,A.keep _ (by repeat' constructor),M⟩ ?_)));clear M A;rintro m_ a _ ⟨i,acc,rfl,bp,A,M⟩ _ cg;obtain⟨_,bd,ha9⟩:=bp;refine wsk fun _ ee=>wsr fun _ ch=>sdm A λA=>?_;refine sdf A 9 qai λA=>?_;refine sdl A M quf 0 λA=>?_;refine sdo A (qr ib rfl) λA=>?_;rcases tf (decide (((i:Nat):Int)<((t.d.rl.length:Nat):Int)))with au|au
        ·have au':=f5 au;refine sdc A qy au λA=>?_;refine qct ch A ?_;refine wp_skip (ee _ _ (wsk fun _ ci=>wp_block (wsk fun _ cj=>wsr fun _ ck=>sdm A λA=>?_)));rcases tf (decide (0<((i:Nat):Int)))with av|av
         ·have av':=f5 av;refine sdc A jh av λA=>?_;refine qct ck A ?_;refine wrl (sdm A λA=>?_);refine sdo (v:=.string (⟨(acc++([32])).toArray⟩)) A (qb rfl rfl (ql (a:=acc) (b:=[32]) (by first|omega|(simp only[fv,fw,fx]; omega)))) λA=>?_;refine sda A λA=>?_;refine qa (cj _ _ (wrl (sdm A λA=>?_)));refine sdf A 9 qai λA=>?_;refine sdl A M quf 0 λA=>?_;refine sdm A λA=>?_;obtain⟨bx,ox,eg,eh,ei⟩:=qhf (i:=i) (Dt.okT ht).1.raw (by omega);have hX8:(t.d.rl.getD i 0).toNat<256:=UInt8.toNat_lt _;have hd3:=qpi ⟨(t.d.rl.getD i 0).toNat,hX8⟩;simp only at hd3;refine sdo (v:=pA bx (ox+i)) A (ja (k:=i) ib (by kernel_rfl) rfl rfl rfl eg (by omega)) λA=>?_;refine sdo A (qgh M eh (ei i (by omega)) o95 rfl) λA=>?_;refine sdo (v:=iV ((((t.d.rl.getD i 0).toNat:Nat):Int))) A (zk rfl (ar_conv ir i8 (in_i64 (by omega) (by omega)))) λA=>?_;refine gcl A M ec (C.rdec_any (t.d.rl.getD i 0).toNat (by omega) _) fun _ _ M a A=>?_;refine sdo (v:=.string (⟨((acc++([32]))++(C.decD (t.d.rl.getD i 0).toNat)).toArray⟩)) A (qb rfl rfl (ql (a:=acc++([32])) (b:=C.decD (t.d.rl.getD i 0).toNat) (by first|omega|(simp only[fv,fw,fx]; omega)))) λA=>?_;refine sda A λA=>?_;refine qa (ci _ _ (wrl (sdm A λA=>?_)));refine sdo (v:=iV (((i+1:Nat):Int))) A (qb rfl rfl (fun w=>(zq (jk (by omega) (by omega)) w).trans (by rw[show(((i:Nat):Int)+1:Int)=((i+1:Nat):Int)from by omega]))) λA=>?_;refine sda A λA=>?_;refine qa ?_;have hd9:decide (i=0)=false:=gn (by omega)
          refine cg _ _ _ (by omega) ⟨i+1,(acc++([32]))++(C.decD (t.d.rl.getD i 0).toNat),rfl,⟨by omega,by rw[←bd,hd9,show decide (i+1=0)=false from gn (by omega),qvj (f:=false) (i:=i) (by omega),f7 (show ¬false=true by decide)]; simp only[f4,f8],by simp only[fv,fw,fx]; omega⟩,A.keep _ (by repeat' constructor),M⟩
         ·have av':=fy av;refine sdc A jh av λA=>?_;refine qcf ck A ?_;refine wp_skip (cj _ _ (wrl (sdm A λA=>?_)));refine sdf A 9 qai λA=>?_;refine sdl A M quf 0 λA=>?_;refine sdm A λA=>?_;obtain⟨bx,ox,eg,eh,ei⟩:=qhf (i:=i) (Dt.okT ht).1.raw (by omega);have hX8:(t.d.rl.getD i 0).toNat<256:=UInt8.toNat_lt _;have hd3:=qpi ⟨(t.d.rl.getD i 0).toNat,hX8⟩;simp only at hd3;refine sdo (v:=pA bx (ox+i)) A (ja (k:=i) ib (by kernel_rfl) rfl rfl rfl eg (by omega)) λA=>?_;refine sdo A (qgh M eh (ei i (by omega)) o95 rfl) λA=>?_;refine sdo (v:=iV ((((t.d.rl.getD i 0).toNat:Nat):Int))) A (zk rfl (ar_conv ir i8 (in_i64 (by omega) (by omega)))) λA=>?_;refine gcl A M ec (C.rdec_any (t.d.rl.getD i 0).toNat (by omega) _) fun _ _ M a A=>?_;refine sdo (v:=.string (⟨(acc++(C.decD (t.d.rl.getD i 0).toNat)).toArray⟩)) A (qb rfl rfl (ql (a:=acc) (b:=C.decD (t.d.rl.getD i 0).toNat) (by first|omega|(simp only[fv,fw,fx]; omega)))) λA=>?_;refine sda A λA=>?_;refine qa (ci _ _ (wrl (sdm A λA=>?_)));refine sdo (v:=iV (((i+1:Nat):Int))) A (qb rfl rfl (fun w=>(zq (jk (by omega) (by omega)) w).trans (by rw[show(((i:Nat):Int)+1:Int)=((i+1:Nat):Int)from by omega]))) λA=>?_;refine sda A λA=>?_;refine qa ?_;have hd9:decide (i=0)=true:=gv (by omega);refine cg _ _ _ (by omega) ⟨i+1,acc++(C.decD (t.d.rl.getD i 0).toNat),rfl,⟨by omega,by rw[←bd,hd9,show decide (i+1=0)=false from gn (by omega),qvj (f:=true) (i:=i) (by omega),gj rfl]; simp only[f4,f8],by simp only[fv,fw,fx]; omega⟩,A.keep _ (by repeat' constructor),M⟩
        ·have au':=fy au;refine sdc A qy au λA=>?_;refine qcf ch A ?_;refine wp_exit (d9 _ _ (wsr fun _ eo=>sdm A λA=>?_));refine sdo (v:=.string (⟨(([35,118,117,56,40])++acc).toArray⟩)) A (qb rfl rfl (ql (a:=[35,118,117,56,40]) (b:=acc) (by first|omega|(simp only[fv,fw,fx]; omega)))) λA=>?_;refine sdo (v:=.string (⟨((([35,118,117,56,40])++acc)++([41])).toArray⟩)) A (qb rfl rfl (ql (a:=([35,118,117,56,40])++acc) (b:=[41]) (by first|omega|(simp only[fv,fw,fx]; omega)))) λA=>?_;refine sda A λA=>?_;refine qr1 eo hret A ?_;exact⟨by
          rw[show wrT (!mk) t.tr=(([35,118,117,56,40])++acc)++([41])from by
           rw[ztc (by omega),gh]at bd;rw[bd];rw[ku (by omega) (by omega)];unfold vd;repeat (first|rw[gj (by omega)]|rw[f7 (by omega)])
           try rfl],M.bel⟩
       ·have ar':=f6 ar;refine sdc A qe ar λA=>?_;refine sda A λA=>?_;refine qcf ce A ?_;refine wsr fun _ cl=>?_;rcases tf ((t.d.k==9))with aw|aw
        ·have aw':=gr aw;refine sdc A qe aw λA=>?_;refine sda A λA=>?_;refine qct cl A ?_;refine wsr fun _ ep=>sdf A 10 jz λA=>?_;refine sdl A M ke 0 λA=>?_;refine sdm A λA=>?_;refine sct A ec (zuc ih (ts:=t.ts) (mk:=mk) (xli (Dt.keep M.bel _ ht)) (fun c hc=>jub (Dt.keep M.bel _ ht) hc) (jf gt).2.2 (by have:=qqa (t:=t); omega) (by have:=qqa (t:=t); omega) (Dt.okT ht).2) ?_;rintro _ _ ⟨rfl,es⟩;have hwl:=zmj (!mk) true (t.ts.map Dt.tr) (fun x hx=>by obtain⟨c,hc,rfl⟩:=List.mem_map.1 hx; exact(qfi _ _ ((jf gt).2.2 c hc)).1);have hbl:=qqa (t:=t);replace M:=M.call es;refine⟨_,rfl,?_⟩;intro a A;refine sdo (v:=.string (⟨(([35,40])++(wrL (!mk) true (t.ts.map Dt.tr))).toArray⟩)) A (qb rfl rfl (ql (a:=[35,40]) (b:=wrL (!mk) true (t.ts.map Dt.tr)) (by first|omega|(simp only[fv,fw,fx]; omega)))) λA=>?_;refine sdo (v:=.string (⟨((([35,40])++(wrL (!mk) true (t.ts.map Dt.tr)))++([41])).toArray⟩)) A (qb rfl rfl (ql (a:=([35,40])++(wrL (!mk) true (t.ts.map Dt.tr))) (b:=[41]) (by first|omega|(simp only[fv,fw,fx]; omega)))) λA=>?_;refine sda A λA=>?_;refine qr1 ep hret A ?_;exact⟨by rw[qbc,f7 (by omega),gj (by omega)],M.bel⟩
        ·have aw':=f6 aw;refine sdc A qe aw λA=>?_;refine sda A λA=>?_;refine qcf cl A ?_;refine wsr fun _ cm=>?_;rcases tf ((t.d.k==10))with ax|ax
         ·have ax':=gr ax;refine sdc A qe ax λA=>?_;refine sda A λA=>?_;refine qct cm A ?_;refine wsr fun _ et=>sda A λA=>?_;refine qr1 et hret A ?_;exact⟨by
           rw[show wrT (!mk) t.tr=[35,60,118,111,105,100,62]from by
            rw[ku (by omega) (by omega)];unfold vd;repeat (first|rw[gj (by omega)]|rw[f7 (by omega)])
            try rfl],M.bel⟩
         ·have ax':=f6 ax;refine sdc A qe ax λA=>?_;refine sda A λA=>?_;refine qcf cm A ?_;refine wsr fun _ cn=>?_;rcases tf ((t.d.k==11))with ay|ay
          ·have ay':=gr ay;refine sdc A qe ay λA=>?_;refine sda A λA=>?_;refine qct cn A ?_;refine wsr fun _ eu=>sdf A 8 vg λA=>?_;refine sdl A M o99 0 λA=>?_;refine sdo (v:=.string (⟨(([35,60])++t.d.s.data.toList).toArray⟩)) A (qb rfl rfl (zua (a:=[35,60]) (s:=t.d.s) (by first|omega|(simp only[fv,fw,fx]; omega)))) λA=>?_;refine sdo (v:=.string (⟨((([35,60])++t.d.s.data.toList)++([62])).toArray⟩)) A (qb rfl rfl (ql (a:=([35,60])++t.d.s.data.toList) (b:=[62]) (by first|omega|(simp only[fv,fw,fx]; omega)))) λA=>?_;refine sda A λA=>?_;refine qr1 eu hret A ?_;exact⟨by
            rw[show wrT (!mk) t.tr=(([35,60])++t.d.s.data.toList)++([62])from by
             rw[ku (by omega) (by omega)];unfold vd;repeat (first|rw[gj (by omega)]|rw[f7 (by omega)])
             try rfl],M.bel⟩
          ·have ay':=f6 ay;refine sdc A qe ay λA=>?_;refine sda A λA=>?_;refine qcf cn A ?_;refine wp_skip (fk _ _ (wsk fun _ ew=>?_));have h8:t.d.k=8:=(by omega);have l2t:=(jf gt).1.h8 h8;obtain⟨q0,bq0,oq0,iq0,mq0,rq0_,lq0,Hq0⟩:=qeh ht (i:=0) (by omega);obtain⟨q1,bq1,oq1,iq1,mq1,rq1_,lq1,Hq1⟩:=qeh ht (i:=1) (by omega);refine wrl (jr (e:=30) (sz:=11) (m:=0) (vs:=[]) A M rfl rfl rfl (qg rfl (by kernel_rfl)) rfl rfl (.inl (by decide)) ?_);intro g81 _ M a A;refine sda A λA=>?_;refine qa (ew _ _ (wsr fun _ ez=>sdo A (qz M zv rfl 1 rfl (cs:=[iV t.d.k,iV t.d.n,bV t.d.y.q.b1,.slice t.d.y.o1 t.d.y.q.t1.length t.d.y.c1,.slice t.d.y.o2 t.d.y.q.q1.length t.d.y.c2,bV t.d.y.q.b2,.slice t.d.y.o3 t.d.y.q.t2.length t.d.y.c3,.slice t.d.y.o4 t.d.y.q.q2.length t.d.y.c4,.string t.d.s,.slice t.d.ro t.d.rl.length t.d.rc,.slice t.d.lo t.ts.length t.d.lc]) rfl rfl) λA=>?_));refine zj (vs:=zD) (t:=30) A M rfl rfl rfl pg (qm (z:=.agg zD.toArray) (by kernel_rfl) rfl) (by decide) ?_;intro g84 _ M a A;refine qt A M rfl rfl (qj rfl rfl rfl (by kernel_rfl) M 0 rfl rfl rfl) 0 rfl rfl rfl ?_;intro fq M;refine qwk ez fun _ e6=>wp_block ?_;replace M:Mg w fq (.obj g84 (.cells (t.d.cells t.ts.length).toArray 30)::.row 30 11 (.slice (aO g81) 0 0) 0 ([])::[]):=by
            have h9:=M.sub (cC (cC (cN (.refl _))));exact h9
           refine zg (fun m_ a w1=>∃(us:List Dt) (p:Dt) (so:Option Addr) (ca:Nat),m_=1+p.tr.bulk∧(SpU w (!mk) t q0 q1 us p)∧Sl a 156 [(0,.agg (t.d.cells t.ts.length).toArray),(1,bV mk),(2,pA g2 0),(4,.string (⟨#[]⟩)),(9,.slice so us.length ca),(10,pA g84 0),(12,pA g2 0),(13,iV t.d.k),(14,bV false),(15,bV false),(16,bV false),(17,bV false),(21,bV false),(22,bV false),(30,bV false),(31,bV false),(40,bV false),(41,bV false),(48,bV false),(49,bV false),(56,bV false),(57,bV false),(81,bV false),(82,bV false),(89,bV false),(90,bV false),(91,bV false),(92,bV false),(97,.slice (aO g81) 0 0),(98,.agg (t.d.cells t.ts.length).toArray)]∧Mg w w1 (.obj g84 (.cells (p.d.cells p.ts.length).toArray 30)::.row 30 11 (.slice so us.length ca) us.length ((dtC us))::[])) _ ⟨[],t,some ⟨g81,0,none⟩,0,rfl,(.start ht gt),A.keep _ (by repeat' constructor),M⟩ ?_;clear M A;rintro m_ a _ ⟨us,p,so,ca,rfl,bq,A,M⟩ _ e7;have S:=bq;have hbk:=S.bk;have hpb:=zca (t:=p);refine wsk fun _ fa=>wsr fun _ co=>sdf A 0 xk λA=>?_;refine sdl A M o93 0 λA=>?_;rcases tf ((p.d.k==8))with aa|aa
           ·have aa':=gr aa;refine sdc A qe aa λA=>?_;refine qct co A ?_;refine wp_skip (fa _ _ (wp_block (wsk fun _ fd=>?_)));have l2p:=(jf S.gd).1.h8 aa';obtain⟨p0,bp0,op0,ip0,mp0,rp0_,lp0,Hp0⟩:=qeh S.rd (i:=0) (by omega);obtain⟨p1,bp1,op1,ip1,mp1,rp1_,lp1,Hp1⟩:=qeh S.rd (i:=1) (by omega);have hbp:=qki l2p ip0 ip1;refine wrl (sdm A λA=>?_);refine sdf A 10 jz λA=>?_;refine sdl A M ke 0 λA=>?_;refine sdo (v:=pA bp0 (op0+0*11)) A (qk (k:=0) f9 (by kernel_rfl) rfl rfl rfl lp0 (by omega)) λA=>?_;refine sdo A (zp M Hp0 zv rfl rfl) λA=>?_;refine jr (e:=30) (sz:=11) (m:=1) (vs:=[iV p0.d.k,iV p0.d.n,bV p0.d.y.q.b1,.slice p0.d.y.o1 p0.d.y.q.t1.length p0.d.y.c1,.slice p0.d.y.o2 p0.d.y.q.q1.length p0.d.y.c2,bV p0.d.y.q.b2,.slice p0.d.y.o3 p0.d.y.q.t2.length p0.d.y.c3,.slice p0.d.y.o4 p0.d.y.q.q2.length p0.d.y.c4,.string p0.d.s,.slice p0.d.ro p0.d.rl.length p0.d.rc,.slice p0.d.lo p0.ts.length p0.d.lc]) A M rfl rfl rfl (qg rfl (by kernel_rfl)) rfl rfl (.inl (by decide)) ?_;intro g95 _ M a A;refine xd (e:=30) (sz:=11) (k:=2) (q:=us.length) (m:=1) (xs:=(dtC us)) (news:=[iV p0.d.k,iV p0.d.n,bV p0.d.y.q.b1,.slice p0.d.y.o1 p0.d.y.q.t1.length p0.d.y.c1,.slice p0.d.y.o2 p0.d.y.q.q1.length p0.d.y.c2,bV p0.d.y.q.b2,.slice p0.d.y.o3 p0.d.y.q.t2.length p0.d.y.c3,.slice p0.d.y.o4 p0.d.y.q.q2.length p0.d.y.c4,.string p0.d.s,.slice p0.d.ro p0.d.rl.length p0.d.rc,.slice p0.d.lo p0.ts.length p0.d.lc]) A rfl rfl rfl (qjj (z:=.agg #[iV 0,iV 0,bV false,.slice none 0 0,.slice none 0 0,bV false,.slice none 0 0,.slice none 0 0,.string ⟨#[]⟩,.slice none 0 0,.slice none 0 0]) (sz:=11) (by_:=192) f9 (by kernel_rfl) rfl rfl rfl M 2 rfl rfl 0 rfl rfl rfl rfl (by omega)) (fun _=>rfl) ?_;intro ft _ M a A;refine sda A λA=>?_;refine qa (fd _ _ (wrl (sdf A 10 jz λA=>?_)));refine sdl A M ke 1 λA=>?_
            refine sdo (v:=pA bp1 (op1+1*11)) A (qk (k:=1) f9 (by kernel_rfl) rfl rfl rfl lp1 (by omega)) λA=>?_;refine sdo A (zp M Hp1 zv rfl rfl) λA=>?_;refine qt A M rfl rfl (qj rfl rfl rfl (by kernel_rfl) M 1 rfl rfl rfl) 1 rfl rfl rfl ?_;intro fu M;refine qa ?_;replace M:Mg w fu (.obj g84 (.cells (p1.d.cells p1.ts.length).toArray 30)::.row 30 11 (ft) ((us++[p0]).length) ((dtC (us++[p0])))::[]):=by
             have h9:=M.sub (cN (cC (cC (.refl _))));rw[jvc,fv];exact h9
            obtain⟨cp,cq,rfl⟩:=qjc (M.has 1 rfl);refine e7 _ _ _ (by omega) ⟨us++[p0],p1,cp,cq,rfl,(S.go iq0 iq1 aa' l2p ip0 ip1 rp0_ rp1_ ((jf S.gd).2.2 _ mp0) ((jf S.gd).2.2 _ mp1)),A.keep _ (by repeat' constructor),M⟩
           ·have aa':=f6 aa;refine sdc A qe aa λA=>?_;refine qcf co A ?_;refine wp_exit (e6 _ _ (wsk fun fe cr=>?_));have az:∀a w1,(((isQ q0.tr&&qtT q1.tr)=false)∧Sl a 156 [(0,.agg (t.d.cells t.ts.length).toArray),(1,bV mk),(2,pA g2 0),(9,.slice so us.length ca),(10,pA g84 0),(12,pA g2 0),(13,iV t.d.k),(14,bV false),(15,bV false),(16,bV false),(17,bV false),(21,bV false),(22,bV false),(30,bV false),(31,bV false),(40,bV false),(41,bV false),(48,bV false),(49,bV false),(56,bV false),(57,bV false),(81,bV false),(82,bV false),(89,bV false),(90,bV false),(91,bV false),(92,bV false),(97,.slice (aO g81) 0 0),(98,.agg (t.d.cells t.ts.length).toArray),(99,pA g84 0),(100,iV p.d.k),(101,bV false)]∧Mg w w1 (.obj g84 (.cells (p.d.cells p.ts.length).toArray 30)::.row 30 11 (.slice so us.length ca) us.length ((dtC us))::[]))→fe a w1:=by
             clear A M;rintro a _ ⟨cw,A,M⟩;have fh:=cw;refine cr _ _ (wsk fun _ cx=>?_);have hu0:us.length≠0:=fun e=>aa' (by rw[S.z e]; exact h8);refine wrl ?_;iterate 2 refine sdm A λA=>?_
             refine sct A ec (zuc ih (ts:=us) (mk:=mk) (xjc M 1 rfl rfl) (fun c hc=>Dt.keep M.bel _ (S.ur c hc)) S.ug (by omega) (by omega) (by omega)) ?_;rintro _ _ ⟨rfl,cy⟩;have hwl:=zmj (!mk) true (us.map Dt.tr) (fun x hx=>by obtain⟨c,hc,rfl⟩:=List.mem_map.1 hx; exact(qfi _ _ (S.ug c hc)).1);replace M:=M.call cy;refine⟨_,rfl,?_⟩;intro a A;refine sdo (v:=.string (⟨(([40])++(wrL (!mk) true (us.map Dt.tr))).toArray⟩)) A (qb rfl rfl (ql (a:=[40]) (b:=wrL (!mk) true (us.map Dt.tr)) (by first|omega|(simp only[fv,fw,fx]; omega)))) λA=>?_;refine sda A λA=>?_;refine qa (cx _ _ (wsk fun _ bf=>wsr fun _ bg=>sdf A 0 xk λA=>?_));refine sdl A M o93 0 λA=>?_;rcases tf ((p.d.k != 1))with af|af
             ·have af':=iy.1 af;refine sdc A zh af λA=>?_;refine qct bg A ?_;refine wrl (sdm A λA=>?_);refine sdo A (qz M zv rfl 0 rfl (cs:=[iV p.d.k,iV p.d.n,bV p.d.y.q.b1,.slice p.d.y.o1 p.d.y.q.t1.length p.d.y.c1,.slice p.d.y.o2 p.d.y.q.q1.length p.d.y.c2,bV p.d.y.q.b2,.slice p.d.y.o3 p.d.y.q.t2.length p.d.y.c3,.slice p.d.y.o4 p.d.y.q.q2.length p.d.y.c4,.string p.d.s,.slice p.d.ro p.d.rl.length p.d.rc,.slice p.d.lo p.ts.length p.d.lc]) rfl rfl) λA=>?_;refine sdm A λA=>?_;refine sct A ec (ih (t:=p) (mk:=mk) (by omega) (Dt.keep M.bel _ S.rd) S.gd (by omega)) ?_;rintro _ _ ⟨rfl,cz⟩;have hwrp:=(qfi (!mk) p.tr S.gd).1;replace M:=M.call cz;refine⟨_,rfl,?_⟩;intro a A;refine sdo (v:=.string (⟨(([32,46,32])++(wrT (!mk) p.tr)).toArray⟩)) A (qb rfl rfl (ql (a:=[32,46,32]) (b:=wrT (!mk) p.tr) (by first|omega|(simp only[fv,fw,fx]; omega)))) λA=>?_;refine sdo (v:=.string (⟨((([40])++(wrL (!mk) true (us.map Dt.tr)))++(([32,46,32])++(wrT (!mk) p.tr))).toArray⟩)) A (qb rfl rfl (ql (a:=([40])++(wrL (!mk) true (us.map Dt.tr))) (b:=([32,46,32])++(wrT (!mk) p.tr)) (by first|omega|(simp only[fv,fw,fx]; omega)))) λA=>?_;refine sda A λA=>?_;refine qwr bf fun _ db=>sdm A λA=>?_;refine sdo (v:=.string (⟨(((([40])++(wrL (!mk) true (us.map Dt.tr)))++(([32,46,32])++(wrT (!mk) p.tr)))++([41])).toArray⟩)) A (qb rfl rfl (ql (a:=(([40])++(wrL (!mk) true (us.map Dt.tr)))++(([32,46,32])++(wrT (!mk) p.tr))) (b:=[41]) (by first|omega|(simp only[fv,fw,fx]; omega)))) λA=>?_;refine sda A λA=>?_;refine qr1 db hret A ?_;exact⟨by rw[show wrT (!mk) t.tr=((([40])++(wrL (!mk) true (us.map Dt.tr)))++(([32,46,32])++(wrT (!mk) p.tr)))++([41])from by
               rw[S.list h8 l2t iq0 iq1 aa' fh,jtg aa' (by omega)];simp only[f4,gh,gq,f8]],M.bel⟩
             ·have af':=ie.1 af;refine sdc A zh af λA=>?_;refine qcf bg A ?_;refine wp_skip (bf _ _ (wsr fun _ dd=>sdm A λA=>?_));refine sdo (v:=.string (⟨((([40])++(wrL (!mk) true (us.map Dt.tr)))++([41])).toArray⟩)) A (qb rfl rfl (ql (a:=([40])++(wrL (!mk) true (us.map Dt.tr))) (b:=[41]) (by first|omega|(simp only[fv,fw,fx]; omega)))) λA=>?_;refine sda A λA=>?_;refine qr1 dd hret A ?_;exact⟨by rw[show wrT (!mk) t.tr=(([40])++(wrL (!mk) true (us.map Dt.tr)))++([41])from by
               rw[S.list h8 l2t iq0 iq1 aa' fh,jtf (by omega)];simp only[f4,gh,gq,f8]],M.bel⟩
            refine wsk fun _ ah=>?_;have hu0:us.length≠0:=fun e=>aa' (by rw[S.z e]; exact h8);refine wrl (sdm A λA=>?_);refine sdo A (qr f9 rfl) λA=>?_;rcases tf ((((us.length:Nat):Int)==2))with ag|ag
            ·have ag':=gr ag;refine sdc A qe ag λA=>?_;refine sdm A λA=>?_;refine sdf A 0 xk λA=>?_;refine sdl A M o93 0 λA=>?_;rcases tf ((p.d.k==1))with ab|ab
             ·have ab':=gr ab;refine sdc A qe ab λA=>?_;refine sdk (v:=bV true) A λA=>?_;iterate 2 refine sdm A λA=>?_
              obtain⟨gu,hgu⟩:=qpg M 1 rfl (by omega);obtain⟨c0,hu2,_,hts2⟩:=S.o2 (by omega);refine sdo (v:=pA gu (0*11)) A (jn (k:=0) f9 (by kernel_rfl) rfl rfl rfl hgu (show 0<us.length by omega)) λA=>?_;refine sdo (v:=pA gu (0*11+0)) A (qp xk rfl rfl) λA=>?_;refine sdo A (vv (j:=0*11+0) M 1 rfl hgu (by rw[hu2]; rfl) o93 rfl) λA=>?_;rcases tf ((q0.d.k==6))with ac|ac
              ·have ac':=gr ac;refine sdc A qe ac λA=>?_;refine sdk (v:=bV true) A λA=>?_;iterate 2 refine sdm A λA=>?_
               refine sdo (v:=pA gu (0*11)) A (jn (k:=0) f9 (by kernel_rfl) rfl rfl rfl hgu (show 0<us.length by omega)) λA=>?_;refine sdo (v:=pA gu (0*11+8)) A (qp vg rfl rfl) λA=>?_;refine sdo A (vv (j:=0*11+8) M 1 rfl hgu (by rw[hu2]; rfl) o99 rfl) λA=>?_;rcases tf (decide (q0.d.s=⟨#[113,117,111,116,101]⟩))with ae|ae
               ·have ae':=f5 ae;refine sdo (v:=bV true) A (qb rfl rfl (fun w=>(je gi w).trans (by rw[ae]<;>rfl))) λA=>?_;refine sdk (v:=bV true) A λA=>?_;refine qct ah A ?_;refine wsr fun _ de=>sdm A λA=>?_;refine sdo (v:=pA gu (1*11)) A (jn (k:=1) f9 (by kernel_rfl) rfl rfl rfl hgu (show 1<us.length by omega)) λA=>?_;refine sdo A (jqf (o:=1*11) M 1 rfl hgu zv (by rw[hu2]) rfl rfl) λA=>?_;refine sdm A λA=>?_;refine sct A ec (ih (t:=c0) (mk:=mk) (by have:=qga (hu2▸ix _ iw:c0∈us); omega) (Dt.keep M.bel _ (S.ur c0 (hu2▸ix _ iw))) (S.ug c0 (hu2▸ix _ iw)) (by have:=qga (hu2▸ix _ iw:c0∈us); omega)) ?_;rintro _ _ ⟨rfl,df⟩;have hwrc0:=(qfi (!mk) c0.tr (S.ug c0 (hu2▸ix _ iw))).1;have hbc0:=qga (hu2▸ix _ iw:c0∈us);replace M:=M.call df;refine⟨_,rfl,?_⟩;intro a A;refine sdo (v:=.string (⟨(([39])++(wrT (!mk) c0.tr)).toArray⟩)) A (qb rfl rfl (ql (a:=[39]) (b:=wrT (!mk) c0.tr) (by first|omega|(simp only[fv,fw,fx]; omega)))) λA=>?_;refine sda A λA=>?_;refine qr1 de hret A ?_;exact⟨by rw[S.quote h8 l2t iq0 iq1 hu2 ab' (by rw[qsf,gv ac',gv ae']; rfl)],M.bel⟩
               ·have ae':=fy ae;refine sdo (v:=bV false) A (qb rfl rfl (fun w=>(je gi w).trans (by rw[ae]<;>rfl))) λA=>?_;refine sdk (v:=bV false) A λA=>?_;refine qcf ah A ?_;refine wp_skip ?_;exact az _ _ ⟨(S.no h8 aa' (.inr (.inr (by rw[qsf,gn ae',Bool.and_false])))),A.keep _ (by repeat' constructor),M⟩
              ·have ac':=f6 ac;refine sdc A qe ac λA=>?_;refine sdk (v:=bV false) A λA=>?_;refine sdm A λA=>?_;iterate 5 refine sks A λA=>?_
               refine sdk (v:=bV false) A λA=>?_;refine qcf ah A ?_;refine wp_skip ?_;exact az _ _ ⟨(S.no h8 aa' (.inr (.inr (by rw[qsf,gn ac',Bool.false_and])))),A.keep _ (by repeat' constructor),M⟩
             ·have ab':=f6 ab;refine sdc A qe ab λA=>?_;refine sdk (v:=bV false) A λA=>?_;refine sdm A λA=>?_;iterate 5 refine sks A λA=>?_
              refine sdk (v:=bV false) A λA=>?_;refine sdm A λA=>?_;iterate 5 refine sks A λA=>?_
              refine sdk (v:=bV false) A λA=>?_;refine qcf ah A ?_;refine wp_skip ?_;exact az _ _ ⟨(S.no h8 aa' (.inr (.inl ab'))),A.keep _ (by repeat' constructor),M⟩
            ·have ag':=f6 ag;refine sdc A qe ag λA=>?_;refine sdm A λA=>?_;iterate 3 refine sks A λA=>?_
             refine sdk (v:=bV false) A λA=>?_;refine sdm A λA=>?_;iterate 5 refine sks A λA=>?_
             refine sdk (v:=bV false) A λA=>?_;refine sdm A λA=>?_;iterate 5 refine sks A λA=>?_
             refine sdk (v:=bV false) A λA=>?_;refine qcf ah A ?_;refine wp_skip ?_;exact az _ _ ⟨(S.no h8 aa' (.inl (by omega))),A.keep _ (by repeat' constructor),M⟩
theorem zhg: ∀n,Tells n
 | 0 => fun h => absurd h (j4 _)
 | n + 1 => jbc (zhg n)
theorem zhh{w:World}{t:Dt}(ht:t.rd w)(hmax:t.tr.bulk≤1048576)(mk:Bool):Calls Tryz.prog 43 #[.agg (t.d.cells t.ts.length).toArray,bV mk] w (RB w (.tuple #[.string ⟨(wrA (!mk) t.tr).1.toArray⟩,iV (wrA (!mk) t.tr).2])):=by
 have M:=Mg.start w;refine wof Tryz.func43 Tryz.ntmps43 fun Q hret hnorm hP a A=>?_;refine wsr fun _ ae=>zj (vs:=[iV t.d.k,iV t.d.n,bV t.d.y.q.b1,.slice t.d.y.o1 t.d.y.q.t1.length t.d.y.c1,.slice t.d.y.o2 t.d.y.q.q1.length t.d.y.c2,bV t.d.y.q.b2,.slice t.d.y.o3 t.d.y.q.t2.length t.d.y.c3,.slice t.d.y.o4 t.d.y.q.q2.length t.d.y.c4,.string t.d.s,.slice t.d.ro t.d.rl.length t.d.rc,.slice t.d.lo t.ts.length t.d.lc]) (t:=30) A M rfl rfl rfl pg (qx rfl rfl) (by decide) ?_;intro g2 _ M a A;iterate 2 refine sda A λA=>?_
 refine qa (ae _ _ (wsk fun K4 af=>wsr fun _ ac=>sdo A (qz M zv rfl 0 rfl (cs:=[iV t.d.k,iV t.d.n,bV t.d.y.q.b1,.slice t.d.y.o1 t.d.y.q.t1.length t.d.y.c1,.slice t.d.y.o2 t.d.y.q.q1.length t.d.y.c2,bV t.d.y.q.b2,.slice t.d.y.o3 t.d.y.q.t2.length t.d.y.c3,.slice t.d.y.o4 t.d.y.q.q2.length t.d.y.c4,.string t.d.s,.slice t.d.ro t.d.rl.length t.d.rc,.slice t.d.lo t.ts.length t.d.lc]) rfl rfl) λA=>?_));rcases tf (qs qh t.tr)with aa|aa
 ·refine gcl A M ec ((aa▸rsound_any (t:=t) (Dt.keep M.bel _ ht) (by omega))) fun _ _ M a A=>?_;refine sdu A λA=>?_;refine qcf ac A ?_;refine wp_skip (af _ _ (wsr fun _ ag=>sdo A (qz M zv rfl 0 rfl (cs:=[iV t.d.k,iV t.d.n,bV t.d.y.q.b1,.slice t.d.y.o1 t.d.y.q.t1.length t.d.y.c1,.slice t.d.y.o2 t.d.y.q.q1.length t.d.y.c2,bV t.d.y.q.b2,.slice t.d.y.o3 t.d.y.q.t2.length t.d.y.c3,.slice t.d.y.o4 t.d.y.q.q2.length t.d.y.c4,.string t.d.s,.slice t.d.ro t.d.rl.length t.d.rc,.slice t.d.lo t.ts.length t.d.lc]) rfl rfl) λA=>?_));refine sdm A λA=>?_;refine gcl A M ec (zhg (t.tr.bulk+1) (mk:=mk) (Nat.lt_succ_self _) (Dt.keep M.bel _ ht) (qvc ht aa) hmax) fun _ _ M a A=>?_;iterate 2 refine sda A λA=>?_
  refine qa (ag _ _ (wp_ret (hret _ _ (en2 A rfl (qf rfl) (qf rfl) ?_))));exact⟨by rw[qjg aa]<;>rfl,M.bel⟩
 ·refine gcl A M ec ((aa▸rsound_any (t:=t) (Dt.keep M.bel _ ht) (by omega))) fun _ _ M a A=>?_;refine sdu A λA=>?_;refine qct ac A ?_;refine wsr fun _ ab=>?_;iterate 2 refine sda A λA=>?_
  refine qa (ab _ _ (wp_ret (hret _ _ (en2 A rfl (qf rfl) (qf rfl) ?_))));exact⟨by rw[jue aa]<;>rfl,M.bel⟩
theorem jbd{ts:List Tr}(h:∀t∈ts,∀d e:Int,d≤e→qac e t=true→qac d t=true){d e:Int}(hd:d≤e)(pr:Bool):∀i,qii e pr i ts=true→qii d pr i ts=true:=by
 induction ts with
 | nil => intro i _; rfl
 | cons t ts ih =>
  intro i h2;rw[qii,ig]at h2 ⊢;refine⟨h t (iw ..) _ _ ?_ h2.1,ih (fun u hu=>h u (ix _ hu)) (i+1) h2.2⟩
  split<;>omega
theorem zud{x:Tr}:∀{xs:List Tr},x∈xs→qda x≤kf xs
 | y :: ys, h => by
  rw[kf];rcases ik.1 h with rfl|h
  ·omega
  ·have:=zud h; omega
theorem jkj: ∀t:Tr,∀d e:Int,d≤e→qac e t=true→qac d t=true:=by
 refine Tr.indT fun k n q s rl ts ih d e hd h=>?_;rw[qac,ig]at h ⊢;exact⟨gv (by have:=f5 h.1; omega),jbd ih hd _ _ h.2⟩
theorem zcf{t:Tr}{xs:List Tr}(h:js t=some xs)(hs:qs qh t=true):∀x∈xs,qs qh x=true:=fun x hx=>by
 rw[qif h,qme]at hs;have:=zud hx;exact(qzf x).2 ⟨jkj x 1 2 (by decide) (j3.1 hs.1.1 x hx),by have:=hs.2.1; omega,j3.1 hs.2.2.1 x hx⟩
theorem zcg{ks:List (Int×List Tr)}{t:Int}{d:Tr}(h:flT ks t=some d):∃k∈ks,yn k.1 t=true∧d∈k.2∧k.2[0]?=some d:=by
 unfold flT at h
 split at h
 ·rename_i h0;unfold fdI at h h0;obtain⟨k,h1,h2⟩:=jmg h0;rw[h1]at h;have h3:k.2[0]?=some d:=h;exact⟨k,List.mem_of_getElem? h1,h2,List.mem_of_getElem? h3,h3⟩
 ·cases h
theorem zch{ks:List (Int×List Tr)}(hck:ckC ks=0){t:Int}{d:Tr}(h:flT ks t=some d):qs qh d=true:=by
 obtain⟨k,hk,-,hd,-⟩:=zcg h;exact j3.1 (zka ((zjj hck).2 k hk)).2.2 d hd
theorem itm{t x:Tr}(h:x∈(qfc t).1):∃xs,js t=some xs∧qs qh t=true∧x∈xs∧(qfc t).1=xs:=by
 by_cases hs:qs qh t=true
 ·cases ha:js t with
  | none => rw [qmf hs ha] at h; cases h
  | some xs => rw [qhb hs ha] at h ⊢; exact ⟨xs, rfl, hs, h, rfl⟩
 ·rw[qrb (by simpa using hs)]at h; cases h
theorem qsj{ks:List (Int×List Tr)}{x:Tr}(h:x∈irT ks):∃t xs,flT ks 7=some t∧js t=some xs∧qs qh t=true∧x∈xs∧irT ks=xs:=by
 cases hf:flT ks 7 with
 | none => unfold irT at h; rw [hf] at h; cases h
 | some t =>
  have e:irT ks=(qfc t).1:=by unfold irT; rw[hf]
  rw[e]at h;obtain⟨xs,h1,h2,h3,h4⟩:=itm h;exact⟨t,xs,rfl,h1,h2,h3,e.trans h4⟩
theorem zci: ∀{xs:List Tr} {l:Tr},(zy xs l).good→∀x∈xs,x.good
 | [], _, _, x, hx => by cases hx
 | y :: ys, l, h, x, hx => by
  have h9:=(qvb.1 (show(Tr.mk 8 0 Q6.zero ⟨#[]⟩ [] [y,zy ys l]).good from h)).2.2;rcases ik.1 hx with rfl|hx
  ·exact h9 _ (iw ..)
  ·exact zci (h9 (zy ys l) (by simp)) x hx
theorem jfd{w:World}{so:Option Addr}{ps:List Sp}(hPs:PR w so ps)(hck:ckC (ps.map Sp.k)=0){t:Int}{d:Tr}(h:flT (ps.map Sp.k) t=some d):d.good:=by
 obtain⟨k,hk,-,hd,-⟩:=zcg h;obtain⟨p,hp,rfl⟩:=List.mem_map.1 hk;obtain⟨u,hu,rfl⟩:=List.mem_map.1 (show d∈p.vs.map Dt.tr from hd);exact qvc ((hPs.own p hp).d u hu) (zch hck h)
theorem xei{g:Tr→List UInt8}:∀l:List Tr,(∀x∈l,(g x).length+16≤64*x.bulk)→(l.flatMap fun t=>[32]++g t).length≤64*Tr.bulks l
 | [], _ => ii _
 | x :: xs, h => by
  have h1:=h x (iw ..);have h2:=xei xs fun y hy=>h y (ix _ hy);rw[ij,fv,show Tr.bulks (x::xs)=x.bulk+Tr.bulks xs from rfl,fv];simp only[fw,fx];omega
def SmallC(ks:List (Int×List Tr)):Prop:=(∀t,(flT ks 8=some t∨flT ks 1=some t)→t.bulk≤1048576)∧(∀x∈irT ks,x.bulk≤1048576)∧Tr.bulks (irT ks)≤3000000
theorem zue{w:World}{so:Option Addr}{ps:List Sp}(hPs:PR w so ps)(hck:ckC (ps.map Sp.k)=0)(hW:SmallC (ps.map Sp.k)):(tlS (wrT true) (wrT false) (ps.map Sp.k)).length≤1000000000:=by
 have h0:(nmL (hdT (ps.map Sp.k))).length≤100:=by unfold nmL; rw[zm]; exact qpd (zgd hck)
 have key:∀(t:Int) (l:List UInt8),l.length≤4→(t=8∨t=1)→(opT (flT (ps.map Sp.k) t) fun t=>l++wrT true t).length≤100000000:=fun t l hl ht=>by
  cases hf:flT (ps.map Sp.k) t with
  | none => exact ii _
  | some d =>
   have h1:=(qfi true d (jfd hPs hck hf)).1;have h2:=hW.1 d (by rcases ht with rfl|rfl; exact .inl hf; exact .inr hf);show(l++wrT true d).length≤_;rw[fv];omega
 have h8:=key 8 [32,105,110,32] (by decide) (.inl rfl);have h1:=key 1 [58,32] (by decide) (.inr rfl);have h7:=xei (g:=wrT false) (irT (ps.map Sp.k)) (fun x hx=>by
  obtain⟨t,xs,hf,ha,hs,aa,-⟩:=qsj hx;exact(qfi false x (zci (by rw[←qif ha]; exact jfd hPs hck hf) x aa)).1)
 have h9:=hW.2.2;unfold tlS;rw[fv,fv,fv];omega
noncomputable def tlA(ks:List (Int×List Tr)):ByteArray×Int:=if ckC ks=0 then(⟨(tlS (wrT true) (wrT false) ks).toArray⟩,0)else(⟨#[]⟩,ckC ks)
section
variable {w:World} {so:Option Addr} {ca:Nat} {ps:List Sp}
theorem zhi(hPs:PR w so ps)(hl:ps.length≤1000000000)(hB:∀p∈ps,Tr.bulks (p.vs.map Dt.tr)≤3000000)(hW:SmallC (ps.map Sp.k))(hT:Tabs8 w)(hz:C.Tz16 w)(htp:C.Tp10 w):Calls Tryz.prog 7 #[.slice so ps.length ca] w (RB w (.tuple #[.string (tlA (ps.map Sp.k)).1,iV (tlA (ps.map Sp.k)).2])):=by
 have hPB:PB ps:=fun p hp=>gz (hB p hp) (by decide);by_cases hck:ckC (ps.map Sp.k)=0
 ·have:=jee (ca:=ca) hPs hl hck hPB hT (f:=wrT true) (g:=wrT false) (fun d w1 hd hm hor hbw=>by
   have h9:=quc (t:=d) (Dt.keep hbw _ hd) (hT.below hbw) (vq hz hbw) (htp.below hbw) (hW.1 _ hor);rw[qjg (hor.elim (zch hck) (zch hck))]at h9;exact h9) (fun d w1 hd hm hbw=>by
   have h9:=jkd (t:=d) hd (hT.below hbw) (vq hz hbw) (htp.below hbw) (hW.2.1 _ hm);obtain⟨t,xs,hf,ha,hs,aa,-⟩:=qsj hm;rw[qjg (zcf ha hs _ aa)]at h9;exact h9) (zue hPs hck hW)
  unfold tlA;rw[gj hck];exact this
 ·have:=joi (ca:=ca) hPs hl hck hPB hT;unfold tlA;rw[f7 hck];exact this
theorem zcj(hPs:PR w so ps)(hl:ps.length≤1000000000)(hB:∀p∈ps,Tr.bulks (p.vs.map Dt.tr)≤3000000)(hW:SmallC (ps.map Sp.k)):Calls Tryz.prog 8 #[.slice so ps.length ca] w (RB w (.tuple #[.string (tlA (ps.map Sp.k)).1,iV (tlA (ps.map Sp.k)).2])):=by
 by_cases hck:ckC (ps.map Sp.k)=0
 ·have:=jrf (ca:=ca) hPs hl hck hB (f:=wrT true) (g:=wrT false) (fun d w1 hd hm hor=>by
   have h9:=zhh (t:=d) hd (hW.1 _ hor) false;rw[show(!false)=true from rfl,qjg (hor.elim (zch hck) (zch hck))]at h9;exact h9) (fun d w1 hd hm=>by
   have h9:=zhh (t:=d) hd (hW.2.1 _ hm) true;obtain⟨t,xs,hf,ha,hs,aa,-⟩:=qsj hm;rw[show(!true)=false from rfl,qjg (zcf ha hs _ aa)]at h9;exact h9) (zue hPs hck hW)
  unfold tlA;rw[gj hck];exact this
 ·have:=jif (ca:=ca) hPs hl hck hB;unfold tlA;rw[f7 hck];exact this
end
section
variable {a m:Tr} {is:List Tr} {v:Bool}
theorem jbe{k:Int×List Tr}(h:k∈(erS a m is v).1):k.2=[]∨k=(8,[a])∨k=(1,[m])∨(k=(7,[ofS is])∧qs qh (ofS is)=true):=by
 unfold erS at h
 split at h
 ·rename_i hs;rcases lk.1 h with h|h
  ·rcases ik.1 h with rfl|h
   ·left
    split<;>rfl
   ·split at h
    ·cases h
    ·exact .inr (.inl (iq.1 h))
  ·simp only[ik,List.not_mem_nil,or_false]at h;rcases h with rfl|rfl
   ·exact .inr (.inr (.inl rfl))
   ·exact .inr (.inr (.inr ⟨rfl,hs.2.2⟩))
 ·cases h
theorem jvf: (erS a m is v).1.length≤4:=by
 unfold erS
 split
 ·show(_::(if isF a=true then[]else[(8,[a])])++[(1,[m]),(7,[ofS is])]:List (Int×List Tr)).length≤4;rw[fv,fw]
  split
  ·show 0+1+2≤4; decide
  ·show 1+1+2≤4; decide
 ·exact ii _
theorem xej{t:Int}{d:Tr}(ht:t=8∨t=1)(h:flT (erS a m is v).1 t=some d):d=a∨d=m:=by
 obtain⟨k,hk,hu,-,h0⟩:=zcg h;rcases jbe hk with e|rfl|rfl|⟨rfl,-⟩
 ·rw[e]at h0; cases h0
 ·exact .inl (io h0).symm
 ·exact .inr (io h0).symm
 ·exfalso;rcases ht with rfl|rfl
  ·exact absurd (show yn 7 8=true from hu) (by decide +kernel)
  ·exact absurd (show yn 7 1=true from hu) (by decide +kernel)
theorem xfa{x:Tr}(h:x∈irT (erS a m is v).1):irT (erS a m is v).1=is:=by
 obtain⟨t,xs,hf,ha,hs,-,e⟩:=qsj h;obtain⟨k,hk,hu,-,h0⟩:=zcg hf;rcases jbe hk with e1|rfl|rfl|⟨rfl,h7⟩
 ·rw[e1]at h0; cases h0
 ·exact absurd (show yn 8 7=true from hu) (by decide +kernel)
 ·exact absurd (show yn 1 7=true from hu) (by decide +kernel)
 ·have h1:ofS is=t:=io h0;rw[←h1,(jgi h7).2,qie]at ha;rw[e,io ha]
theorem zuf(ha:a.bulk≤1048576)(hm:m.bulk≤1048576)(hi:Tr.bulks is≤1048576):SmallC (erS a m is v).1:=by
 refine⟨fun t ht=>?_,fun x hx=>?_,?_⟩
 ·rcases ht with h|h
  ·rcases xej (.inl rfl) h with rfl|rfl<;>assumption
  ·rcases xej (.inr rfl) h with rfl|rfl<;>assumption
 ·rw[xfa hx]at hx;exact gz (ul hx) hi
 ·cases e:irT (erS a m is v).1 with
  | nil => exact ii _
  | cons x l =>
   rw[←e,xfa (x:=x) (by rw[e]; exact iw ..)];omega
theorem zug(ha:a.bulk≤1048576)(hm:m.bulk≤1048576)(hi:Tr.bulks is≤1048576){cs:List Sp}(h:cs.map Sp.k=(erS a m is v).1):∀p∈cs,Tr.bulks (p.vs.map Dt.tr)≤3000000:=fun p hp=>by
 have hk:p.k∈(erS a m is v).1:=by rw[←h]; exact j5 hp
 show Tr.bulks p.k.2≤_;have h9:=jdj is;rcases jbe hk with e|e|e|⟨e,-⟩
 ·rw[e]; exact ii _
 ·rw[e]; show a.bulk+0≤_; omega
 ·rw[e]; show m.bulk+0≤_; omega
 ·rw[e]; show(ofS is).bulk+0≤_; omega
end
theorem xdd{ks:List (Int×List Tr)}(h:∀k∈ks,Tr.bulks k.2≤1048576):SmallC ks:=by
 have h1:∀t d,flT ks t=some d→d.bulk≤1048576:=fun t d hf=>by
  obtain⟨k,hk,-,hd,-⟩:=zcg hf;exact gz (ul hd) (h k hk)
 refine⟨fun t ht=>ht.elim (h1 _ _) (h1 _ _),fun x hx=>?_,?_⟩
 ·obtain⟨t,xs,hf,ha,-,aa,-⟩:=qsj hx;have h2:=h1 _ _ hf;have h3:=qij ha;have h4:=ul aa;omega
 ·cases e:irT ks with
  | nil => exact ii _
  | cons x l =>
   obtain⟨t,xs,hf,ha,-,-,e2⟩:=qsj (x:=x) (ks:=ks) (by rw[e]; exact iw ..);rw[←e,e2];have h2:=h1 _ _ hf;have h3:=qij ha;omega
theorem xlj: wrT true zrb=awF zrb:=by decide +kernel
theorem xma: wrT true noT=awF noT:=by decide +kernel
theorem jvg{w:World}{so:Option Addr}{ca:Nat}{cs:List Sp}(hPs:PR w so cs)(hcs:cs.map Sp.k=K4)(hT:Tabs8 w)(hz:C.Tz16 w)(htp:C.Tp10 w):Calls Tryz.prog 7 #[.slice so cs.length ca] w (RB w (.tuple #[.string ⟨#[97,115,115,101,114,116,105,111,110,32,105,110,32,99,97,114,58,32,110,111]⟩,iV 0])):=by
 have hlen:cs.length=4:=by have:=j9 List.length hcs; rw[gy]at this; exact this
 have hb:PB cs:=fun p hp=>xae p.k (hcs▸j5 hp);have:=jee (ca:=ca) (f:=awF) (g:=awG) hPs (by omega) (by rw[hcs]; exact xke) hb hT (fun d w1 hd _ hor hbw=>by
  rw[hcs,jpf,jpg]at hor;have key:d.tr.bulk≤1048576∧wrA true d.tr=(awF d.tr,0):=by
   rcases hor with h|h
   ·rw[←io h]; exact⟨by decide,by rw[qjg xec,xlj]⟩
   ·rw[←io h]; exact⟨by decide,by rw[qjg xkd,xma]⟩
  have h9:=quc (t:=d) (Dt.keep hbw _ hd) (hT.below hbw) (vq hz hbw) (htp.below hbw) key.1;rw[key.2]at h9;exact h9) (fun d w1 _ hm _=>by rw[hcs,xed]at hm; cases hm) (by rw[hcs,jeg]; decide)
 rw[hcs,jeg]at this;exact this
theorem jbf{w:World}(hT:Tabs8 w)(hz:C.Tz16 w)(htp:C.Tp10 w):Calls Tryz.prog 9 #[] w (RB w (bV true)):=by
 have M:=Mg.start w;refine wof Tryz.func9 Tryz.ntmps9 fun Q hret hnorm hP a A=>?_;refine wsr fun _ aa=>sda A λA=>?_;refine qa (aa _ _ (wsr fun _ ab=>sdo (v:=.agg (jhd.d.cells jhd.ts.length).toArray) A (qn rfl (fun w=>by kernel_rfl)) λA=>?_));refine sdo (v:=.agg (noD.d.cells noD.ts.length).toArray) A (qn rfl (fun w=>by kernel_rfl)) λA=>?_;refine sct A ec (xhg (hT.below M.bel)) ?_;rintro _ _ ⟨_,_,cs5,rfl,⟨ac,hP5⟩,ae⟩;replace M:=M.call ae;refine⟨_,rfl,?_⟩;intro a A;refine sdm A λA=>?_;iterate 2 refine sde A λA=>?_
 iterate 2 refine sda A λA=>?_
 refine qwr ab fun K4 af=>sdm A λA=>?_;refine gcl A M ec (jvg hP5 ac (hT.below M.bel) (vq hz M.bel) (htp.below M.bel)) fun _ _ M a A=>?_;refine sdm A λA=>?_;iterate 2 refine sde A λA=>?_
 iterate 2 refine sda A λA=>?_
 refine qwr af fun _ ag=>sdm A λA=>?_;refine sdo (v:=bV true) A dbK λA=>?_;iterate 2 refine sdm A λA=>?_
 refine sdo (v:=bV true) A dbK λA=>?_;refine sdk (v:=bV true) A λA=>?_;iterate 2 refine sdm A λA=>?_
 refine sdo (v:=bV true) A (qb rfl rfl (fun w=>(je gi w).trans (by rw[xkf]<;>rfl))) λA=>?_;refine sdk (v:=bV true) A λA=>?_;refine sda A λA=>?_;refine qr1 ag hret A ?_;exact⟨rfl,M.bel⟩
theorem zdi{w:World}{da dm:Dt}(hrda:da.rd w)(hrdm:dm.rd w){so2:Option Addr}{ca2:Nat}{is:List Dt}(hRi:Rt w so2 is)(hDi:∀t∈is,t.rd w)(hba:da.tr.bulk≤1048576)(hbm:dm.tr.bulk≤1048576)(hbi:Tr.bulks (is.map Dt.tr)≤1048576){v:Bool}{so:Option Addr}{ca:Nat}{ps:List Sp}(hPs:PR w so ps)(hl:ps.length≤1048576)(hB:∀p∈ps,Tr.bulks (p.vs.map Dt.tr)≤1048576)(hT:Tabs8 w)(hz:C.Tz16 w)(htp:C.Tp10 w):Calls Tryz.prog 3 #[.agg (da.d.cells da.ts.length).toArray,.agg (dm.d.cells dm.ts.length).toArray,.slice so2 is.length ca2,bV v,.slice so ps.length ca] w (RB w (bV true)):=by
 have hW:SmallC (ps.map Sp.k):=xdd fun k hk=>by obtain⟨p,hp,rfl⟩:=List.mem_map.1 hk; exact hB p hp
 have M:=Mg.start w;refine wof Tryz.func3 Tryz.ntmps3 fun Q hret hnorm hP a A=>?_;refine wsr fun _ av=>zj (vs:=(da.d.cells da.ts.length)) (t:=30) A M rfl rfl rfl pg (qx rfl rfl) (by decide) ?_;intro g2 _ M a A;refine zj (vs:=(dm.d.cells dm.ts.length)) (t:=30) A M rfl rfl rfl pg (qx rfl rfl) (by decide) ?_;intro g4 _ M a A;refine sda A λA=>?_;refine qa (av _ _ (wsr fun _ aw=>sdo A (qz M zv rfl 1 rfl (cs:=(da.d.cells da.ts.length)) rfl rfl) λA=>?_));refine sdo A (qz M zv rfl 0 rfl (cs:=(dm.d.cells dm.ts.length)) rfl rfl) λA=>?_;iterate 2 refine sdm A λA=>?_
 refine sct A ec (zga (Dt.keep M.bel _ hrda) (Dt.keep M.bel _ hrdm) (hRi.below M.bel) (fun t ht=>Dt.keep M.bel _ (hDi t ht)) (by omega) (by omega) (by omega) (hT.below M.bel)) ?_;rintro _ _ ⟨_,_,cs,ev3,rfl,⟨he3,hP3⟩,ax⟩;have ah:cs.map Sp.k=(erS da.tr dm.tr (is.map Dt.tr) v).1:=j9 Prod.fst he3;have hv3:ev3=(erS da.tr dm.tr (is.map Dt.tr) v).2:=j9 Prod.snd he3;have au:=zug hba hbm hbi ah;have hw3:SmallC (cs.map Sp.k):=by rw[ah]; exact zuf hba hbm hbi
 have hn3:cs.length≤4:=by have h9:=j9 List.length ah; rw[gy]at h9; rw[h9]; exact jvf
 replace M:=M.call ax;refine⟨_,rfl,?_⟩;intro a A;refine sdm A λA=>?_;iterate 2 refine sde A λA=>?_
 iterate 2 refine sda A λA=>?_
 refine qa (aw _ _ (wsr fun _ ay=>sdo A (qz M zv rfl 1 rfl (cs:=(da.d.cells da.ts.length)) rfl rfl) λA=>?_));refine sdo A (qz M zv rfl 0 rfl (cs:=(dm.d.cells dm.ts.length)) rfl rfl) λA=>?_;iterate 2 refine sdm A λA=>?_
 refine sct A ec (zyi (Dt.keep M.bel _ hrda) (Dt.keep M.bel _ hrdm) (hRi.below M.bel) (fun t ht=>Dt.keep M.bel _ (hDi t ht)) hba hbm hbi) ?_;rintro _ _ ⟨_,_,ds,ev4,rfl,⟨he4,hP4⟩,aj⟩;replace hP3:=hP3.below aj;have ai:ds.map Sp.k=(erS da.tr dm.tr (is.map Dt.tr) v).1:=j9 Prod.fst he4;have hv4:ev4=(erS da.tr dm.tr (is.map Dt.tr) v).2:=j9 Prod.snd he4;have az:=zug hba hbm hbi ai;have hw4:SmallC (ds.map Sp.k):=by rw[ai]; exact zuf hba hbm hbi
 have hn4:ds.length≤4:=by have h9:=j9 List.length ai; rw[gy]at h9; rw[h9]; exact jvf
 replace M:=M.call aj;refine⟨_,rfl,?_⟩;intro a A;refine sdm A λA=>?_;iterate 2 refine sde A λA=>?_
 iterate 2 refine sda A λA=>?_
 refine qwr ay fun _ ak=>sdm A λA=>?_;refine sct A ec (zhi (hPs.below M.bel) (by omega) (fun p hp=>gz (hB p hp) (by decide)) hW (hT.below M.bel) (vq hz M.bel) (htp.below M.bel)) ?_;rintro _ _ ⟨rfl,aa⟩;replace hP3:=hP3.below aa;replace hP4:=hP4.below aa;replace M:=M.call aa;refine⟨_,rfl,?_⟩;intro a A;refine sdm A λA=>?_;iterate 2 refine sde A λA=>?_
 iterate 2 refine sda A λA=>?_
 refine qwr ak fun _ am=>sdm A λA=>?_;refine sct A ec (zcj (hPs.below M.bel) (by omega) (fun p hp=>gz (hB p hp) (by decide)) hW) ?_;rintro _ _ ⟨rfl,ab⟩;replace hP3:=hP3.below ab;replace hP4:=hP4.below ab;replace M:=M.call ab;refine⟨_,rfl,?_⟩;intro a A;refine sdm A λA=>?_;iterate 2 refine sde A λA=>?_
 iterate 2 refine sda A λA=>?_
 refine qwr am fun _ ap=>sdm A λA=>?_;refine sct A ec (zhi hP3 (by omega) au hw3 (hT.below M.bel) (vq hz M.bel) (htp.below M.bel)) ?_;rintro _ _ ⟨rfl,ac⟩;replace hP3:=hP3.below ac;replace hP4:=hP4.below ac;replace M:=M.call ac;refine⟨_,rfl,?_⟩;intro a A;refine sdm A λA=>?_;iterate 2 refine sde A λA=>?_
 iterate 2 refine sda A λA=>?_
 refine qwr ap fun _ aq=>sdm A λA=>?_;refine sct A ec (zcj hP4 (by omega) az hw4) ?_;rintro _ _ ⟨rfl,ae⟩;replace hP3:=hP3.below ae;replace hP4:=hP4.below ae;replace M:=M.call ae;refine⟨_,rfl,?_⟩;intro a A;refine sdm A λA=>?_;iterate 2 refine sde A λA=>?_
 iterate 2 refine sda A λA=>?_
 refine qa (aq _ _ (wsr fun _ ar=>sct A ec (jbf (hT.below M.bel) (vq hz M.bel) (htp.below M.bel)) ?_));rintro _ _ ⟨rfl,af⟩;replace hP3:=hP3.below af;replace hP4:=hP4.below af;replace M:=M.call af;refine⟨_,rfl,?_⟩;intro a A;iterate 3 refine sdm A λA=>?_
 refine sct A ec (qqh hP3 hP4 (ah.trans ai.symm) (fun p hp=>gz (gz (yj _) (au p hp)) (by decide)) (by omega)) ?_;rintro _ _ ⟨rfl,ag⟩;replace hP3:=hP3.below ag;replace hP4:=hP4.below ag;replace M:=M.call ag;refine⟨_,rfl,?_⟩;intro a A;refine sdk (v:=bV true) A λA=>?_;iterate 3 refine sdm A λA=>?_
 refine sdo (v:=bV true) A (qb rfl rfl (fun w=>(qe w).trans (by rw[show((ev3==ev4))=true from(beq_iff_eq.2 (hv3.trans hv4.symm))]))) λA=>?_;refine sdk (v:=bV true) A λA=>?_;iterate 3 refine sdm A λA=>?_
 refine sdo (v:=bV true) A (qb rfl rfl (fun w=>(je gi w).trans (by rw[(gv rfl)]<;>rfl))) λA=>?_;refine sdk (v:=bV true) A λA=>?_;iterate 3 refine sdm A λA=>?_
 refine sdo (v:=bV true) A (qb rfl rfl (fun w=>(qe w).trans (by rw[show(((tlA (ps.map Sp.k)).2==(tlA (ps.map Sp.k)).2))=true from(beq_self_eq_true _)]))) λA=>?_;refine sdk (v:=bV true) A λA=>?_;iterate 3 refine sdm A λA=>?_
 refine sdo (v:=bV true) A (qb rfl rfl (fun w=>(je gi w).trans (by rw[(gv (by rw[ah,ai]))]<;>rfl))) λA=>?_;refine sdk (v:=bV true) A λA=>?_;iterate 3 refine sdm A λA=>?_
 refine sdo (v:=bV true) A (qb rfl rfl (fun w=>(qe w).trans (by rw[show(((tlA (cs.map Sp.k)).2==(tlA (ds.map Sp.k)).2))=true from(beq_iff_eq.2 (by rw[ah,ai]))]))) λA=>?_;refine sdk (v:=bV true) A λA=>?_;refine sda A λA=>?_;refine qr1 ar hret A ?_;exact⟨rfl,M.bel⟩
open Go.ChangeShapes Go.WideShapes Go.ChangeAt Go.RowKit Go.Joins Go.Deep
theorem xde{w:World}{x:Addr}{vs:List Value}(hc:∀(i:Nat) v,vs[i]?=some v→w.cell? (x.add i)=some v):Rc w (some x) vs:=by
  intro hne;obtain⟨v,h0⟩:∃v,vs[0]?=some v:=by
    cases vs with
    | nil => exact absurd rfl hne
    | cons v t => exact ⟨v, rfl⟩
  obtain⟨b,off,spot⟩:=x;have hspot:spot=none:=by
    have h2:=hc 0 v h0;simp only[World.cell?,Addr.add]at h2
    split at h2
    · cases spot with
      | none => rfl
      | some s => simp at h2
    · cases h2
  subst hspot;refine⟨b,off,rfl,fun p u hp=>?_⟩;have h2:=hc p u hp;rw[Addr.add_lit]at h2;exact h2
section
variable {H:Type} {enc:TypeId×Value→H} {W:World}
end
section
variable {H:Type} {enc:TypeId×Value→H} {W:World}
theorem znd{xs:List (DataW H)}{n:Nat}(h:n≤xs.length):((List.range n).map fun i=>(xs[i]?.map Rows.uptoBulk).getD 0).sum≤Rows.uptoBulkAll xs:=by
  have key:∀m,m≤xs.length→((List.range m).map fun i=>(xs[i]?.map Rows.uptoBulk).getD 0).sum=Rows.uptoBulkAll (xs.take m):=by
    intro m
    induction m with
    | zero => intro _; simp [Rows.uptoBulkAll]
    | succ m ih =>
      intro hm;have hu:∀(l:List (DataW H)) (d:DataW H),Rows.uptoBulkAll (l++[d])=Rows.uptoBulkAll l+Rows.uptoBulk d:=by
        intro l d
        induction l with
        | nil => simp [Rows.uptoBulkAll]
        | cons u l ih3 => simp only [gq, Rows.uptoBulkAll, ih3]; omega
      rw[List.range_succ,j6,List.sum_append,ih (by omega),List.take_add_one,List.getElem?_eq_getElem (show m<xs.length by omega)];simp only[i6,lg,Option.map_some,Option.toList_some,List.sum_cons,List.sum_nil,Option.getD_some,Nat.add_zero];rw[hu,List.getElem?_eq_getElem (show m<xs.length by omega)];simp
  have hmono:∀(l:List (DataW H)) (m:Nat),Rows.uptoBulkAll (l.take m)≤Rows.uptoBulkAll l:=by
    intro l
    induction l with
    | nil => intro m; simp
    | cons a l ih =>
      intro m;cases m with
      | zero => simp [Rows.uptoBulkAll]
      | succ m => simp only [List.take_succ_cons, Rows.uptoBulkAll]; have := ih m; omega
  rw[key n h];exact hmono xs n
theorem jvh{α:Type}{f:α→List Value}{m:Nat}(hf:∀x,(f x).length=m)(hm0:0<m){tS tE:TypeId}(hu:Tryz.prog.underlying tS=some (.slice tE))(hc:Tryz.prog.cellsOf tE=m){P:α→Nat→Prop}(dflt:α)
    (each0:∀n cs x,DataW.trod enc Tryz.prog W 0 (fun _=>true) true n tE cs=some x→∃a:α,cs=f a∧P a (Rows.uptoBulk x.1)) {fuel:Nat} {v:Value} {y:DataW H×List MemPlace} (h:DataW.trod enc Tryz.prog W 0 (fun _=>true) true fuel tS [v]=some y) :
    ∃so cap,∃l:List (α×Nat),v=.slice so l.length cap∧Rc W so (jb f (l.map Prod.fst))∧(∀q∈l,P q.1 q.2)∧(l.map Prod.snd).sum≤Rows.uptoBulk y.1∧l.length≤Rows.uptoBulk y.1:=by
  rcases DataW.trod_slice hu h with⟨hcs,_⟩|⟨x,len,cap,elems,rest,n,_,hcs,hx,_,hl,hm,hlen,hel,_,_⟩
  · simp at hcs;subst hcs;exact⟨none,0,[],rfl,fun k=>absurd rfl k,(fun q k=>by cases k),ii _,ii _⟩
  · simp at hcs;subst hcs;subst hx;have each:∀i,∃a:α,i<len→(∀(j:Nat) v,(f a)[j]?=some v→W.cell? (x.add (i*m+j))=some v)∧P a (((elems.map (·.1))[i]?.map Rows.uptoBulk).getD 0):=by
      intro i;by_cases hi:i<len
      · have hE:=hel i hi;rw[hc]at hE;rw[List.getElem?_eq_getElem (by omega),Option.bind_eq_some_iff]at hE;obtain⟨c1,aa,hy1⟩:=hE;obtain⟨o,e,hr⟩:=each0 _ _ _ hy1;obtain⟨_,h2,h3⟩:=World.cells?_some aa;refine⟨o,fun _=>⟨fun j v hj=>?_,?_⟩⟩
        · have hlt:=(List.getElem?_eq_some_iff.1 hj).1;rw[←e,h2]at hlt;have h4:=h3 j hlt;rw[e,hj]at h4;rw[←Addr.add_add];exact h4
        · rw[List.getElem?_map,List.getElem?_eq_getElem (show i<elems.length by omega)];exact hr
      · exact⟨dflt,fun k=>absurd k hi⟩
    obtain⟨F,hF⟩:=Classical.skolem.1 each;have e1:((List.range len).map fun i=>(F i,(((elems.map (·.1))[i]?.map Rows.uptoBulk).getD 0))).map Prod.fst=(List.range len).map F:=(by rw[List.map_map]; rfl);have hcat:∀(i:Nat) v,(jb f ((List.range len).map F))[i]?=some v→W.cell? (x.add i)=some v:=by
      intro i v hi;have hlt:=(List.getElem?_eq_some_iff.1 hi).1;rw[qyc hf,gy,List.length_range]at hlt;have hj:i / m<len:=(Nat.div_lt_iff_lt_mul hm0).2 hlt;have h1:((List.range len).map F)[i / m]?=some (F (i / m)):=(by simp[hj]);have h2:=zjd hf h1;have hd:i / m*m+i%m=i:=(by rw[Nat.mul_comm]; exact Nat.div_add_mod i m);have h3:(f (F (i / m)))[i%m]?=some v:=by
        rw[←h2,List.getElem?_take,gj (Nat.mod_lt _ hm0),List.getElem?_drop,hd];exact hi
      have h4:=(hF (i / m) hj).1 (i%m) v h3
      rwa [hd]at h4
    refine⟨some x,cap,(List.range len).map fun i=>(F i,(((elems.map (·.1))[i]?.map Rows.uptoBulk).getD 0)),by simp,?_,fun q hq=>?_,?_,?_⟩
    · rw[e1];exact xde hcat
    · obtain⟨i,hi,rfl⟩:=List.mem_map.1 hq;exact(hF i (List.mem_range.1 hi)).2
    · rw[List.map_map];have:=znd (xs:=elems.map (·.1)) (n:=len) (by rw[gy]; omega);simp only[Rows.uptoBulk];refine gz this ?_;omega
    · refine gz ?_ (zbh _ _);simp only[gy,List.length_range];omega
theorem jbg{fuel:Nat}{cs:List Value}{x:DataW H×List MemPlace}(h:DataW.trod enc Tryz.prog W 0 (fun _=>true) true fuel 65 cs=some x):∃p:Sp,cs=p.c∧SpR W p∧Tr.bulks (p.vs.map Dt.tr)≤Rows.uptoBulk x.1:=by
  obtain⟨xs,n,hfu,hx,hl,hxl,hf⟩:=DataW.trod_struct Tryz.underlying65 h;rw[show Tryz.prog.cellsOf 65=2 from by kernel_rfl]at hl
  match cs,hl with
  | [_, _], _ =>
    match xs,hxl with
    | [x0, x1], _ =>
      have g0:=hf 0 _ rfl;have g1:=hf 1 _ rfl;have c1:Tryz.prog.cellsOf 3=1:=(by kernel_rfl);have c3:Tryz.prog.cellsOf 28=1:=(by kernel_rfl);simp only[c1,c3,List.drop_zero,List.take_succ_cons,List.take_zero,List.drop_succ_cons,List.getElem?_cons_zero,List.getElem?_cons_succ]at g0 g1;obtain⟨z0,e0,_,_⟩:=DataW.trod_int i8 g0;obtain⟨lo,lc,ts,e5,hlc,hlm,hrt,hrd,b5⟩:=qng (fun n' _=>znb n') g1;have hbx:Rows.uptoBulk x.1=Rows.uptoBulk x0.1+(Rows.uptoBulk x1.1+0)+1:=by
        rw[hx,qqb];simp only[i6,lg,Rows.uptoBulkAll]
      refine⟨⟨z0,lo,lc,ts⟩,?_,⟨hrt,hrd⟩,by show Tr.bulks (ts.map Dt.tr)≤_; omega⟩;injection e0 with f0;subst f0 e5;rfl
theorem xdf{α:Type}{l:List (α×Nat)}{q:α×Nat}(h:q∈l):q.2≤(l.map Prod.snd).sum:=by
  induction l with
  | nil => cases h
  | cons a l ih =>
    rw[i6,List.sum_cons];rcases ik.1 h with rfl|h
    · omega
    · have:=ih h;omega
theorem zuh{fuel:Nat}{v:Value}{y:DataW H×List MemPlace}(h:DataW.trod enc Tryz.prog W 0 (fun _=>true) true fuel 31 [v]=some y):
    ∃so cap,∃ps:List Sp,v=.slice so ps.length cap∧PR W so ps∧(∀p∈ps,Tr.bulks (p.vs.map Dt.tr)≤Rows.uptoBulk y.1)∧ps.length≤Rows.uptoBulk y.1:=by
  obtain⟨so,cap,l,e,h1,h2,h3,h4⟩:=jvh (f:=Sp.c) jna (by decide) ic (by kernel_rfl) (P:=fun p b=>SpR W p∧Tr.bulks (p.vs.map Dt.tr)≤b) ue (fun n cs x hx=>jbg hx) h;refine⟨so,cap,l.map Prod.fst,by rw[gy]; exact e,⟨h1,fun p hp=>?_⟩,fun p hp=>?_,by rw[gy]; exact h4⟩
  · obtain⟨q,hq,rfl⟩:=List.mem_map.1 hp;exact(h2 q hq).1
  · obtain⟨q,hq,rfl⟩:=List.mem_map.1 hp;exact gz (h2 q hq).2 (gz (xdf hq) h3)
theorem jbh{base:Nat}{v:Value}{d:DataW H}{p:List MemPlace}(hv:Value.okWide Tryz.prog W .any base 31 v)(h:DataW.Trod enc Tryz.prog W 0 (fun _=>true) true 31 v d p):
    ∃so cap,∃ps:List Sp,v=.slice so ps.length cap∧PR W so ps∧(∀p∈ps,Tr.bulks (p.vs.map Dt.tr)≤Rows.uptoBulk d)∧ps.length≤Rows.uptoBulk d:=by
  obtain⟨a,n,c,rfl⟩:=okWide_slice ic hv;obtain⟨fuel,hf⟩:=h;exact zuh (v:=.slice a n c) hf
end
end Go.Proofs.YtmnlfahgklnpeaaGreatDoor.G
