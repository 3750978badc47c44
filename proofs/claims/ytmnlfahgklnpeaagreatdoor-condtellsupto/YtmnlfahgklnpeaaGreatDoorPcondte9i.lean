/- TrV TrW LiS KcJ KcL LiM LiN KcN ChM ChA ChB ShelfD ChC ChD ChE ChF ChG ChH Fi Fx TwF TwR TwC -/
import Derived.Test.YtmnlfahgklnpeaaGreatDoorPcondte9h
import Derived.Lib.RuneBytes
import Derived.RowKit
import Derived.WalkKit
import Derived.WalkSpells
import Derived.Deep.Light
import Derived.Shelf.Strings.Builder1
import Derived.Shelf.Small.Utf8
import Derived.Shelf.Small.Bits
import Derived.Shelf.Small.Strs
import Derived.Shelf.Small.Wraps
import Derived.Shelf.Strings.BuilderF
import Derived.Shelf.Strings.BuilderK
import Derived.Shelf.Strings.BuilderRune
import Derived.Shelf.Utf8.AppendRune
import Derived.Shelf.Utf8.AppendRunePlain
import Derived.Shelf.Strconv.Itoa0
import Derived.Shelf.Strconv.Itoa1
import Derived.Shelf.LaysM
import Derived.Shelf.Strconv.Itoa2
import Derived.Shelf.Strconv.Itoa3
import Derived.Shelf.Strconv.Clone
import Derived.Shelf.Strings.Search1
import Derived.Shelf.Strings.Prefix
import Derived.Shelf.Strings.Runes
import Derived.Lib.TrimAscii
import Derived.Laws.Runes
import Derived.Laws.Strings3
import Derived.Scope
import Derived.Shelf.RegionOpenPlain
import Derived.Lib.SlBytesConst
import Derived.Lib.ConvBytes
import Derived.Laws.IdiomStrings
set_option linter.unusedVariables false
set_option linter.unusedSimpArgs false
set_option maxHeartbeats 4000000
set_option maxRecDepth 1000000
namespace Go.Proofs.YtmnlfahgklnpeaaGreatDoor.G
open Go.RowKit
theorem zrh{w:World}{so:Option Addr}{cap:Nat}{l:List UInt8}(hb:Rb w so l)(hlen:l.length≤4000000):Calls Tryz.prog 191 #[iV 1,.slice so l.length cap] w fun e w'=>∃v,e=.returned v∧Mg w w' [.row 211 3 v (xh l).length (xv (xh l))]:=by
 have M:=Mg.start w;refine wof Tryz.func191 Tryz.ntmps191 fun Q hret hnorm hP a A=>?_;refine wsr fun _ aa=>sda A λA=>?_;refine qwk aa fun _ _=>wsr fun _ ab=>sdm A λA=>?_;refine sdo (v:=bV true) A dbK λA=>?_;refine qct ab A ?_;refine wsr fun K4 ac=>sdm A λA=>?_;refine sct A ec (jhj (hb.below M.bel) hlen) ?_;rintro _ _ ⟨_,rfl,ae⟩;replace M:=(M.both ae (za zd) (qi (by simp) (za zd)));refine⟨_,rfl,?_⟩;intro a A;refine sda A λA=>?_;refine qr1 ac hret A ?_;exact⟨_,rfl,M⟩
theorem zaf{w:World}{s:ByteArray}(hs:s.size≤4000000){r:Bool}(hr:okS s=r):Calls Tryz.prog 141 #[.string s] w (RB w (bV r)):=by
 have hul:(xh s.data.toList).length≤s.data.toList.length:=zae _ _ _;have hsl:s.data.toList.length≤4000000:=by rw[zm]; exact hs
 have M:=Mg.start w;refine wof Tryz.func141 Tryz.ntmps141 fun Q hret hnorm hP a A=>?_;refine wsr fun _ av=>sda A λA=>?_;refine qwr av fun _ aw=>sdm A λA=>?_;refine xai A M rfl gi ib ir rfl rfl rfl rfl ?_;intro ax ay _ hrb6 M a A;refine sct A ec (zrh hrb6 (by rw[zm]; exact hs)) ?_;rintro _ _ ⟨_,rfl,au⟩;obtain⟨ag,ah,rfl⟩:=qjc (au.has 0 rfl);replace M:=(M.both au (za zd) (qi (by simp) (za zd)));refine⟨_,rfl,?_⟩;intro a A;refine sda A λA=>?_;refine qwk aw fun _ ai=>wsr fun _ aj=>sda A λA=>?_;refine qa (aj _ _ (wp_block (zg (fun m_ a w1=>∃(i:Nat),m_=1+((xh s.data.toList).length-i)∧(i≤(xh s.data.toList).length∧∀j ua ur,j<i→(xh s.data.toList)[j]?=some (ua,ur)→ur≠-1)∧Sl a 19 [(0,.string s),(3,.slice ag ((xh s.data.toList).length) ah),(4,iV (((i:Nat):Int))),(5,.string s),(6,.slice ax s.data.toList.length ay),(7,.slice ag ((xh s.data.toList).length) ah)]∧Mg w w1 (.row 211 3 (.slice ag ((xh s.data.toList).length) ah) ((xh s.data.toList).length) ((xv (xh s.data.toList)))::[])) _ ⟨0,rfl,⟨ii _,fun j ua ur hj=>absurd hj (j4 _)⟩,A.keep _ (by repeat' constructor),M⟩ ?_)));clear M A;rintro m_ a _ ⟨i,rfl,ab,A,M⟩ _ ak;obtain⟨_,ac⟩:=ab;refine wsk fun _ am=>wsr fun _ ae=>?_;iterate 2 refine sdm A λA=>?_
 refine sdo A (qr Tryz.underlying208 rfl) λA=>?_;rcases tf (decide (((i:Nat):Int)<(((xh s.data.toList).length:Nat):Int)))with aa|aa
 ·have aa':=f5 aa;refine sdc A qy aa λA=>?_;refine qct ae A ?_;refine wp_skip (am _ _ (wsk fun _ ap=>wp_block (wsr fun _ af=>?_)));iterate 2 refine sdm A λA=>?_
  obtain⟨gu,hgu⟩:=qpg M 0 rfl (by omega);obtain⟨ua,ur,hu⟩:=jqg (us:=xh s.data.toList) (i:=i) (by omega);refine sdo (v:=pA gu (i*3)) A (jn Tryz.underlying208 (by kernel_rfl) rfl rfl rfl hgu (show i<(xh s.data.toList).length by omega)) λA=>?_;refine sdo (v:=pA gu (i*3+1)) A (qp jyh rfl rfl) λA=>?_;by_cases hf:ur=-1
  ·refine sdo (v:=bV true) A (vv M 0 rfl hgu ((zad _ i 1 _ hu (by decide)).trans (by rw[gj hf]; rfl)) o94 rfl) λA=>?_;refine qct af A ?_;refine wsr fun _ aq=>sda A λA=>?_;refine qr1 aq hret A ?_;subst hr;exact⟨by rw[xaj hu hf],M.bel⟩
  ·refine sdo (v:=bV false) A (vv M 0 rfl hgu ((zad _ i 1 _ hu (by decide)).trans (by rw[f7 hf]; rfl)) o94 rfl) λA=>?_;refine qcf af A ?_;refine wp_skip (ap _ _ (wrl (sdm A λA=>?_)));refine sdo (v:=iV (((i+1:Nat):Int))) A (qb rfl rfl (fun w=>(zq (jk (by omega) (by omega)) w).trans (by rw[show(((i:Nat):Int)+1:Int)=((i+1:Nat):Int)from by omega]))) λA=>?_;refine sda A λA=>?_;refine qa ?_;refine ak _ _ _ (by omega) ⟨i+1,rfl,⟨by omega,fun j va vr hj hv=>if h9:j<i then ac j va vr h9 hv else by have h8:j=i:=(by omega); subst h8; rw[hu]at hv; injection hv with h7; injection h7 with _ h6; rw[←h6]; exact hf⟩,A.keep _ (by repeat' constructor),M⟩
 ·have aa':=fy aa;refine sdc A qy aa λA=>?_;refine qcf ae A ?_;refine wp_exit (ai _ _ (wsr fun _ ar=>sda A λA=>?_));refine qr1 ar hret A ?_;subst hr;exact⟨by rw[jqi (fun j ua ur hj=>ac j ua ur (by have:=(List.getElem?_eq_some_iff.1 hj).1; omega) hj)],M.bel⟩
theorem zgh{w:World}{n:Int}{r:Bool}(hr:yw n=r):Calls Tryz.prog 143 #[iV n] w (RB w (bV r)):=by
 have M:=Mg.start w;refine wof Tryz.func143 Tryz.ntmps143 fun Q hret hnorm hP a A=>?_;refine wsr fun _ ag=>sda A λA=>?_;refine qwr ag fun _ af=>sdm A λA=>?_;rcases tf (decide (0≤n))with aa|aa
 ·have aa':=f5 aa;refine sdc A zt aa λA=>?_;iterate 2 refine sdm A λA=>?_
  rcases tf (decide (n≤1114111))with ab|ab
  ·have ab':=f5 ab;refine sdc A xi ab λA=>?_;refine sdk (v:=bV true) A λA=>?_;iterate 2 refine sdm A λA=>?_
   rcases tf (decide (n<55296))with ac|ac
   ·have ac':=f5 ac;refine sdc A qy ac λA=>?_;refine sdm A λA=>?_;iterate 2 refine sks A λA=>?_
    iterate 2 refine sdk (v:=bV true) A λA=>?_
    refine sda A λA=>?_;refine qr1 af hret A ?_;subst hr;exact⟨by rw[show yw n=true from by unfold yw; apply gv; omega],M.bel⟩
   ·have ac':=fy ac;refine sdc A qy ac λA=>?_;iterate 2 refine sdm A λA=>?_
    rcases tf (decide (57343<n))with ae|ae
    ·have ae':=f5 ae;refine sdc A jh ae λA=>?_;iterate 2 refine sdk (v:=bV true) A λA=>?_
     refine sda A λA=>?_;refine qr1 af hret A ?_;subst hr;exact⟨by rw[show yw n=true from by unfold yw; apply gv; omega],M.bel⟩
    ·have ae':=fy ae;refine sdc A jh ae λA=>?_;iterate 2 refine sdk (v:=bV false) A λA=>?_
     refine sda A λA=>?_;refine qr1 af hret A ?_;subst hr;exact⟨by rw[show yw n=false from by unfold yw; apply gn; omega],M.bel⟩
  ·have ab':=fy ab;refine sdc A xi ab λA=>?_;refine sdk (v:=bV false) A λA=>?_;refine sdm A λA=>?_;iterate 3 refine sks A λA=>?_
   iterate 2 refine qbh A rfl rfl rfl λa A=>?_
   refine sks A λA=>?_;refine sdk (v:=bV false) A λA=>?_;refine sda A λA=>?_;refine qr1 af hret A ?_;subst hr;exact⟨by rw[show yw n=false from by unfold yw; apply gn; omega],M.bel⟩
 ·have aa':=fy aa;refine sdc A zt aa λA=>?_;refine sdm A λA=>?_;iterate 2 refine sks A λA=>?_
  refine sdk (v:=bV false) A λA=>?_;refine sdm A λA=>?_;iterate 3 refine sks A λA=>?_
  iterate 2 refine qbh A rfl rfl rfl λa A=>?_
  refine sks A λA=>?_;refine sdk (v:=bV false) A λA=>?_;refine sda A λA=>?_;refine qr1 af hret A ?_;subst hr;exact⟨by rw[show yw n=false from by unfold yw; apply gn; omega],M.bel⟩
def kw(k n:Int)(q:Q6)(s:ByteArray)(mr ml:Nat):Bool:=
 if k<1∨11<k∨okS s=false then false
 else if k=3∧xt q=false then false
 else if k≠3∧(ye q.b1 q.t1.length q.q1.length=false∨ye q.b2 q.t2.length q.q2.length=false)then false
 else if s≠⟨#[]⟩∧k≠5∧k≠6∧k≠11 then false
 else if 0<mr∧k≠7 then false
 else if k=2∧n≠0∧n≠1 then false
 else if k=4∧yw n=false then false
 else if k≠2∧k≠4∧n≠0 then false
 else if k=8 then decide (ml=2)
 else decide (k=9∨ml=0)
theorem xba: okS ⟨#[]⟩=true:=by unfold okS; rfl
theorem jp(k n:Int)(q:Q6)(s:ByteArray)(mr ml:Nat):jm k n q s mr ml=kw k n q s mr ml:=by
 have hv:s=⟨#[]⟩→okS s=true:=by rintro rfl; exact xba
 have hn0:ye false 0 0=true:=rfl;unfold jm kw;by_cases hk:k<1∨11<k
 ·rw[gj (show k<1∨11<k∨okS s=false by omega)];repeat (rw[f7 (by omega)])
 ·have h11:k=1∨k=2∨k=3∨k=4∨k=5∨k=6∨k=7∨k=8∨k=9∨k=10∨k=11:=by omega
  simp only[kg,hn0];generalize ye q.b1 q.t1.length q.q1.length=B1;generalize ye q.b2 q.t2.length q.q2.length=B2;generalize xt q=S1;generalize yw n=S2;by_cases hs:s=⟨#[]⟩
  ·rw[hv hs];have hs2:¬s≠⟨#[]⟩:=fun h=>h hs;rcases h11 with h|h|h|h|h|h|h|h|h|h|h<;>subst h<;>cases B1<;>cases B2<;>cases S1<;>cases S2<;>simp[hs]<;>by_cases hm:mr=0<;>simp[hm]<;>by_cases hn:n=0<;>simp[hn]<;>first|omega|(by_cases hn1:n=1<;>simp[hn1])|skip
  ·cases hV:okS s<;>rcases h11 with h|h|h|h|h|h|h|h|h|h|h<;>subst h<;>cases B1<;>cases B2<;>cases S1<;>cases S2<;>simp[hs]<;>by_cases hm:mr=0<;>simp[hm]<;>by_cases hn:n=0<;>simp[hn]<;>first|omega|skip
section
variable {k n:Int} {q:Q6} {s:ByteArray} {mr ml:Nat}
def ShA(k:Int)(s:ByteArray):Prop:=1≤k∧k≤11∧okS s=true
def ShB(k:Int)(q:Q6):Prop:=(k=3→xt q=true)∧(k≠3→ye q.b1 q.t1.length q.q1.length=true∧ye q.b2 q.t2.length q.q2.length=true)
def ShC(k:Int)(s:ByteArray):Prop:=s=⟨#[]⟩∨k=5∨k=6∨k=11
def ShD(k:Int)(mr:Nat):Prop:=mr=0∨k=7
def ShE(k n:Int):Prop:=(k=2→n=0∨n=1)∧(k=4→yw n=true)∧(k≠2→k≠4→n=0)
theorem sh1(h:k<1∨11<k∨okS s=false):kw k n q s mr ml=false:=by unfold kw; rw[gj h]
theorem shA(a:ShA k s):¬(k<1∨11<k∨okS s=false):=fun e=>by
 rcases e with e|e|e
 ·have:=a.1; omega
 ·have:=a.2.1; omega
 ·rw[a.2.2]at e; cases e
theorem sh2(a:ShA k s)(h:k=3)(S:xt q=false):kw k n q s mr ml=false:=by unfold kw; rw[f7 (shA a),gj ⟨h,S⟩]
theorem sh3(a:ShA k s)(h:k≠3)(S:ye q.b1 q.t1.length q.q1.length=false∨ye q.b2 q.t2.length q.q2.length=false):kw k n q s mr ml=false:=by unfold kw; rw[f7 (shA a),f7 (fun e=>h e.1),gj ⟨h,S⟩]
theorem xbb(b:ShB k q):¬(k=3∧xt q=false):=fun e=>by have:=b.1 e.1; rw[e.2]at this; cases this
theorem xbc(b:ShB k q):¬(k≠3∧(ye q.b1 q.t1.length q.q1.length=false∨ye q.b2 q.t2.length q.q2.length=false)):=fun e=>by
 have:=b.2 e.1;rcases e.2 with h|h
 ·rw[this.1]at h; cases h
 ·rw[this.2]at h; cases h
theorem sh4(a:ShA k s)(b:ShB k q)(h:s≠⟨#[]⟩∧k≠5∧k≠6∧k≠11):kw k n q s mr ml=false:=by unfold kw; rw[f7 (shA a),f7 (xbb b),f7 (xbc b),gj h]
theorem shC(c:ShC k s):¬(s≠⟨#[]⟩∧k≠5∧k≠6∧k≠11):=fun e=>by rcases c with h|h|h|h<;>first|exact e.1 h|exact e.2.1 h|exact e.2.2.1 h|exact e.2.2.2 h
theorem sh5(a:ShA k s)(b:ShB k q)(c:ShC k s)(h:0<mr∧k≠7):kw k n q s mr ml=false:=by unfold kw; rw[f7 (shA a),f7 (xbb b),f7 (xbc b),f7 (shC c),gj h]
theorem shD(d:ShD k mr):¬(0<mr∧k≠7):=fun e=>by rcases d with h|h<;>omega
theorem sh6(a:ShA k s)(b:ShB k q)(c:ShC k s)(d:ShD k mr)(h:(k=2∧n≠0∧n≠1)∨(k=4∧yw n=false)∨(k≠2∧k≠4∧n≠0)):kw k n q s mr ml=false:=by
 unfold kw;rw[f7 (shA a),f7 (xbb b),f7 (xbc b),f7 (shC c),f7 (shD d)];rcases h with h|h|h
 ·rw[gj h]
 ·rw[f7 (by omega),gj h]
 ·rw[f7 (by omega),f7 (fun e=>h.2.1 e.1),gj h]
theorem sh9(a:ShA k s)(b:ShB k q)(c:ShC k s)(d:ShD k mr)(e:ShE k n):kw k n q s mr ml=if k=8 then decide (ml=2)else decide (k=9∨ml=0):=by
 unfold kw;have e1:=e.1;have e3:=e.2.2;rw[f7 (shA a),f7 (xbb b),f7 (xbc b),f7 (shC c),f7 (shD d),f7 (fun h=>by have:=e1 h.1; omega),f7 (fun h=>by have:=e.2.1 h.1; rw[h.2]at this; cases this),f7 (fun h=>by have:=e3 h.1 h.2.1; omega)]
end
theorem zag{w:World}{d:Nd}{ts:List Dt}(hok:NdOk w d)(hs2:d.s.size≤4000000)(hlen:ts.length≤9223372036854775807){r:Bool}(hr:jm d.k d.n d.y.q d.s d.rl.length ts.length=r):Calls Tryz.prog 98 #[.agg (d.cells ts.length).toArray] w (RB w (bV r)):=by
 have hrl:d.rl.length≤9223372036854775807:=gz hok.rcap hok.rmax;have M:=Mg.start w;refine wof Tryz.func98 Tryz.ntmps98 fun Q hret hnorm hP a A=>?_;refine wsr fun _ dq=>zj (vs:=[iV d.k,iV d.n,bV d.y.q.b1,.slice d.y.o1 d.y.q.t1.length d.y.c1,.slice d.y.o2 d.y.q.q1.length d.y.c2,bV d.y.q.b2,.slice d.y.o3 d.y.q.t2.length d.y.c3,.slice d.y.o4 d.y.q.q2.length d.y.c4,.string d.s,.slice d.ro d.rl.length d.rc,.slice d.lo ts.length d.lc]) (t:=30) A M rfl rfl rfl pg (qx rfl rfl) (by decide) ?_;intro g2 _ M a A;refine sda A λA=>?_;refine qwk dq fun K4 dr=>?_;have dt:∀a w1,((ShA d.k d.s)∧Sl a 100 [(0,.agg (d.cells ts.length).toArray),(1,pA g2 0)]∧Mg w w1 (.obj g2 (.cells (d.cells ts.length).toArray 30)::[]))→K4 a w1:=by
  clear A M;rintro a _ ⟨du,A,M⟩;have hSA:=du;refine dr _ _ (wsk fun K8 dv=>?_);have dn:∀a w1,((ShB d.k d.y.q)∧Sl a 100 [(0,.agg (d.cells ts.length).toArray),(1,pA g2 0)]∧Mg w w1 (.obj g2 (.cells (d.cells ts.length).toArray 30)::[]))→K8 a w1:=by
   clear A M;rintro a _ ⟨cl,A,M⟩;have hSB:=cl;refine dv _ _ (wsk fun dw cm=>?_);have bi:∀a w1,((ShC d.k d.s)∧Sl a 100 [(0,.agg (d.cells ts.length).toArray),(1,pA g2 0)]∧Mg w w1 (.obj g2 (.cells (d.cells ts.length).toArray 30)::[]))→dw a w1:=by
    clear A M;rintro a _ ⟨cn,A,M⟩;have hSC:=cn;refine cm _ _ (wsk fun dx co=>?_);have bz:∀a w1,((ShD d.k d.rl.length)∧Sl a 100 [(0,.agg (d.cells ts.length).toArray),(1,pA g2 0)]∧Mg w w1 (.obj g2 (.cells (d.cells ts.length).toArray 30)::[]))→dx a w1:=by
     clear A M;rintro a _ ⟨cp,A,M⟩;have hSD:=cp;refine co _ _ (wsk fun dy cq=>?_);have bj:∀a w1,((ShE d.k d.n)∧Sl a 100 [(0,.agg (d.cells ts.length).toArray),(1,pA g2 0)]∧Mg w w1 (.obj g2 (.cells (d.cells ts.length).toArray 30)::[]))→dy a w1:=by
      clear A M;rintro a _ ⟨cr,A,M⟩;have hSE:=cr;refine cq _ _ (wsk fun _ cw=>wsr fun _ cc=>sdf A 0 xk λA=>?_);refine sdl A M o93 0 λA=>?_;rcases tf ((d.k==8))with ab|ab
      ·have ab':=gr ab;refine sdc A qe ab λA=>?_;refine qct cc A ?_;refine wsr fun _ cd=>sdf A 10 jz λA=>?_;refine sdl A M ke 0 λA=>?_;refine sdo A (qr f9 rfl) λA=>?_;rcases tf ((((ts.length:Nat):Int)==2))with ac|ac
       ·have ac':=gr ac;refine sdc A qe ac λA=>?_;refine sda A λA=>?_;refine qr1 cd hret A ?_;exact⟨by rw[←hr,jp,sh9 hSA hSB hSC hSD hSE,gj (by omega),gv (show(ts.length=2)by omega)],M.bel⟩
       ·have ac':=f6 ac;refine sdc A qe ac λA=>?_;refine sda A λA=>?_;refine qr1 cd hret A ?_;exact⟨by rw[←hr,jp,sh9 hSA hSB hSC hSD hSE,gj (by omega),gn (show ¬(ts.length=2)by omega)],M.bel⟩
      ·have ab':=f6 ab;refine sdc A qe ab λA=>?_;refine qcf cc A ?_;refine wp_skip (cw _ _ (wsr fun _ bp=>sdf A 0 xk λA=>?_));refine sdl A M o93 0 λA=>?_;rcases tf ((d.k==9))with ae|ae
       ·have ae':=gr ae;refine sdc A qe ae λA=>?_;refine sdm A λA=>?_;iterate 4 refine sks A λA=>?_
        refine sdk (v:=bV true) A λA=>?_;refine sda A λA=>?_;refine qr1 bp hret A ?_;exact⟨by rw[←hr,jp,sh9 hSA hSB hSC hSD hSE,f7 (by omega),gv (show(d.k=9∨ts.length=0)by omega)],M.bel⟩
       ·have ae':=f6 ae;refine sdc A qe ae λA=>?_;refine sdm A λA=>?_;refine sdf A 10 jz λA=>?_;refine sdl A M ke 0 λA=>?_;refine sdo A (qr f9 rfl) λA=>?_;rcases tf ((((ts.length:Nat):Int)==0))with af|af
        ·have af':=gr af;refine sdc A qe af λA=>?_;refine sdk (v:=bV true) A λA=>?_;refine sda A λA=>?_;refine qr1 bp hret A ?_;exact⟨by rw[←hr,jp,sh9 hSA hSB hSC hSD hSE,f7 (by omega),gv (show(d.k=9∨ts.length=0)by omega)],M.bel⟩
        ·have af':=f6 af;refine sdc A qe af λA=>?_;refine sdk (v:=bV false) A λA=>?_;refine sda A λA=>?_;refine qr1 bp hret A ?_;exact⟨by rw[←hr,jp,sh9 hSA hSB hSC hSD hSE,f7 (by omega),gn (show ¬(d.k=9∨ts.length=0)by omega)],M.bel⟩
     refine wsr fun _ cx=>sdf A 0 xk λA=>?_;refine sdl A M o93 0 λA=>?_;refine qa (cx _ _ (wp_block (wsr fun _ ce=>?_)));rcases tf ((d.k==2))with ag|ag
     ·have ag':=gr ag;refine sdc A qe ag λA=>?_;refine sda A λA=>?_;refine qct ce A ?_;refine wsr fun _ bq=>sdf A 1 vn λA=>?_;refine sdl A M o93 0 λA=>?_;rcases tf ((d.n != 0))with ah|ah
      ·have ah':=iy.1 ah;refine sdc A zh ah λA=>?_;refine sdm A λA=>?_;refine sdf A 1 vn λA=>?_;refine sdl A M o93 0 λA=>?_;rcases tf ((d.n != 1))with ai|ai
       ·have ai':=iy.1 ai;refine sdc A zh ai λA=>?_;refine sdk (v:=bV true) A λA=>?_;refine qct bq A ?_;refine wsr fun _ cy=>sda A λA=>?_;refine qr1 cy hret A ?_;exact⟨by rw[←hr,jp,sh6 hSA hSB hSC hSD (.inl ⟨by omega,by omega,by omega⟩)],M.bel⟩
       ·have ai':=ie.1 ai;refine sdc A zh ai λA=>?_;refine sdk (v:=bV false) A λA=>?_;refine qcf bq A ?_;refine wp_skip ?_;exact bj _ _ ⟨⟨fun h=>by omega,fun h=>absurd h (by omega),fun h h2=>by omega⟩,A.keep _ ⟨rfl,rfl,trivial⟩,M⟩
      ·have ah':=ie.1 ah;refine sdc A zh ah λA=>?_;refine sdm A λA=>?_;iterate 3 refine sks A λA=>?_
       refine sdk (v:=bV false) A λA=>?_;refine qcf bq A ?_;refine wp_skip ?_;exact bj _ _ ⟨⟨fun h=>by omega,fun h=>absurd h (by omega),fun h h2=>by omega⟩,A.keep _ ⟨rfl,rfl,trivial⟩,M⟩
     ·have ag':=f6 ag;refine sdc A qe ag λA=>?_;refine sda A λA=>?_;refine qcf ce A ?_;refine wsr fun _ cg=>?_;rcases tf ((d.k==4))with aj|aj
      ·have aj':=gr aj;refine sdc A qe aj λA=>?_;refine sda A λA=>?_;refine qct cg A ?_;refine wsr fun _ ch=>sdf A 1 vn λA=>?_;refine sdl A M o93 0 λA=>?_;rcases tf (yw d.n)with ay|ay
       ·refine gcl A M ec (zgh ay) fun _ _ M a A=>?_;refine sdu A λA=>?_;refine qcf ch A ?_;refine wp_skip ?_;exact bj _ _ ⟨⟨fun h=>by omega,fun h=>ay,fun h h2=>by omega⟩,A.keep _ ⟨rfl,rfl,trivial⟩,M⟩
       ·refine gcl A M ec (zgh ay) fun _ _ M a A=>?_;refine sdu A λA=>?_;refine qct ch A ?_;refine wsr fun _ cz=>sda A λA=>?_;refine qr1 cz hret A ?_;exact⟨by rw[←hr,jp,sh6 hSA hSB hSC hSD (.inr (.inl ⟨by omega,ay⟩))],M.bel⟩
      ·have aj':=f6 aj;refine sdc A qe aj λA=>?_;refine sda A λA=>?_;refine qcf cg A ?_;refine wsr fun _ ci=>sdf A 1 vn λA=>?_;refine sdl A M o93 0 λA=>?_;rcases tf ((d.n != 0))with ak|ak
       ·have ak':=iy.1 ak;refine sdc A zh ak λA=>?_;refine qct ci A ?_;refine wsr fun _ db=>sda A λA=>?_;refine qr1 db hret A ?_;exact⟨by rw[←hr,jp,sh6 hSA hSB hSC hSD (.inr (.inr ⟨by omega,by omega,by omega⟩))],M.bel⟩
       ·have ak':=ie.1 ak;refine sdc A zh ak λA=>?_;refine qcf ci A ?_;refine wp_skip ?_;exact bj _ _ ⟨⟨fun h=>by omega,fun h=>absurd h (by omega),fun h h2=>by omega⟩,A.keep _ ⟨rfl,rfl,trivial⟩,M⟩
    refine wsr fun _ br=>sdf A 9 qai λA=>?_;refine sdl A M quf 0 λA=>?_;refine sdo A (qr ib rfl) λA=>?_;rcases tf (decide (0<((d.rl.length:Nat):Int)))with am|am
    ·have am':=f5 am;refine sdc A jh am λA=>?_;refine sdm A λA=>?_;refine sdf A 0 xk λA=>?_;refine sdl A M o93 0 λA=>?_;rcases tf ((d.k != 7))with ap|ap
     ·have ap':=iy.1 ap;refine sdc A zh ap λA=>?_;refine sdk (v:=bV true) A λA=>?_;refine qct br A ?_;refine wsr fun _ dd=>sda A λA=>?_;refine qr1 dd hret A ?_;exact⟨by rw[←hr,jp,sh5 hSA hSB hSC ⟨by omega,by omega⟩],M.bel⟩
     ·have ap':=ie.1 ap;refine sdc A zh ap λA=>?_;refine sdk (v:=bV false) A λA=>?_;refine qcf br A ?_;refine wp_skip ?_;exact bz _ _ ⟨.inr (by omega),A.keep _ ⟨rfl,rfl,trivial⟩,M⟩
    ·have am':=fy am;refine sdc A jh am λA=>?_;refine sdm A λA=>?_;iterate 3 refine sks A λA=>?_
     refine sdk (v:=bV false) A λA=>?_;refine qcf br A ?_;refine wp_skip ?_;exact bz _ _ ⟨.inl (by omega),A.keep _ ⟨rfl,rfl,trivial⟩,M⟩
   refine wsr fun _ az=>sdf A 8 vg λA=>?_;refine sdl A M o99 0 λA=>?_;rcases tf (decide (d.s=⟨#[]⟩))with aa|aa
   ·have aa':=f5 aa;refine sdo (v:=bV false) A (qb rfl rfl (fun w=>(kx gi w).trans (by rw[aa]<;>rfl))) λA=>?_;refine sdm A λA=>?_;iterate 3 refine sks A λA=>?_
    refine sdk (v:=bV false) A λA=>?_;refine sdm A λA=>?_;iterate 3 refine sks A λA=>?_
    refine sdk (v:=bV false) A λA=>?_;refine sdm A λA=>?_;iterate 3 refine sks A λA=>?_
    refine sdk (v:=bV false) A λA=>?_;refine qcf az A ?_;refine wp_skip ?_;exact bi _ _ ⟨.inl aa',A.keep _ ⟨rfl,rfl,trivial⟩,M⟩
   ·have aa':=fy aa;refine sdo (v:=bV true) A (qb rfl rfl (fun w=>(kx gi w).trans (by rw[aa]<;>rfl))) λA=>?_;refine sdm A λA=>?_;refine sdf A 0 xk λA=>?_;refine sdl A M o93 0 λA=>?_;rcases tf ((d.k != 5))with aq|aq
    ·have aq':=iy.1 aq;refine sdc A zh aq λA=>?_;refine sdk (v:=bV true) A λA=>?_;refine sdm A λA=>?_;refine sdf A 0 xk λA=>?_;refine sdl A M o93 0 λA=>?_;rcases tf ((d.k != 6))with ar|ar
     ·have ar':=iy.1 ar;refine sdc A zh ar λA=>?_;refine sdk (v:=bV true) A λA=>?_;refine sdm A λA=>?_;refine sdf A 0 xk λA=>?_;refine sdl A M o93 0 λA=>?_;rcases tf ((d.k != 11))with au|au
      ·have au':=iy.1 au;refine sdc A zh au λA=>?_;refine sdk (v:=bV true) A λA=>?_;refine qct az A ?_;refine wsr fun _ de=>sda A λA=>?_;refine qr1 de hret A ?_;exact⟨by rw[←hr,jp,sh4 hSA hSB ⟨aa',by omega,by omega,by omega⟩],M.bel⟩
      ·have au':=ie.1 au;refine sdc A zh au λA=>?_;refine sdk (v:=bV false) A λA=>?_;refine qcf az A ?_;refine wp_skip ?_;exact bi _ _ ⟨.inr (by omega),A.keep _ ⟨rfl,rfl,trivial⟩,M⟩
     ·have ar':=ie.1 ar;refine sdc A zh ar λA=>?_;refine sdk (v:=bV false) A λA=>?_;refine sdm A λA=>?_;iterate 3 refine sks A λA=>?_
      refine sdk (v:=bV false) A λA=>?_;refine qcf az A ?_;refine wp_skip ?_;exact bi _ _ ⟨.inr (by omega),A.keep _ ⟨rfl,rfl,trivial⟩,M⟩
    ·have aq':=ie.1 aq;refine sdc A zh aq λA=>?_;refine sdk (v:=bV false) A λA=>?_;refine sdm A λA=>?_;iterate 3 refine sks A λA=>?_
     refine sdk (v:=bV false) A λA=>?_;refine sdm A λA=>?_;iterate 3 refine sks A λA=>?_
     refine sdk (v:=bV false) A λA=>?_;refine qcf az A ?_;refine wp_skip ?_;exact bi _ _ ⟨.inr (by omega),A.keep _ ⟨rfl,rfl,trivial⟩,M⟩
  refine wsr fun _ cj=>sdf A 0 xk λA=>?_;refine sdl A M o93 0 λA=>?_;rcases tf ((d.k==3))with av|av
  ·have av':=gr av;refine sdc A qe av λA=>?_;refine qct cj A ?_;refine wsr fun _ ck=>sdf A 2 uq λA=>?_;refine sdo A (qz M jnc rfl 0 rfl (cs:=[bV d.y.q.b1,.slice d.y.o1 d.y.q.t1.length d.y.c1,.slice d.y.o2 d.y.q.q1.length d.y.c2,bV d.y.q.b2,.slice d.y.o3 d.y.q.t2.length d.y.c3,.slice d.y.o4 d.y.q.q2.length d.y.c4]) rfl rfl) λA=>?_;rcases tf (xt d.y.q)with bd|bd
   ·refine gcl A M ec (qjb (Nu.below hok.num M.bel) hok.len bd) fun _ _ M a A=>?_;refine sdu A λA=>?_;refine qcf ck A ?_;refine wp_skip ?_;exact dn _ _ ⟨⟨fun _=>bd,fun h=>absurd (show d.k=3 by omega) h⟩,A.keep _ ⟨rfl,rfl,trivial⟩,M⟩
   ·refine gcl A M ec (qjb (Nu.below hok.num M.bel) hok.len bd) fun _ _ M a A=>?_;refine sdu A λA=>?_;refine qct ck A ?_;refine wsr fun _ df=>sda A λA=>?_;refine qr1 df hret A ?_;exact⟨by rw[←hr,jp,sh2 hSA (by omega) bd],M.bel⟩
  ·have av':=f6 av;refine sdc A qe av λA=>?_;refine qcf cj A ?_;refine wsr fun _ bw=>sdf A 2 uq λA=>?_;refine sdf A 2 zwe λA=>?_;refine sdo A (qz M zwg rfl 0 rfl (cs:=[bV d.y.q.b1,.slice d.y.o1 d.y.q.t1.length d.y.c1,.slice d.y.o2 d.y.q.q1.length d.y.c2]) rfl rfl) λA=>?_;rcases tf (ye d.y.q.b1 d.y.q.t1.length d.y.q.q1.length)with bf|bf
   ·refine gcl A M ec (qke hok.len.l1 hok.len.l2 bf) fun _ _ M a A=>?_;refine sdu A λA=>?_;refine sdm A λA=>?_;refine sdf A 2 uq λA=>?_;refine sdf A 5 zwf λA=>?_;refine sdo A (qz M zwg rfl 0 rfl (cs:=[bV d.y.q.b2,.slice d.y.o3 d.y.q.t2.length d.y.c3,.slice d.y.o4 d.y.q.q2.length d.y.c4]) rfl rfl) λA=>?_;rcases tf (ye d.y.q.b2 d.y.q.t2.length d.y.q.q2.length)with bg|bg
    ·refine gcl A M ec (qke hok.len.l3 hok.len.l4 bg) fun _ _ M a A=>?_;refine sdu A λA=>?_;refine sdk (v:=bV false) A λA=>?_;refine qcf bw A ?_;refine wp_skip ?_;exact dn _ _ ⟨⟨fun h=>absurd h (by omega),fun _=>⟨bf,bg⟩⟩,A.keep _ ⟨rfl,rfl,trivial⟩,M⟩
    ·refine gcl A M ec (qke hok.len.l3 hok.len.l4 bg) fun _ _ M a A=>?_;refine sdu A λA=>?_;refine sdk (v:=bV true) A λA=>?_;refine qct bw A ?_;refine wsr fun _ dg=>sda A λA=>?_;refine qr1 dg hret A ?_;exact⟨by rw[←hr,jp,sh3 hSA (by omega) (.inr bg)],M.bel⟩
   ·refine gcl A M ec (qke hok.len.l1 hok.len.l2 bf) fun _ _ M a A=>?_;refine sdu A λA=>?_;refine sdm A λA=>?_;iterate 5 refine sks A λA=>?_
    refine sdk (v:=bV true) A λA=>?_;refine qct bw A ?_;refine wsr fun _ dh=>sda A λA=>?_;refine qr1 dh hret A ?_;exact⟨by rw[←hr,jp,sh3 hSA (by omega) (.inl bf)],M.bel⟩
 refine wsr fun _ bn=>sdf A 0 xk λA=>?_;refine sdl A M o93 0 λA=>?_;rcases tf (decide (d.k<1))with aw|aw
 ·have aw':=f5 aw;refine sdc A qy aw λA=>?_;refine sdm A λA=>?_;iterate 3 refine sks A λA=>?_
  refine sdk (v:=bV true) A λA=>?_;refine sdm A λA=>?_;iterate 4 refine sks A λA=>?_
  refine sdk (v:=bV true) A λA=>?_;refine qct bn A ?_;refine wsr fun _ di=>sda A λA=>?_;refine qr1 di hret A ?_;exact⟨by rw[←hr,jp,sh1 (by omega)],M.bel⟩
 ·have aw':=fy aw;refine sdc A qy aw λA=>?_;refine sdm A λA=>?_;refine sdf A 0 xk λA=>?_;refine sdl A M o93 0 λA=>?_;rcases tf (decide (11<d.k))with ax|ax
  ·have ax':=f5 ax;refine sdc A jh ax λA=>?_;refine sdk (v:=bV true) A λA=>?_;refine sdm A λA=>?_;iterate 4 refine sks A λA=>?_
   refine sdk (v:=bV true) A λA=>?_;refine qct bn A ?_;refine wsr fun _ dj=>sda A λA=>?_;refine qr1 dj hret A ?_;exact⟨by rw[←hr,jp,sh1 (by omega)],M.bel⟩
  ·have ax':=fy ax;refine sdc A jh ax λA=>?_;refine sdk (v:=bV false) A λA=>?_;refine sdm A λA=>?_;refine sdf A 8 vg λA=>?_;refine sdl A M o99 0 λA=>?_;rcases tf (okS d.s)with bh|bh
   ·refine gcl A M ec (zaf hs2 bh) fun _ _ M a A=>?_;refine sdu A λA=>?_;refine sdk (v:=bV false) A λA=>?_;refine qcf bn A ?_;refine wp_skip ?_;exact dt _ _ ⟨⟨by omega,by omega,bh⟩,A.keep _ ⟨rfl,rfl,trivial⟩,M⟩
   ·refine gcl A M ec (zaf hs2 bh) fun _ _ M a A=>?_;refine sdu A λA=>?_;refine sdk (v:=bV true) A λA=>?_;refine qct bn A ?_;refine wsr fun _ dk=>sda A λA=>?_;refine qr1 dk hret A ?_;exact⟨by rw[←hr,jp,sh1 (.inr (.inr bh))],M.bel⟩
def Counts(t:Dt):Prop:=∀{w:World} {dp left:Int},t.rd w→t.tr.bulk≤4000000→0≤left→left≤20000→0≤dp→dp≤201→Calls Tryz.prog 66 #[.agg t.cells.toArray,iV dp,iV left] w (RB w (iV (qlb qh dp left t.tr)))
theorem jia: ∀t:Dt,Counts t:=Dt.indT fun d ts ih=>by
 intro w dp left hrd hbk hl0 hl1 hd0 hd1;have hok:=(Dt.rd_iff.1 hrd);have hlen:ts.length≤9223372036854775807:=gz hok.2.1 hok.2.2.1;have M:=Mg.start w;refine wof Tryz.func66 Tryz.ntmps66 fun Q hret hnorm hP a A=>?_;refine wsr fun K1 hK1=>zj (vs:=[iV d.k,iV d.n,bV d.y.q.b1,.slice d.y.o1 d.y.q.t1.length d.y.c1,.slice d.y.o2 d.y.q.q1.length d.y.c2,bV d.y.q.b2,.slice d.y.o3 d.y.q.t2.length d.y.c3,.slice d.y.o4 d.y.q.q2.length d.y.c4,.string d.s,.slice d.ro d.rl.length d.rc,.slice d.lo ts.length d.lc]) (t:=30) A M rfl rfl rfl pg (qx rfl rfl) (by decide) ?_;intro g2 w3 M a A;refine sda A λA=>?_;refine qwk hK1 fun K4 hK4=>wsr fun K5 hK5=>sdm A λA=>?_;rcases tf (decide (200<dp))with hb6|hb6
 ·have hb6':=f5 hb6;refine sdc A jh hb6 λA=>?_;refine sdm A λA=>?_;iterate 2 refine sks A λA=>?_
  refine sdk (v:=bV true) A λA=>?_;refine sdm A λA=>?_;iterate 3 refine sks A λA=>?_
  refine sdk (v:=bV true) A λA=>?_;refine qct hK5 A ?_;refine wsr fun K7 hK7=>sda A λA=>?_;refine qr1 hK7 hret A ?_;rw[zii (by omega)];exact⟨rfl,M.bel⟩
 ·have hb6':=fy hb6;refine sdc A jh hb6 λA=>?_;iterate 2 refine sdm A λA=>?_
  rcases tf (decide (left≤0))with hb8|hb8
  ·have hb8':=f5 hb8;refine sdc A xi hb8 λA=>?_;refine sdk (v:=bV true) A λA=>?_;refine sdm A λA=>?_;iterate 3 refine sks A λA=>?_
   refine sdk (v:=bV true) A λA=>?_;refine qct hK5 A ?_;refine wsr fun K9 hK9=>sda A λA=>?_;refine qr1 hK9 hret A ?_;rw[zii (by omega)];exact⟨rfl,M.bel⟩
  ·have hb8':=fy hb8;refine sdc A xi hb8 λA=>?_;refine sdk (v:=bV false) A λA=>?_;refine sdm A λA=>?_;refine sdo A (qz M zv rfl 0 rfl (cs:=[iV d.k,iV d.n,bV d.y.q.b1,.slice d.y.o1 d.y.q.t1.length d.y.c1,.slice d.y.o2 d.y.q.q1.length d.y.c2,bV d.y.q.b2,.slice d.y.o3 d.y.q.t2.length d.y.c3,.slice d.y.o4 d.y.q.q2.length d.y.c4,.string d.s,.slice d.ro d.rl.length d.rc,.slice d.lo ts.length d.lc]) rfl rfl) λA=>?_;rcases tf (jm d.k d.n d.y.q d.s d.rl.length ts.length)with hb10|hb10
   ·refine gcl A M ec (zag (hok.1.below M.bel) (gz zed hbk) hlen hb10) fun w12 hb11 M a A=>?_;refine sdu A λA=>?_;refine sdk (v:=bV false) A λA=>?_;refine qcf hK5 A ?_;refine wp_skip (hK4 _ _ (wsr fun K13 hK13=>sdm A λA=>?_));refine sdo (v:=iV (left-1)) A (qb rfl rfl (jbi (jk (by omega) (by omega)))) λA=>?_;refine sda A λA=>?_;refine qwk hK13 fun K14 hK14=>wsr fun K15 hK15=>sda A λA=>?_;refine qa (hK15 _ _ (wp_block (zg (fun m_ a w1=>∃(i:Nat) (m:Int),m_=1+(ts.length-i)∧(i≤ts.length∧qof qh dp (decide (d.k=8)) 0 (left-1) ((ts.map Dt.tr).drop 0)=qof qh dp (decide (d.k=8)) i m ((ts.map Dt.tr).drop i)∧-1≤m∧m≤20000)∧Sl a 52 [(0,.agg (d.cells ts.length).toArray),(1,iV dp),(2,iV m),(3,pA g2 0),(6,iV 0),(7,iV (((i:Nat):Int))),(9,iV dp),(10,bV false),(11,bV false),(12,iV left),(13,bV false),(14,bV false),(15,bV false),(16,.agg (d.cells ts.length).toArray),(17,bV true),(18,bV false),(19,bV false),(20,iV left),(21,iV (left-1))]∧Mg w w1 (.obj g2 (.cells (d.cells ts.length).toArray 30)::[])) _ ⟨0,left-1,rfl,⟨ii _,rfl,by omega,by omega⟩,A.keep _ (by repeat' constructor),M⟩ ?_)));clear M A;rintro m_ a w16 ⟨i,m,rfl,hinv18,A,M⟩ K17 hK17;obtain⟨hi0,hin9,hm0,hm1_⟩:=hinv18;refine wsk fun K19 hK19=>wsr fun K20 hK20=>sdm A λA=>?_;refine sdf A 10 jz λA=>?_;refine sdl A M ke 0 λA=>?_;refine sdo A (qr f9 rfl) λA=>?_;rcases tf (decide (((i:Nat):Int)<((ts.length:Nat):Int)))with hb21|hb21
    ·have hb21':=f5 hb21;refine sdc A qy hb21 λA=>?_;iterate 2 refine sdm A λA=>?_
     rcases tf (decide (0≤m))with hb22|hb22
     ·have hb22':=f5 hb22;refine sdc A zt hb22 λA=>?_;refine sdk (v:=bV true) A λA=>?_;refine qct hK20 A ?_;refine wp_skip (hK19 _ _ (wsk fun K23 hK23=>wp_block (wsr fun K24 hK24=>sdm A λA=>?_)));refine sdo (v:=iV (dp+1)) A (qb rfl rfl (zq (jk (by omega) (by omega)))) λA=>?_;refine sda A λA=>?_;refine qa (hK24 _ _ (wsk fun K25 hK25=>wsr fun K26 hK26=>sdf A 0 xk λA=>?_));refine sdl A M o93 0 λA=>?_;rcases tf ((d.k==8))with hb27|hb27
      ·have hb27':=gr hb27;refine sdc A qe hb27 λA=>?_;iterate 2 refine sdm A λA=>?_
       rcases tf ((((i:Nat):Int)==1))with hb28|hb28
       ·have hb28':=gr hb28;refine sdc A qe hb28 λA=>?_;refine sdk (v:=bV true) A λA=>?_;refine qct hK26 A ?_;refine wrl (sdm A λA=>?_);refine sda A λA=>?_;refine qa (hK25 _ _ ?_);obtain⟨t1,b1,o1,hi1,hm1,hr1,hl1,hH1⟩:=kid hrd (i:=i) (by omega);have hD:(if decide (d.k=8)=true∧i=1 then dp else dp+1)=dp:=gj ⟨gv hb27',by omega⟩;refine wrl (sdf A 10 jz λA=>?_);refine sdl A M ke 0 λA=>?_;refine sdm A λA=>?_;refine sdo (v:=pA b1 (o1+i*11)) A (qk (k:=i) f9 (by kernel_rfl) rfl rfl rfl hl1 (by omega)) λA=>?_;refine sdo A (zp M hH1 zv rfl rfl) λA=>?_;iterate 2 refine sdm A λA=>?_
        refine gcl A M ec (ih t1 hm1 (Dt.keep M.bel _ hr1) (by have:=qoh (d:=d) hm1; omega) (by omega) (by omega) (by omega) (by omega)) fun w30 hb29 M a A=>?_;refine sda A λA=>?_;refine qa (hK23 _ _ (wrl (sdm A λA=>?_)));refine sdo (v:=iV (((i+1:Nat):Int))) A (qb rfl rfl (fun w=>(zq (jk (by omega) (by omega)) w).trans (by rw[show(((i:Nat):Int)+1:Int)=((i+1:Nat):Int)from by omega]))) λA=>?_;refine sda A λA=>?_;refine qa ?_;have hc9:=zve qh t1.tr (dp) m (by omega);refine hK17 _ _ _ (by omega) ⟨i+1,qlb qh (dp) m t1.tr,rfl,⟨by omega,by rw[hin9,zij hi1 (by omega) hD],by omega,by omega⟩,A.keep _ (by repeat' constructor),M⟩
       ·have hb28':=f6 hb28;refine sdc A qe hb28 λA=>?_;refine sdk (v:=bV false) A λA=>?_;refine qcf hK26 A ?_;refine wp_skip (hK25 _ _ ?_);obtain⟨t1,b1,o1,hi1,hm1,hr1,hl1,hH1⟩:=kid hrd (i:=i) (by omega);have hD:(if decide (d.k=8)=true∧i=1 then dp else dp+1)=dp+1:=f7 (fun e=>by omega);refine wrl (sdf A 10 jz λA=>?_);refine sdl A M ke 0 λA=>?_;refine sdm A λA=>?_;refine sdo (v:=pA b1 (o1+i*11)) A (qk (k:=i) f9 (by kernel_rfl) rfl rfl rfl hl1 (by omega)) λA=>?_;refine sdo A (zp M hH1 zv rfl rfl) λA=>?_;iterate 2 refine sdm A λA=>?_
        refine gcl A M ec (ih t1 hm1 (Dt.keep M.bel _ hr1) (by have:=qoh (d:=d) hm1; omega) (by omega) (by omega) (by omega) (by omega)) fun w32 hb31 M a A=>?_;refine sda A λA=>?_;refine qa (hK23 _ _ (wrl (sdm A λA=>?_)));refine sdo (v:=iV (((i+1:Nat):Int))) A (qb rfl rfl (fun w=>(zq (jk (by omega) (by omega)) w).trans (by rw[show(((i:Nat):Int)+1:Int)=((i+1:Nat):Int)from by omega]))) λA=>?_;refine sda A λA=>?_;refine qa ?_;have hc9:=zve qh t1.tr (dp+1) m (by omega);refine hK17 _ _ _ (by omega) ⟨i+1,qlb qh (dp+1) m t1.tr,rfl,⟨by omega,by rw[hin9,zij hi1 (by omega) hD],by omega,by omega⟩,A.keep _ (by repeat' constructor),M⟩
      ·have hb27':=f6 hb27;refine sdc A qe hb27 λA=>?_;refine sdm A λA=>?_;iterate 2 refine sks A λA=>?_
       refine sdk (v:=bV false) A λA=>?_;refine qcf hK26 A ?_;refine wp_skip (hK25 _ _ ?_);obtain⟨t1,b1,o1,hi1,hm1,hr1,hl1,hH1⟩:=kid hrd (i:=i) (by omega);have hD:(if decide (d.k=8)=true∧i=1 then dp else dp+1)=dp+1:=f7 (fun e=>hb27' (f5 e.1));refine wrl (sdf A 10 jz λA=>?_);refine sdl A M ke 0 λA=>?_;refine sdm A λA=>?_;refine sdo (v:=pA b1 (o1+i*11)) A (qk (k:=i) f9 (by kernel_rfl) rfl rfl rfl hl1 (by omega)) λA=>?_;refine sdo A (zp M hH1 zv rfl rfl) λA=>?_;iterate 2 refine sdm A λA=>?_
       refine gcl A M ec (ih t1 hm1 (Dt.keep M.bel _ hr1) (by have:=qoh (d:=d) hm1; omega) (by omega) (by omega) (by omega) (by omega)) fun w34 hb33 M a A=>?_;refine sda A λA=>?_;refine qa (hK23 _ _ (wrl (sdm A λA=>?_)));refine sdo (v:=iV (((i+1:Nat):Int))) A (qb rfl rfl (fun w=>(zq (jk (by omega) (by omega)) w).trans (by rw[show(((i:Nat):Int)+1:Int)=((i+1:Nat):Int)from by omega]))) λA=>?_;refine sda A λA=>?_;refine qa ?_;have hc9:=zve qh t1.tr (dp+1) m (by omega);refine hK17 _ _ _ (by omega) ⟨i+1,qlb qh (dp+1) m t1.tr,rfl,⟨by omega,by rw[hin9,zij hi1 (by omega) hD],by omega,by omega⟩,A.keep _ (by repeat' constructor),M⟩
     ·have hb22':=fy hb22;refine sdc A zt hb22 λA=>?_;refine sdk (v:=bV false) A λA=>?_;refine qcf hK20 A ?_;refine wp_exit (hK14 _ _ (wsr fun K35 hK35=>sdm A λA=>?_));refine sda A λA=>?_;refine qr1 hK35 hret A ?_;rw[jcd (by omega) (by omega) (by rw[uk]; exact hb10),hin9,qwh (by omega)];exact⟨rfl,M.bel⟩
    ·have hb21':=fy hb21;refine sdc A qy hb21 λA=>?_;refine sdm A λA=>?_;iterate 2 refine sks A λA=>?_
     refine sdk (v:=bV false) A λA=>?_;refine qcf hK20 A ?_;refine wp_exit (hK14 _ _ (wsr fun K36 hK36=>sdm A λA=>?_));refine sda A λA=>?_;refine qr1 hK36 hret A ?_;rw[jcd (by omega) (by omega) (by rw[uk]; exact hb10),hin9,qbj (by omega),qof];exact⟨rfl,M.bel⟩
   ·refine gcl A M ec (zag (hok.1.below M.bel) (gz zed hbk) hlen hb10) fun w38 hb37 M a A=>?_;refine sdu A λA=>?_;refine sdk (v:=bV true) A λA=>?_;refine qct hK5 A ?_;refine wsr fun K39 hK39=>sda A λA=>?_;refine qr1 hK39 hret A ?_;rw[zii (.inr (.inr (by rw[uk]; exact hb10)))];exact⟨rfl,M.bel⟩
theorem jib{w:World}{d:Nd}{ts:List Dt}(hrd:(Dt.mk d ts).rd w)(hbk:(Dt.mk d ts).tr.bulk≤4000000):Calls Tryz.prog 31 #[.agg (d.cells ts.length).toArray] w (RB w (bV (qs qh (Dt.mk d ts).tr))):=by
 have M:=Mg.start w;refine wof Tryz.func31 Tryz.ntmps31 fun Q hret hnorm hP a A=>?_;refine wsr fun _ aa=>zj (vs:=[iV d.k,iV d.n,bV d.y.q.b1,.slice d.y.o1 d.y.q.t1.length d.y.c1,.slice d.y.o2 d.y.q.q1.length d.y.c2,bV d.y.q.b2,.slice d.y.o3 d.y.q.t2.length d.y.c3,.slice d.y.o4 d.y.q.q2.length d.y.c4,.string d.s,.slice d.ro d.rl.length d.rc,.slice d.lo ts.length d.lc]) (t:=30) A M rfl rfl rfl pg (qx rfl rfl) (by decide) ?_;intro g2 _ M a A;refine sda A λA=>?_;refine qa (aa _ _ (wsr fun K4 ab=>sdo A (qz M zv rfl 0 rfl (cs:=[iV d.k,iV d.n,bV d.y.q.b1,.slice d.y.o1 d.y.q.t1.length d.y.c1,.slice d.y.o2 d.y.q.q1.length d.y.c2,bV d.y.q.b2,.slice d.y.o3 d.y.q.t2.length d.y.c3,.slice d.y.o4 d.y.q.q2.length d.y.c4,.string d.s,.slice d.ro d.rl.length d.rc,.slice d.lo ts.length d.lc]) rfl rfl) λA=>?_));refine gcl A M ec (jia (Dt.mk d ts) (Dt.keep M.bel _ hrd) hbk (by omega) (by omega) (by omega) (by omega)) fun _ _ M a A=>?_;refine sdo (v:=bV (decide (0≤qlb qh 1 20000 (Dt.mk d ts).tr))) A (qb rfl rfl zt) λA=>?_;refine sda A λA=>?_;refine qr1 ab hret A ?_;exact⟨by rw[←znj],M.bel⟩
theorem rsound_any{w:World}{t:Dt}(hrd:t.rd w)(hbk:t.tr.bulk≤4000000):Calls Tryz.prog 31 #[.agg t.cells.toArray] w (RB w (bV (qs qh t.tr))):=by
 obtain⟨d,ts⟩:=t;exact jib hrd hbk
theorem zah{w:World}{t u:Dt}(ht:t.rd w)(hu:u.rd w){b:Bool}(h:SQ2 t u=b):Calls Tryz.prog 51 #[t.d.y.val,u.d.y.val] w (RB w (bV b)):=zyc (Dt.okT ht).1.num (Dt.okT ht).1.len (Dt.okT hu).1.num (Dt.okT hu).1.len h
def RSames(n:Nat):Prop:=∀{w:World} {t u:Dt},t.tr.bulk<n→t.rd w→u.rd w→Calls Tryz.prog 17 #[.agg (t.d.cells t.ts.length).toArray,.agg (u.d.cells u.ts.length).toArray] w (RB w (bV (qfe t.tr u.tr)))
theorem zri{n:Nat}(ih:RSames n):RSames (n+1):=by
 intro w t u hn ht hu;have hlt:=(Dt.okT ht).2;have hrt:t.d.rl.length≤9223372036854775807:=gz (Dt.okT ht).1.rcap (Dt.okT ht).1.rmax;have M:=Mg.start w;refine wof Tryz.func17 Tryz.ntmps17 fun Q hret hnorm hP a A=>?_;refine wsr fun _ ck=>zj (vs:=(t.d.cells t.ts.length)) (t:=30) A M rfl rfl rfl pg (qx rfl rfl) (by decide) ?_;intro g2 _ M a A;refine zj (vs:=(u.d.cells u.ts.length)) (t:=30) A M rfl rfl rfl pg (qx rfl rfl) (by decide) ?_;intro g4 _ M a A;refine sda A λA=>?_;refine qa (ck _ _ (wsk fun _ cl=>wsr fun _ am=>sdf A 0 xk λA=>?_));refine sdl A M o93 1 λA=>?_;refine sdf A 0 xk λA=>?_;refine sdl A M o93 0 λA=>?_;rcases tf ((t.d.k != u.d.k))with ak|ak
 ·have ak':=iy.1 ak;refine sdc A zh ak λA=>?_;refine sdm A λA=>?_;iterate 5 refine sks A λA=>?_
  refine sdk (v:=bV true) A λA=>?_;refine sdm A λA=>?_;iterate 5 refine sks A λA=>?_
  refine sdk (v:=bV true) A λA=>?_;refine sdm A λA=>?_;iterate 7 refine sks A λA=>?_
  refine sdk (v:=bV true) A λA=>?_;refine sdm A λA=>?_;iterate 7 refine sks A λA=>?_
  refine sdk (v:=bV true) A λA=>?_;refine sdm A λA=>?_;iterate 6 refine sks A λA=>?_
  refine sdk (v:=bV true) A λA=>?_;refine qct am A ?_;refine wsr fun _ cm=>sda A λA=>?_;refine qr1 cm hret A ?_;exact⟨by rw[qhe (.inl ak')],M.bel⟩
 ·have ak':=ie.1 ak;refine sdc A zh ak λA=>?_;refine sdm A λA=>?_;refine sdf A 1 vn λA=>?_;refine sdl A M o93 1 λA=>?_;refine sdf A 1 vn λA=>?_;refine sdl A M o93 0 λA=>?_;rcases tf ((t.d.n != u.d.n))with aa|aa
  ·have aa':=iy.1 aa;refine sdc A zh aa λA=>?_;refine sdk (v:=bV true) A λA=>?_;refine sdm A λA=>?_;iterate 5 refine sks A λA=>?_
   refine sdk (v:=bV true) A λA=>?_;refine sdm A λA=>?_;iterate 7 refine sks A λA=>?_
   refine sdk (v:=bV true) A λA=>?_;refine sdm A λA=>?_;iterate 7 refine sks A λA=>?_
   refine sdk (v:=bV true) A λA=>?_;refine sdm A λA=>?_;iterate 6 refine sks A λA=>?_
   refine sdk (v:=bV true) A λA=>?_;refine qct am A ?_;refine wsr fun _ az=>sda A λA=>?_;refine qr1 az hret A ?_;exact⟨by rw[qhe (.inr (.inl aa'))],M.bel⟩
  ·have aa':=ie.1 aa;refine sdc A zh aa λA=>?_;refine sdk (v:=bV false) A λA=>?_;refine sdm A λA=>?_;refine sdf A 8 vg λA=>?_;refine sdl A M o99 1 λA=>?_;refine sdf A 8 vg λA=>?_;refine sdl A M o99 0 λA=>?_;rcases tf (decide (t.d.s=u.d.s))with ab|ab
   ·have ab':=f5 ab;refine sdo (v:=bV false) A (qb rfl rfl (fun w=>(kx gi w).trans (by rw[ab]<;>rfl))) λA=>?_;refine sdk (v:=bV false) A λA=>?_;refine sdm A λA=>?_;refine sdf A 9 qai λA=>?_;refine sdl A M quf 1 λA=>?_;refine sdo A (qr ib rfl) λA=>?_;refine sdf A 9 qai λA=>?_;refine sdl A M quf 0 λA=>?_;refine sdo A (qr ib rfl) λA=>?_;rcases tf ((((t.d.rl.length:Nat):Int) != ((u.d.rl.length:Nat):Int)))with ae|ae
    ·have ae':=iy.1 ae;refine sdc A zh ae λA=>?_;refine sdk (v:=bV true) A λA=>?_;refine sdm A λA=>?_;iterate 7 refine sks A λA=>?_
     refine sdk (v:=bV true) A λA=>?_;refine sdm A λA=>?_;iterate 6 refine sks A λA=>?_
     refine sdk (v:=bV true) A λA=>?_;refine qct am A ?_;refine wsr fun _ bd=>sda A λA=>?_;refine qr1 bd hret A ?_;exact⟨by rw[qhe (.inr (.inr (.inr (.inl (fun e=>ae' (by rw[e]))))))],M.bel⟩
    ·have ae':=ie.1 ae;refine sdc A zh ae λA=>?_;refine sdk (v:=bV false) A λA=>?_;refine sdm A λA=>?_;refine sdf A 10 jz λA=>?_;refine sdl A M ke 1 λA=>?_;refine sdo A (qr f9 rfl) λA=>?_;refine sdf A 10 jz λA=>?_;refine sdl A M ke 0 λA=>?_;refine sdo A (qr f9 rfl) λA=>?_;rcases tf ((((t.ts.length:Nat):Int) != ((u.ts.length:Nat):Int)))with af|af
     ·have af':=iy.1 af;refine sdc A zh af λA=>?_;refine sdk (v:=bV true) A λA=>?_;refine sdm A λA=>?_;iterate 6 refine sks A λA=>?_
      refine sdk (v:=bV true) A λA=>?_;refine qct am A ?_;refine wsr fun _ bf=>sda A λA=>?_;refine qr1 bf hret A ?_;exact⟨by rw[qhe (.inr (.inr (.inr (.inr (.inl (fun e=>af' (by rw[e])))))))],M.bel⟩
     ·have af':=ie.1 af;refine sdc A zh af λA=>?_;refine sdk (v:=bV false) A λA=>?_;refine sdm A λA=>?_;refine sdf A 2 uq λA=>?_;refine sdo A (qz M jnc rfl 1 rfl (cs:=[bV t.d.y.q.b1,.slice t.d.y.o1 t.d.y.q.t1.length t.d.y.c1,.slice t.d.y.o2 t.d.y.q.q1.length t.d.y.c2,bV t.d.y.q.b2,.slice t.d.y.o3 t.d.y.q.t2.length t.d.y.c3,.slice t.d.y.o4 t.d.y.q.q2.length t.d.y.c4]) rfl rfl) λA=>?_;refine sdf A 2 uq λA=>?_;refine sdo A (qz M jnc rfl 0 rfl (cs:=[bV u.d.y.q.b1,.slice u.d.y.o1 u.d.y.q.t1.length u.d.y.c1,.slice u.d.y.o2 u.d.y.q.q1.length u.d.y.c2,bV u.d.y.q.b2,.slice u.d.y.o3 u.d.y.q.t2.length u.d.y.c3,.slice u.d.y.o4 u.d.y.q.q2.length u.d.y.c4]) rfl rfl) λA=>?_;rcases tf (SQ2 t u)with ai|ai
      ·refine gcl A M ec (zah (Dt.keep M.bel _ ht) (Dt.keep M.bel _ hu) ai) fun _ _ M a A=>?_;refine sdu A λA=>?_;refine sdk (v:=bV false) A λA=>?_;refine qcf am A ?_;refine wp_skip (cl _ _ (wsk fun _ bg=>wsr fun _ bh=>sda A λA=>?_))
       refine qa (bh _ _ (wp_block (zg (fun m_ a w1=>∃(i:Nat),m_=1+(t.d.rl.length-i)∧(i≤t.d.rl.length∧∀j,j<i→t.d.rl.getD j 0=u.d.rl.getD j 0)∧Sl a 89 [(0,.agg (t.d.cells t.ts.length).toArray),(1,.agg (u.d.cells u.ts.length).toArray),(2,pA g2 0),(3,pA g4 0),(5,iV (((i:Nat):Int))),(7,pA g2 0),(8,iV t.d.k),(9,pA g4 0),(10,iV u.d.k),(11,bV false),(12,bV false),(13,pA g2 1),(14,iV t.d.n),(15,pA g4 1),(16,iV u.d.n),(17,bV false),(18,bV false),(19,bV false),(20,pA g2 8),(21,.string t.d.s),(22,pA g4 8),(23,.string u.d.s),(24,bV false),(25,bV false),(26,bV false),(27,pA g2 9),(28,.slice t.d.ro t.d.rl.length t.d.rc),(29,iV (((t.d.rl.length:Nat):Int))),(30,pA g4 9),(31,.slice u.d.ro u.d.rl.length u.d.rc),(32,iV (((u.d.rl.length:Nat):Int))),(33,bV false),(34,bV false),(35,bV false),(36,pA g2 10),(37,.slice t.d.lo t.ts.length t.d.lc),(38,iV (((t.ts.length:Nat):Int))),(39,pA g4 10),(40,.slice u.d.lo u.ts.length u.d.lc),(41,iV (((u.ts.length:Nat):Int))),(42,bV false),(43,bV false),(44,bV false),(45,pA g2 2),(46,.agg #[bV t.d.y.q.b1,.slice t.d.y.o1 t.d.y.q.t1.length t.d.y.c1,.slice t.d.y.o2 t.d.y.q.q1.length t.d.y.c2,bV t.d.y.q.b2,.slice t.d.y.o3 t.d.y.q.t2.length t.d.y.c3,.slice t.d.y.o4 t.d.y.q.q2.length t.d.y.c4]),(47,pA g4 2),(48,.agg #[bV u.d.y.q.b1,.slice u.d.y.o1 u.d.y.q.t1.length u.d.y.c1,.slice u.d.y.o2 u.d.y.q.q1.length u.d.y.c2,bV u.d.y.q.b2,.slice u.d.y.o3 u.d.y.q.t2.length u.d.y.c3,.slice u.d.y.o4 u.d.y.q.q2.length u.d.y.c4]),(49,bV true),(50,bV false),(51,bV false)]∧Mg w w1 (.obj g4 (.cells (u.d.cells u.ts.length).toArray 30)::.obj g2 (.cells (t.d.cells t.ts.length).toArray 30)::[])) _ ⟨0,rfl,⟨ii _,fun j hj=>absurd hj (j4 _)⟩,A.keep _ (by repeat' constructor),M⟩ ?_)));clear M A;rintro m_ a _ ⟨i,rfl,ap,A,M⟩ _ bi;obtain⟨_,au⟩:=ap
       refine wsk fun _ bj=>wsr fun _ av=>sdm A λA=>?_;refine sdf A 9 qai λA=>?_;refine sdl A M quf 1 λA=>?_;refine sdo A (qr ib rfl) λA=>?_;rcases tf (decide (((i:Nat):Int)<((t.d.rl.length:Nat):Int)))with ag|ag
       ·have ag':=f5 ag;refine sdc A qy ag λA=>?_;refine qct av A ?_;refine wp_skip (bj _ _ (wsk fun _ bn=>wp_block (wsk fun _ aw=>xg (S:=fun w1=>Mg w w1 (.obj g4 (.cells (u.d.cells u.ts.length).toArray 30)::.obj g2 (.cells (t.d.cells t.ts.length).toArray 30)::[])) (by kernel_rfl) ?_)));replace M:=M.drew;refine atk (v:=pA g2 9) A 0 rfl hP (M.sub (cC (cC ns))) (λ_ M=>qp qai rfl rfl) λA=>?_;refine atk A 1 rfl hP (M.sub (cC (cC ns))) (λ_ M=>xy M quf rfl 1 rfl rfl) λA=>?_;refine atk A 2 rfl hP (M.sub (cC (cC ns))) (λ_ M=>zr rfl) λA=>?_;obtain⟨bt,ot,ht1,ht2,ht3⟩:=qhf (i:=i) (Dt.okT ht).1.raw (by omega);refine atk (v:=pA bt (ot+i)) A 3 rfl hP (M.sub (cC (cC ns))) (λ_ M=>ja (k:=i) ib (by kernel_rfl) rfl rfl rfl ht1 (by omega)) λA=>?_;refine atk A 4 rfl hP (M.sub (cC (cC ns))) (λ_ M=>qgh M ht2 (ht3 i (by omega)) o95 rfl) λA=>?_;refine atk (v:=pA g4 9) A 5 rfl hP (M.sub (cC (cC ns))) (λ_ M=>qp qai rfl rfl) λA=>?_;refine atk A 6 rfl hP (M.sub (cC (cC ns))) (λ_ M=>xy M quf rfl 0 rfl rfl) λA=>?_;refine atk A 7 rfl hP (M.sub (cC (cC ns))) (λ_ M=>zr rfl) λA=>?_;obtain⟨bu,ou,hu1,hu2,hu3⟩:=qhf (i:=i) (Dt.okT hu).1.raw (by omega);refine atk (v:=pA bu (ou+i)) A 8 rfl hP (M.sub (cC (cC ns))) (λ_ M=>ja (k:=i) ib (by kernel_rfl) rfl rfl rfl hu1 (by omega)) λA=>?_;refine atk A 9 rfl hP (M.sub (cC (cC ns))) (λ_ M=>qgh M hu2 (hu3 i (by omega)) o95 rfl) λA=>?_;rcases tf (((((t.d.rl.getD i 0).toNat:Nat):Int) != (((u.d.rl.getD i 0).toNat:Nat):Int)))with ac|ac
        ·have ac':=iy.1 ac;refine atk (v:=bV true) A 10 rfl hP (M.sub (cC (cC ns))) (λ_ M=>qb rfl rfl (fun w=>(zh w).trans (by rw[ac]))) λA=>?_;refine jl (by kernel_rfl) ?_;refine aw _ _ (ct A ?_);refine wsr fun _ bp=>sda A λA=>?_;refine qr1 bp hret A ?_;exact⟨by rw[qhe (.inr (.inr (.inr (.inl (xkg ac')))))],M.bel⟩
        ·have ac':=ie.1 ac;refine atk (v:=bV false) A 10 rfl hP (M.sub (cC (cC ns))) (λ_ M=>qb rfl rfl (fun w=>(zh w).trans (by rw[ac]))) λA=>?_;refine jl (by kernel_rfl) ?_;refine aw _ _ (cf A ?_);refine wp_skip (bn _ _ (wrl (sdm A λA=>?_)));refine sdo (v:=iV (((i+1:Nat):Int))) A (qb rfl rfl (fun w=>(zq (jk (by omega) (by omega)) w).trans (by rw[show(((i:Nat):Int)+1:Int)=((i+1:Nat):Int)from by omega]))) λA=>?_;refine sda A λA=>?_;refine qa ?_;refine bi _ _ _ (by omega) ⟨i+1,rfl,⟨by omega,fun j hj=>if h9:j<i then au j h9 else by have h8:j=i:=(by omega); subst h8; exact xkh ac'⟩,A.keep _ (by repeat' constructor),M⟩
       ·have ag':=fy ag;refine sdc A qy ag λA=>?_;refine qcf av A ?_;refine wp_exit (bg _ _ (wsk fun _ bq=>wsr fun _ br=>sda A λA=>?_));refine qa (br _ _ (wp_block ?_));have hrl:t.d.rl=u.d.rl:=jhh (by omega) (fun j hj=>au j (by omega));have hsy:=jqd ak' aa' ab' hrl (by omega) ai
        refine zg (fun m_ a w1=>∃(j:Nat),m_=1+(t.ts.length-j)∧(j≤t.ts.length∧qbb (t.ts.map Dt.tr) (u.ts.map Dt.tr)=qbb ((t.ts.map Dt.tr).drop j) ((u.ts.map Dt.tr).drop j))∧Sl a 89 [(0,.agg (t.d.cells t.ts.length).toArray),(1,.agg (u.d.cells u.ts.length).toArray),(2,pA g2 0),(3,pA g4 0),(5,iV (((i:Nat):Int))),(6,iV (((j:Nat):Int))),(7,pA g2 0),(8,iV t.d.k),(9,pA g4 0),(10,iV u.d.k),(11,bV false),(12,bV false),(13,pA g2 1),(14,iV t.d.n),(15,pA g4 1),(16,iV u.d.n),(17,bV false),(18,bV false),(19,bV false),(20,pA g2 8),(21,.string t.d.s),(22,pA g4 8),(23,.string u.d.s),(24,bV false),(25,bV false),(26,bV false),(27,pA g2 9),(28,.slice t.d.ro t.d.rl.length t.d.rc),(29,iV (((t.d.rl.length:Nat):Int))),(30,pA g4 9),(31,.slice u.d.ro u.d.rl.length u.d.rc),(32,iV (((u.d.rl.length:Nat):Int))),(33,bV false),(34,bV false),(35,bV false),(36,pA g2 10),(37,.slice t.d.lo t.ts.length t.d.lc),(38,iV (((t.ts.length:Nat):Int))),(39,pA g4 10),(40,.slice u.d.lo u.ts.length u.d.lc),(41,iV (((u.ts.length:Nat):Int))),(42,bV false),(43,bV false),(44,bV false),(45,pA g2 2),(46,.agg #[bV t.d.y.q.b1,.slice t.d.y.o1 t.d.y.q.t1.length t.d.y.c1,.slice t.d.y.o2 t.d.y.q.q1.length t.d.y.c2,bV t.d.y.q.b2,.slice t.d.y.o3 t.d.y.q.t2.length t.d.y.c3,.slice t.d.y.o4 t.d.y.q.q2.length t.d.y.c4]),(47,pA g4 2),(48,.agg #[bV u.d.y.q.b1,.slice u.d.y.o1 u.d.y.q.t1.length u.d.y.c1,.slice u.d.y.o2 u.d.y.q.q1.length u.d.y.c2,bV u.d.y.q.b2,.slice u.d.y.o3 u.d.y.q.t2.length u.d.y.c3,.slice u.d.y.o4 u.d.y.q.q2.length u.d.y.c4]),(49,bV true),(50,bV false),(51,bV false),(52,iV (((i:Nat):Int))),(53,pA g2 9),(54,.slice t.d.ro t.d.rl.length t.d.rc),(55,iV (((t.d.rl.length:Nat):Int))),(56,bV false)]∧Mg w w1 (.obj g4 (.cells (u.d.cells u.ts.length).toArray 30)::.obj g2 (.cells (t.d.cells t.ts.length).toArray 30)::[])) _ ⟨0,rfl,⟨ii _,rfl⟩,A.keep _ (by repeat' constructor),M⟩ ?_
        clear M A;rintro m_ a _ ⟨j,rfl,aq,A,M⟩ _ bw;obtain⟨_,ar⟩:=aq;refine wsk fun _ bz=>wsr fun _ ax=>sdm A λA=>?_;refine sdf A 10 jz λA=>?_;refine sdl A M ke 1 λA=>?_;refine sdo A (qr f9 rfl) λA=>?_;rcases tf (decide (((j:Nat):Int)<((t.ts.length:Nat):Int)))with ah|ah
        ·have ah':=f5 ah;refine sdc A qy ah λA=>?_;refine qct ax A ?_;refine wp_skip (bz _ _ (wsk fun _ cc=>wp_block (wsk fun _ ay=>?_)));obtain⟨t1,bt1,ot1,it1,mt1,rt1_,lt1,Ht1⟩:=qeh ht (i:=j) (by omega);obtain⟨u1,bu1,ou1,iu1,mu1,ru1_,lu1,Hu1⟩:=qeh hu (i:=j) (by omega);refine xg (S:=fun w1=>Mg w w1 (.obj g4 (.cells (u.d.cells u.ts.length).toArray 30)::.obj g2 (.cells (t.d.cells t.ts.length).toArray 30)::[])) (by kernel_rfl) ?_;replace M:=M.drew;refine atk (v:=pA g2 10) A 0 rfl hP (M.sub (cC (cC ns))) (λ_ M=>qp jz rfl rfl) λA=>?_;refine atk A 1 rfl hP (M.sub (cC (cC ns))) (λ_ M=>xy M ke rfl 1 rfl rfl) λA=>?_;refine atk A 2 rfl hP (M.sub (cC (cC ns))) (λ_ M=>zr rfl) λA=>?_;refine atk (v:=pA bt1 (ot1+j*11)) A 3 rfl hP (M.sub (cC (cC ns))) (λ_ M=>qk (k:=j) f9 (by kernel_rfl) rfl rfl rfl lt1 (by omega)) λA=>?_;refine atk A 4 rfl hP (M.sub (cC (cC ns))) (λ_ M=>zp M Ht1 zv rfl rfl) λA=>?_;refine atk (v:=pA g4 10) A 5 rfl hP (M.sub (cC (cC ns))) (λ_ M=>qp jz rfl rfl) λA=>?_;refine atk A 6 rfl hP (M.sub (cC (cC ns))) (λ_ M=>xy M ke rfl 0 rfl rfl) λA=>?_;refine atk A 7 rfl hP (M.sub (cC (cC ns))) (λ_ M=>zr rfl) λA=>?_;refine atk (v:=pA bu1 (ou1+j*11)) A 8 rfl hP (M.sub (cC (cC ns))) (λ_ M=>qk (k:=j) f9 (by kernel_rfl) rfl rfl rfl lu1 (by omega)) λA=>?_;refine atk A 9 rfl hP (M.sub (cC (cC ns))) (λ_ M=>zp M Hu1 zv rfl rfl) λA=>?_;rcases tf (qfe t1.tr u1.tr)with aj|aj
         ·refine zn (by kernel_rfl) (jc A 10 rfl rfl rfl rfl ec ((aj▸ih (by have:=qhi mt1; omega) (Dt.keep M.bel _ rt1_) (Dt.keep M.bel _ ru1_))) ?_);rintro _ _ ⟨rfl,cd⟩;replace M:=M.call cd;refine⟨_,rfl,(M.sub (cC (cC ns))),?_⟩;intro a A;refine atk (v:=bV false) A 11 rfl hP (M.sub (cC (cC ns))) (λ_ M=>ya rfl qaf) λA=>?_;refine jl (by kernel_rfl) ?_;refine ay _ _ (cf A ?_);refine wp_skip (cc _ _ (wrl (sdm A λA=>?_)));refine sdo (v:=iV (((j+1:Nat):Int))) A (qb rfl rfl (fun w=>(zq (jk (by omega) (by omega)) w).trans (by rw[show(((j:Nat):Int)+1:Int)=((j+1:Nat):Int)from by omega]))) λA=>?_;refine sda A λA=>?_;refine qa ?_;refine bw _ _ _ (by omega) ⟨j+1,rfl,⟨by omega,by rw[ar,zrf it1 iu1,aj,Bool.true_and]⟩,A.keep _ (by repeat' constructor),M⟩
         ·refine zn (by kernel_rfl) (jc A 10 rfl rfl rfl rfl ec ((aj▸ih (by have:=qhi mt1; omega) (Dt.keep M.bel _ rt1_) (Dt.keep M.bel _ ru1_))) ?_);rintro _ _ ⟨rfl,ce⟩;replace M:=M.call ce;refine⟨_,rfl,(M.sub (cC (cC ns))),?_⟩;intro a A;refine atk (v:=bV true) A 11 rfl hP (M.sub (cC (cC ns))) (λ_ M=>ya rfl qaf) λA=>?_;refine jl (by kernel_rfl) ?_;refine ay _ _ (ct A ?_);refine wsr fun _ cg=>sda A λA=>?_;refine qr1 cg hret A ?_;exact⟨by rw[hsy,ar,zrf it1 iu1,aj]; rfl,M.bel⟩
        ·have ah':=fy ah;refine sdc A qy ah λA=>?_;refine qcf ax A ?_;refine wp_exit (bq _ _ (wsr fun _ ch=>sda A λA=>?_));refine qr1 ch hret A ?_;exact⟨by rw[hsy,ar,jhg (by omega)],M.bel⟩
      ·refine gcl A M ec (zah (Dt.keep M.bel _ ht) (Dt.keep M.bel _ hu) ai) fun _ _ M a A=>?_;refine sdu A λA=>?_;refine sdk (v:=bV true) A λA=>?_;refine qct am A ?_;refine wsr fun _ ci=>sda A λA=>?_;refine qr1 ci hret A ?_;exact⟨by rw[qhe (.inr (.inr (.inr (.inr (.inr ai)))))],M.bel⟩
   ·have ab':=fy ab;refine sdo (v:=bV true) A (qb rfl rfl (fun w=>(kx gi w).trans (by rw[ab]<;>rfl))) λA=>?_;refine sdk (v:=bV true) A λA=>?_;refine sdm A λA=>?_;iterate 7 refine sks A λA=>?_
    refine sdk (v:=bV true) A λA=>?_;refine sdm A λA=>?_;iterate 7 refine sks A λA=>?_
    refine sdk (v:=bV true) A λA=>?_;refine sdm A λA=>?_;iterate 6 refine sks A λA=>?_
    refine sdk (v:=bV true) A λA=>?_;refine qct am A ?_;refine wsr fun _ cj=>sda A λA=>?_;refine qr1 cj hret A ?_;exact⟨by rw[qhe (.inr (.inr (.inl ab')))],M.bel⟩
theorem qnc: ∀n,RSames n
 | 0 => fun h => absurd h (j4 _)
 | n + 1 => zri (qnc n)
theorem zrj{w:World}{sa sb:Option Addr}{ca cb:Nat}{us vs:List Dt}(hRa:Rt w sa us)(hDa:∀t∈us,t.rd w)(hRb:Rt w sb vs)(hDb:∀t∈vs,t.rd w)(he:us.map Dt.tr=vs.map Dt.tr)(hl:us.length≤1000000000):Calls Tryz.prog 23 #[.slice sa us.length ca,.slice sb vs.length cb] w (RB w (bV true)):=by
 have hel:us.length=vs.length:=by have:=j9 List.length he; simpa using this
 have M:=Mg.start w;refine wof Tryz.func23 Tryz.ntmps23 fun Q hret hnorm hP a A=>?_;refine wsr fun _ ai=>sda A λA=>?_;refine qwk ai fun _ aj=>wsr fun _ ak=>sdm A λA=>?_;refine sdo A (qr f9 rfl) λA=>?_;refine sdm A λA=>?_;refine sdo A (qr f9 rfl) λA=>?_;refine sdo (v:=bV false) A (qb rfl rfl (fun w=>(zh w).trans (by rw[show((((us.length:Nat):Int) != ((vs.length:Nat):Int)))=false from(ie.2 (by omega))]))) λA=>?_;refine qcf ak A ?_;refine wp_skip (aj _ _ (wsk fun K4 am=>wsr fun _ ap=>sda A λA=>?_));refine qa (ap _ _ (wp_block (zg (fun m_ a w1=>∃(i:Nat),m_=1+(us.length-i)∧(i≤us.length)∧Sl a 27 [(0,.slice sa us.length ca),(1,.slice sb vs.length cb),(5,iV (((i:Nat):Int))),(6,.slice sa us.length ca),(7,iV (((us.length:Nat):Int))),(8,.slice sb vs.length cb),(9,iV (((vs.length:Nat):Int))),(10,bV false)]∧Mg w w1 ([])) _ ⟨0,rfl,ii _,A.keep _ (by repeat' constructor),M⟩ ?_)));clear M A;rintro m_ a _ ⟨i,rfl,ab,A,M⟩ _ aq;have _:=ab;refine wsk fun _ ar=>wsr fun _ ac=>?_;iterate 2 refine sdm A λA=>?_
 refine sdo A (qr f9 rfl) λA=>?_;rcases tf (decide (((i:Nat):Int)<((us.length:Nat):Int)))with aa|aa
 ·have aa':=f5 aa;refine sdc A qy aa λA=>?_;refine qct ac A ?_;refine wp_skip (ar _ _ (wsk fun _ ae=>wp_block (wsk fun _ af=>?_)));obtain⟨t1,bt1,ot1,it1,mt1,rt1_,lt1,Ht1⟩:=que hRa hDa (i:=i) (by omega);obtain⟨u1,bu1,ou1,iu1,mu1,ru1_,lu1,Hu1⟩:=que hRb hDb (i:=i) (by omega);refine xg (S:=fun w1=>Mg w w1 ([])) (by kernel_rfl) ?_;replace M:=M.drew;refine amv A 0 rfl hP (M.sub ns) λA=>?_;refine amv A 1 rfl hP (M.sub ns) λA=>?_;refine atk (v:=pA bt1 (ot1+i*11)) A 2 rfl hP (M.sub ns) (λ_ M=>qk (k:=i) f9 (by kernel_rfl) rfl rfl rfl lt1 (by omega)) λA=>?_;refine atk A 3 rfl hP (M.sub ns) (λ_ M=>zp M Ht1 zv rfl rfl) λA=>?_;refine amv A 4 rfl hP (M.sub ns) λA=>?_;refine amv A 5 rfl hP (M.sub ns) λA=>?_;refine atk (v:=pA bu1 (ou1+i*11)) A 6 rfl hP (M.sub ns) (λ_ M=>qk (k:=i) f9 (by kernel_rfl) rfl rfl rfl lu1 (by omega)) λA=>?_;refine atk A 7 rfl hP (M.sub ns) (λ_ M=>zp M Hu1 zv rfl rfl) λA=>?_;refine zn (by kernel_rfl) (jc A 8 rfl rfl rfl rfl ec ((((jqc t1.tr u1.tr).2 (xka he it1 iu1))▸qnc (t1.tr.bulk+1) (t:=t1) (u:=u1) (Nat.lt_succ_self _) (Dt.keep M.bel _ rt1_) (Dt.keep M.bel _ ru1_))) ?_);rintro _ _ ⟨rfl,ag⟩;replace M:=M.call ag;refine⟨_,rfl,(M.sub ns),?_⟩;intro a A;refine atk (v:=bV false) A 9 rfl hP (M.sub ns) (λ_ M=>ya rfl qaf) λA=>?_;refine jl (by kernel_rfl) ?_;refine af _ _ (cf A ?_);refine wp_skip (ae _ _ (wrl (sdm A λA=>?_)));refine sdo (v:=iV (((i+1:Nat):Int))) A (qb rfl rfl (fun w=>(zq (jk (by omega) (by omega)) w).trans (by rw[show(((i:Nat):Int)+1:Int)=((i+1:Nat):Int)from by omega]))) λA=>?_;refine sda A λA=>?_;refine qa ?_;refine aq _ _ _ (by omega) ⟨i+1,rfl,by omega,A.keep _ (by repeat' constructor),M⟩
 ·have aa':=fy aa;refine sdc A qy aa λA=>?_;refine qcf ac A ?_;refine wp_exit (am _ _ (wsr fun _ ah=>sda A λA=>?_));refine qr1 ah hret A ?_;exact⟨rfl,M.bel⟩
theorem jqj: un (-1)=0:=by unfold un; rw[zjh]; rfl
theorem qcd{t:Int}(h:okT 20 t=true):un t=(kat t).own+un (kat t).par:=by unfold un; rw[qyh h,i6,List.sum_cons]
theorem xhj: ∀i,i<20→(kds.getD i xx).own=if i=1∨i=7∨i=8∨i=17 then 1 else if i=12 then 2 else 0:=by decide
theorem qrh{t:Int}(h:okT 20 t=true):(kat t).own=if t=1∨t=7∨t=8∨t=17 then 1 else if t=12 then 2 else 0:=by
 have h1:=qba h;have:=xhj t.toNat (by omega);rw[←qra h]at this;rw[this];by_cases h2:t=1∨t=7∨t=8∨t=17
 ·rw[gj h2,gj (by omega)]
 ·rw[f7 h2,f7 (by omega)];by_cases h3:t=12
  ·rw[gj h3,gj (by omega)]
  ·rw[f7 h3,f7 (by omega)]
theorem xbd{vs:List Dt}{t:Dt}(h:t∈vs)(hs:qs qh t.tr=false):(vs.map Dt.tr).all (qs qh)=false:=by
 apply lj.2;intro k;rw[j3.1 k _ (j5 h)]at hs;cases hs
theorem jra{vs:List Dt}{i:Nat}{t:Dt}(h:((vs.take i).map Dt.tr).all (qs qh)=true)(hi:vs[i]?=some t)(hs:qs qh t.tr=true):((vs.take (i+1)).map Dt.tr).all (qs qh)=true:=by
 obtain⟨hl,rfl⟩:=List.getElem?_eq_some_iff.1 hi;rw[List.take_succ_eq_append_getElem hl,j6,List.all_append,h,List.map_singleton,List.all_cons,hs];rfl
theorem zsa{w:World}{t:Int}(ht:okT 20 t=true):Calls Tryz.prog 74 #[iV t] w (RB w (iV (un t))):=by
 have ht9:=qba ht;have hcr:=jyc ht;have M:=Mg.start w;refine wof Tryz.func74 Tryz.ntmps74 fun Q hret hnorm hP a A=>?_;refine wsr fun _ az=>sda A λA=>?_;refine qwr az fun _ bd=>sda A λA=>?_;refine qa (bd _ _ (wsk fun _ bf=>wp_block (zg (fun m_ a w1=>∃(x:Int) (n:Int),m_=(x+1).toNat∧(-1≤x∧x≤t∧0≤n∧n≤2*(t-x)∧n+un x=un t)∧Sl a 21 [(0,iV x),(2,iV 0),(3,iV n)]∧Mg w w1 ([])) _ ⟨t,0,rfl,⟨by omega,by omega,by omega,by omega,by omega⟩,A.keep _ ⟨rfl,rfl,rfl,trivial⟩,M⟩ ?_)));clear M A;rintro m_ a _ ⟨x,n,rfl,ak,A,M⟩ _ aj;obtain⟨_,ax,hn0,hn1,au⟩:=ak;refine wsk fun _ bg=>wsr fun _ ay=>sdm A λA=>?_;rcases tf (decide (0≤x))with ai|ai
 ·have ai':=f5 ai;refine sdc A zt ai λA=>?_;refine qct ay A ?_;refine wp_skip (bg _ _ (wp_block (wsk fun _ ag=>wsr fun _ av=>sdm A λA=>?_)));refine qa (av _ _ (wp_block (wsk fun _ ah=>wsr fun _ am=>?_)));rcases tf ((x==1))with aa|aa
  ·have aa':=gr aa;refine sdc A qe aa λA=>?_;refine sda A λA=>?_;refine qct am A ?_;refine wp_skip (ah _ _ (ct A ?_));refine wrl (sdm A λA=>?_);refine sdo (v:=iV (n+1)) A (qb rfl rfl (zq (jk (by omega) (by omega)))) λA=>?_;refine sda A λA=>?_;refine qa (ag _ _ (wrl (sdm A λA=>?_)));have hx:okT 20 x=true:=qah (by omega) (by omega);have hpr:=qdi hx;have hst:=qcd hx;have how:(kat x).own=1:=(by rw[qrh hx]; rw[gj (by omega)]);refine gcl A M ec ((qna hx▸km)) fun bh _ M a A=>?_;refine sda A λA=>?_;refine qa ?_;replace M:Mg w bh ([]):=by
    have h9:=M.sub (.refl _);exact h9
   refine aj _ _ _ (by omega) ⟨(kat x).par,n+1,rfl,⟨by omega,by omega,by omega,by omega,by omega⟩,A.keep _ ⟨rfl,rfl,rfl,trivial⟩,M⟩
  ·have aa':=f6 aa;refine sdc A qe aa λA=>?_;refine sda A λA=>?_;refine qcf am A ?_;refine wsr fun _ ap=>?_;rcases tf ((x==7))with ab|ab
   ·have ab':=gr ab;refine sdc A qe ab λA=>?_;refine sda A λA=>?_;refine qct ap A ?_;refine wp_skip (ah _ _ (ct A ?_));refine wrl (sdm A λA=>?_);refine sdo (v:=iV (n+1)) A (qb rfl rfl (zq (jk (by omega) (by omega)))) λA=>?_;refine sda A λA=>?_;refine qa (ag _ _ (wrl (sdm A λA=>?_)));have hx:okT 20 x=true:=qah (by omega) (by omega);have hpr:=qdi hx;have hst:=qcd hx;have how:(kat x).own=1:=(by rw[qrh hx]; rw[gj (by omega)]);refine gcl A M ec ((qna hx▸km)) fun bi _ M a A=>?_;refine sda A λA=>?_;refine qa ?_;replace M:Mg w bi ([]):=by
     have h9:=M.sub (.refl _);exact h9
    refine aj _ _ _ (by omega) ⟨(kat x).par,n+1,rfl,⟨by omega,by omega,by omega,by omega,by omega⟩,A.keep _ ⟨rfl,rfl,rfl,trivial⟩,M⟩
   ·have ab':=f6 ab;refine sdc A qe ab λA=>?_;refine sda A λA=>?_;refine qcf ap A ?_;refine wsr fun _ aq=>?_;rcases tf ((x==8))with ac|ac
    ·have ac':=gr ac;refine sdc A qe ac λA=>?_;refine sda A λA=>?_;refine qct aq A ?_;refine wp_skip (ah _ _ (ct A ?_));refine wrl (sdm A λA=>?_);refine sdo (v:=iV (n+1)) A (qb rfl rfl (zq (jk (by omega) (by omega)))) λA=>?_;refine sda A λA=>?_;refine qa (ag _ _ (wrl (sdm A λA=>?_)));have hx:okT 20 x=true:=qah (by omega) (by omega);have hpr:=qdi hx;have hst:=qcd hx;have how:(kat x).own=1:=(by rw[qrh hx]; rw[gj (by omega)]);refine gcl A M ec ((qna hx▸km)) fun bj _ M a A=>?_;refine sda A λA=>?_;refine qa ?_;replace M:Mg w bj ([]):=by
      have h9:=M.sub (.refl _);exact h9
     refine aj _ _ _ (by omega) ⟨(kat x).par,n+1,rfl,⟨by omega,by omega,by omega,by omega,by omega⟩,A.keep _ ⟨rfl,rfl,rfl,trivial⟩,M⟩
    ·have ac':=f6 ac;refine sdc A qe ac λA=>?_;refine sda A λA=>?_;refine qcf aq A ?_;refine wrl ?_;rcases tf ((x==17))with ae|ae
     ·have ae':=gr ae;refine sdc A qe ae λA=>?_;refine sda A λA=>?_;refine qct ah A ?_;refine wrl (sdm A λA=>?_);refine sdo (v:=iV (n+1)) A (qb rfl rfl (zq (jk (by omega) (by omega)))) λA=>?_;refine sda A λA=>?_;refine qa (ag _ _ (wrl (sdm A λA=>?_)));have hx:okT 20 x=true:=qah (by omega) (by omega);have hpr:=qdi hx;have hst:=qcd hx;have how:(kat x).own=1:=(by rw[qrh hx]; rw[gj (by omega)]);refine gcl A M ec ((qna hx▸km)) fun bn _ M a A=>?_;refine sda A λA=>?_;refine qa ?_;replace M:Mg w bn ([]):=by
       have h9:=M.sub (.refl _);exact h9
      refine aj _ _ _ (by omega) ⟨(kat x).par,n+1,rfl,⟨by omega,by omega,by omega,by omega,by omega⟩,A.keep _ ⟨rfl,rfl,rfl,trivial⟩,M⟩
     ·have ae':=f6 ae;refine sdc A qe ae λA=>?_;refine sda A λA=>?_;refine qcf ah A ?_;refine wsr fun _ ar=>?_;rcases tf ((x==12))with af|af
      ·have af':=gr af;refine sdc A qe af λA=>?_;refine sda A λA=>?_;refine qct ar A ?_;refine wrl (sdm A λA=>?_);refine sdo (v:=iV (n+2)) A (qb rfl rfl (zq (jk (by omega) (by omega)))) λA=>?_;refine sda A λA=>?_;refine qa (ag _ _ (wrl (sdm A λA=>?_)));have hx:okT 20 x=true:=qah (by omega) (by omega);have hpr:=qdi hx;have hst:=qcd hx;have how:(kat x).own=2:=(by rw[qrh hx]; rw[f7 (by omega),gj (by omega)]);refine gcl A M ec ((qna hx▸km)) fun bp _ M a A=>?_;refine sda A λA=>?_;refine qa ?_;replace M:Mg w bp ([]):=by
        have h9:=M.sub (.refl _);exact h9
       refine aj _ _ _ (by omega) ⟨(kat x).par,n+2,rfl,⟨by omega,by omega,by omega,by omega,by omega⟩,A.keep _ ⟨rfl,rfl,rfl,trivial⟩,M⟩
      ·have af':=f6 af;refine sdc A qe af λA=>?_;refine sda A λA=>?_;refine qcf ar A ?_;refine wp_skip (ag _ _ (wrl (sdm A λA=>?_)));have hx:okT 20 x=true:=qah (by omega) (by omega);have hpr:=qdi hx;have hst:=qcd hx;have how:(kat x).own=0:=(by rw[qrh hx]; rw[f7 (by omega),f7 (by omega)]);refine gcl A M ec ((qna hx▸km)) fun bq _ M a A=>?_;refine sda A λA=>?_;refine qa ?_;replace M:Mg w bq ([]):=by
        have h9:=M.sub (.refl _);exact h9
       refine aj _ _ _ (by omega) ⟨(kat x).par,n,rfl,⟨by omega,by omega,by omega,by omega,by omega⟩,A.keep _ ⟨rfl,rfl,rfl,trivial⟩,M⟩
 ·have ai':=fy ai;refine sdc A zt ai λA=>?_;refine qcf ay A ?_;refine wp_exit (bf _ _ (wsr fun _ aw=>sdm A λA=>?_));refine sda A λA=>?_;refine qr1 aw hret A ?_;have ax:x=-1:=by omega
  subst ax;rw[jqj]at au;exact⟨by rw[show n=un t by omega],M.bel⟩
theorem zai{w:World}{so:Option Addr}{ca:Nat}{ps:List Sp}(hPs:PR w so ps)(hB4:∀p∈ps,Tr.bulks (p.vs.map Dt.tr)≤3000000)(hl:ps.length≤1000000000):Calls Tryz.prog 40 #[.slice so ps.length ca] w (RB w (iV (ckC (ps.map Sp.k)))):=by
 have M:=Mg.start w;refine wof Tryz.func40 Tryz.ntmps40 fun Q hret hnorm hP a A=>?_;refine wsr fun _ br=>sda A λA=>?_;refine qwk br fun _ bw=>wsr fun _ bq=>sdm A λA=>?_;refine sdo A (qr ic rfl) λA=>?_;rcases tf (decide (16<((ps.length:Nat):Int)))with ah|ah
 ·have ah':=f5 ah;refine sdc A jh ah λA=>?_;refine qct bq A ?_;refine wsr fun _ bz=>sda A λA=>?_;refine qr1 bz hret A ?_;exact⟨by rw[zfb (by rw[gy]; omega)],M.bel⟩
 ·have ah':=fy ah;refine sdc A jh ah λA=>?_;refine qcf bq A ?_;refine wp_skip (bw _ _ (wsk fun _ cc=>wsr fun _ cd=>sda A λA=>?_));refine qa (cd _ _ (wp_block (zg (fun m_ a w1=>∃(i:Nat),m_=1+(ps.length-i)∧(i≤ps.length∧ckA ((ps.map Sp.k).drop i)=ckA (ps.map Sp.k))∧Sl a 54 [(0,.slice so ps.length ca),(3,iV (((i:Nat):Int))),(5,.slice so ps.length ca),(6,iV (((ps.length:Nat):Int))),(7,bV false)]∧Mg w w1 ([])) _ ⟨0,rfl,⟨ii _,rfl⟩,A.keep _ ⟨rfl,rfl,rfl,rfl,rfl,trivial⟩,M⟩ ?_)));clear M A;rintro m_ a _ ⟨i,rfl,ai,A,M⟩ _ ce;obtain⟨_,af⟩:=ai;refine wsk fun _ av=>wsr fun _ ak=>?_;iterate 2 refine sdm A λA=>?_
  refine sdo A (qr ic rfl) λA=>?_;rcases tf (decide (((i:Nat):Int)<((ps.length:Nat):Int)))with ac|ac
  ·have ac':=f5 ac;refine sdc A qy ac λA=>?_;refine qct ak A ?_;refine wp_skip (av _ _ (wsk fun _ aw=>wp_block (wsk fun _ ax=>wsr fun _ am=>?_)));iterate 2 refine sdm A λA=>?_
   obtain⟨sp17,bs18,os19,is20,ms21,rs22,ls23,Hs24⟩:=hPs.at_ (i:=i) (by omega);refine sdo (v:=pA bs18 (os19+i*2)) A (qk (k:=i) ic (by kernel_rfl) rfl rfl (by first|rfl|omega) ls23 (by omega)) λA=>?_;refine sdo (v:=pA bs18 (os19+i*2)) A (qp qch rfl rfl) λA=>?_;refine sdo A (xl (j:=0) M Hs24 o93 rfl rfl rfl) λA=>?_;rcases tf (okT 20 sp17.ty)with ab|ab
   ·have hn27:decide ((kat sp17.ty).nm=⟨#[]⟩)=false:=gn (xea ab);refine gcl A M ec (qrf) fun _ _ M a A=>?_;refine sdo (v:=bV false) A (qb rfl rfl (fun w=>(je gi w).trans (by rw[hn27]<;>rfl))) λA=>?_;refine qcf am A ?_;refine wp_skip (ax _ _ (wsk fun _ ay=>wsk fun _ ap=>xg (S:=fun w1=>Mg w w1 ([])) (by kernel_rfl) ?_));replace M:=M.drew;refine amv A 0 rfl hP (M.sub ns) λA=>?_;refine amv A 1 rfl hP (M.sub ns) λA=>?_;refine atk (v:=pA bs18 (os19+i*2)) A 2 rfl hP (M.sub ns) (λ_ M=>qk (k:=i) ic (by kernel_rfl) rfl rfl (by first|rfl|omega) ls23 (by omega)) λA=>?_;refine atk (v:=pA bs18 (os19+i*2+1)) A 3 rfl hP (M.sub ns) (λ_ M=>qp qci rfl rfl) λA=>?_;refine atk A 4 rfl hP (M.sub ns) (λ_ M=>xl (j:=1) M Hs24 ke rfl rfl rfl) λA=>?_;refine atk (v:=iV (((sp17.vs.length:Nat):Int))) A 5 rfl hP (M.sub ns) (λ_ M=>qr f9 rfl) λA=>?_;refine amv A 6 rfl hP (M.sub ns) λA=>?_;refine amv A 7 rfl hP (M.sub ns) λA=>?_;refine atk (v:=pA bs18 (os19+i*2)) A 8 rfl hP (M.sub ns) (λ_ M=>qk (k:=i) ic (by kernel_rfl) rfl rfl (by first|rfl|omega) ls23 (by omega)) λA=>?_;refine atk (v:=pA bs18 (os19+i*2)) A 9 rfl hP (M.sub ns) (λ_ M=>qp qch rfl rfl) λA=>?_;refine atk A 10 rfl hP (M.sub ns) (λ_ M=>xl (j:=0) M Hs24 o93 rfl rfl rfl) λA=>?_;refine zn (by kernel_rfl) (jc A 11 rfl rfl rfl rfl ec (zsa ab) ?_);rintro _ _ ⟨rfl,az⟩;replace M:=M.call az;refine⟨_,rfl,(M.sub ns),?_⟩;intro a A;rcases tf ((((sp17.vs.length:Nat):Int) != un sp17.ty))with aa|aa
    ·have aa':=iy.1 aa;refine atk (v:=bV true) A 12 rfl hP (M.sub ns) (λ_ M=>qb rfl rfl (fun w=>(zh w).trans (by rw[aa]))) λA=>?_;refine jl (by kernel_rfl) ?_;refine ap _ _ (ct A ?_);refine wsr fun _ bd=>sda A λA=>?_;refine qr1 bd hret A ?_;exact⟨by rw[qcb (by rw[gy]; omega),←af,qfb (yg is20),jde ab aa',f7 (by decide)],M.bel⟩
    ·have aa':=ie.1 aa;refine atk (v:=bV false) A 12 rfl hP (M.sub ns) (λ_ M=>qb rfl rfl (fun w=>(zh w).trans (by rw[aa]))) λA=>?_;refine jl (by kernel_rfl) ?_;refine ap _ _ (cf A ?_);refine wp_skip (ay _ _ (wsr fun _ bf=>sda A λA=>?_));refine qa (bf _ _ (wp_block ?_));obtain⟨vl,hvl⟩:∃q,q=sp17.vs.length:=⟨_,rfl⟩;have hvb:=yj sp17.vs;have hv4:=hB4 _ ms21;refine zg (fun m_ a w1=>∃(k:Nat),m_=1+(vl-k)∧(k≤sp17.vs.length∧((sp17.vs.take k).map Dt.tr).all (qs qh)=true)∧Sl a 54 [(0,.slice so ps.length ca),(3,iV (((i:Nat):Int))),(4,iV (((k:Nat):Int))),(5,.slice so ps.length ca),(6,iV (((ps.length:Nat):Int))),(7,bV false),(8,iV (((i:Nat):Int))),(9,.slice so ps.length ca),(10,iV (((ps.length:Nat):Int))),(11,bV true),(14,.slice so ps.length ca),(15,iV (((i:Nat):Int))),(16,pA bs18 (os19+i*2)),(17,pA bs18 (os19+i*2)),(18,iV sp17.ty),(19,.string ((kat sp17.ty).nm)),(20,bV false),(21,.slice so ps.length ca),(22,iV (((i:Nat):Int))),(23,pA bs18 (os19+i*2)),(24,pA bs18 (os19+i*2+1)),(25,.slice sp17.vo sp17.vs.length sp17.vc),(26,iV (((sp17.vs.length:Nat):Int))),(27,.slice so ps.length ca),(28,iV (((i:Nat):Int))),(29,pA bs18 (os19+i*2)),(30,pA bs18 (os19+i*2)),(31,iV sp17.ty),(32,iV (un sp17.ty)),(33,bV false)]∧Mg w w1 ([])) _ ⟨0,rfl,⟨ii _,rfl⟩,A.keep _ (by repeat' constructor),M⟩ ?_;clear M A;rintro m_ a cg ⟨k,rfl,aj,A,M⟩ _ bg;obtain⟨_,aq⟩:=aj;refine wsk fun _ bh=>wsr fun _ ar=>?_;iterate 3 refine sdm A λA=>?_
     refine sdo (v:=pA bs18 (os19+i*2)) A (qk (k:=i) ic (by kernel_rfl) rfl rfl (by first|rfl|omega) ls23 (by omega)) λA=>?_;refine sdo (v:=pA bs18 (os19+i*2+1)) A (qp qci rfl rfl) λA=>?_;refine sdo A (xl (j:=1) M Hs24 ke rfl rfl rfl) λA=>?_;refine sdo A (qr f9 rfl) λA=>?_;rcases tf (decide (((k:Nat):Int)<((sp17.vs.length:Nat):Int)))with ae|ae
     ·have ae':=f5 ae;refine sdc A qy ae λA=>?_;refine qct ar A ?_;refine wp_skip (bh _ _ (wsk fun _ bi=>wp_block (wsr fun _ au=>?_)));iterate 2 refine sdm A λA=>?_
      refine sdo (v:=pA bs18 (os19+i*2)) A (qk (k:=i) ic (by kernel_rfl) rfl rfl (by first|rfl|omega) ls23 (by omega)) λA=>?_;refine sdo (v:=pA bs18 (os19+i*2+1)) A (qp qci rfl rfl) λA=>?_;refine sdo A (xl (j:=1) M Hs24 ke rfl rfl rfl) λA=>?_;refine sdm A λA=>?_;obtain⟨tk45,btk45,otk45,itk45,mtk45,rtk45_,ltk45,Htk45⟩:=que rs22.v rs22.d (i:=k) (by omega);refine sdo (v:=pA btk45 (otk45+k*11)) A (qk (k:=k) f9 (by kernel_rfl) rfl rfl (by first|rfl|omega) ltk45 (by omega)) λA=>?_;refine sdo A (zp M Htk45 zv rfl rfl) λA=>?_;rcases tf (qs qh tk45.tr)with ag|ag
      ·refine gcl A M ec ((ag▸rsound_any (t:=tk45) (Dt.keep M.bel _ rtk45_) (by have h8:=qdh mtk45; have h9:=hB4 _ ms21; omega))) fun ch _ M a A=>?_;refine sdu A λA=>?_;refine qcf au A ?_;refine wp_skip (bi _ _ (wrl (sdm A λA=>?_)));refine sdo (v:=iV (((k+1:Nat):Int))) A (qb rfl rfl (fun w=>(zq (jk (by omega) (by omega)) w).trans (by rw[show(((k:Nat):Int)+1:Int)=((k+1:Nat):Int)from by omega]))) λA=>?_;refine sda A λA=>?_;refine qa ?_;replace M:Mg w ch ([]):=by
        have h9:=M.sub (.refl _);exact h9
       refine bg _ _ _ (by omega) ⟨k+1,rfl,⟨by omega,jra aq itk45 ag⟩,A.keep _ (by repeat' constructor),M⟩
      ·refine gcl A M ec ((ag▸rsound_any (t:=tk45) (Dt.keep M.bel _ rtk45_) (by have h8:=qdh mtk45; have h9:=hB4 _ ms21; omega))) fun _ _ M a A=>?_;refine sdu A λA=>?_;refine qct au A ?_;refine wsr fun _ bj=>sda A λA=>?_;refine qr1 bj hret A ?_;exact⟨by rw[qcb (by rw[gy]; omega),←af,qfb (yg is20),qvg ab aa' (xbd mtk45 ag)]<;>rfl,M.bel⟩
     ·have ae':=fy ae;refine sdc A qy ae λA=>?_;refine qcf ar A ?_;refine wp_exit (aw _ _ (wrl (sdm A λA=>?_)));refine sdo (v:=iV (((i+1:Nat):Int))) A (qb rfl rfl (fun w=>(zq (jk (by omega) (by omega)) w).trans (by rw[show(((i:Nat):Int)+1:Int)=((i+1:Nat):Int)from by omega]))) λA=>?_;refine sda A λA=>?_;refine qa ?_;replace M:Mg w cg ([]):=by
       have h9:=M.sub (.refl _);exact h9
      refine ce _ _ _ (by omega) ⟨i+1,rfl,⟨by omega,by rw[←af,qfb (i:=i) (yg is20),qvg ab aa' (b:=true) (by rw[←aq,ld (by omega)])]; rfl⟩,A.keep _ ⟨rfl,rfl,rfl,rfl,rfl,trivial⟩,M⟩
   ·refine gcl A M ec (xah ab) fun _ _ M a A=>?_;refine sdo (v:=bV true) A (qb rfl rfl (fun w=>(je gi w).trans (by rw[gv rfl]<;>rfl))) λA=>?_;refine qct am A ?_;refine wsr fun _ bn=>sda A λA=>?_;refine qr1 bn hret A ?_;exact⟨by rw[qcb (by rw[gy]; omega),←af,qfb (yg is20),zpi ab,f7 (by decide)],M.bel⟩
  ·have ac':=fy ac;refine sdc A qy ac λA=>?_;refine qcf ak A ?_;refine wp_exit (cc _ _ (wsr fun _ bp=>sda A λA=>?_));refine qr1 bp hret A ?_;exact⟨by rw[qcb (by rw[gy]; omega),←af,i7 (by rw[gy]; omega)]<;>rfl,M.bel⟩
theorem rfirst_any{w:World}{so:Option Addr}{ca:Nat}{ps:List Sp}(hPs:PR w so ps)(hl:ps.length≤1000000000)(hO:∀p∈ps,okT 20 p.ty=true){t:Int}:Calls Tryz.prog 41 #[.slice so ps.length ca,iV t] w (RB w (iV (fdI (ps.map Sp.k) t))):=by
 have M:=Mg.start w;refine wof Tryz.func41 Tryz.ntmps41 fun Q hret hnorm hP a A=>?_;refine wsr fun _ ak=>sda A λA=>?_;refine qwk ak fun _ am=>wsr fun _ ap=>sda A λA=>?_;refine qa (ap _ _ (wp_block (zg (fun m_ a w1=>∃(i:Nat),m_=1+(ps.length-i)∧(i≤ps.length∧∀(j:Nat) u,j<i→ps[j]?=some u→(fun p:Sp=>yn p.ty t) u=false)∧Sl a 20 [(0,.slice so ps.length ca),(1,iV t),(5,iV (((i:Nat):Int)))]∧Mg w w1 ([])) _ ⟨0,rfl,⟨ii _,fun j u h=>absurd h (j4 _)⟩,A.keep _ ⟨rfl,rfl,rfl,trivial⟩,M⟩ ?_)));clear M A;rintro m_ a _ ⟨i,rfl,ae,A,M⟩ _ aq;obtain⟨_,ab⟩:=ae;refine wsk fun _ ar=>wsr fun _ aj=>?_;iterate 2 refine sdm A λA=>?_
 refine sdo A (qr ic rfl) λA=>?_;rcases tf (decide (((i:Nat):Int)<((ps.length:Nat):Int)))with ac|ac
 ·have ac':=f5 ac;refine sdc A qy ac λA=>?_;refine qct aj A ?_;refine wp_skip (ar _ _ (wsk fun _ ag=>wp_block (wsr fun _ af=>?_)));iterate 2 refine sdm A λA=>?_
  obtain⟨sp12,bs13,os14,is15,ms16,rs17,ls18,Hs19⟩:=hPs.at_ (i:=i) (by omega);refine sdo (v:=pA bs13 (os14+i*2)) A (qk (k:=i) ic (by kernel_rfl) rfl rfl (by first|rfl|omega) ls18 (by omega)) λA=>?_;refine sdo (v:=pA bs13 (os14+i*2)) A (qp qch rfl rfl) λA=>?_;refine sdo A (xl (j:=0) M Hs19 o93 rfl rfl rfl) λA=>?_;refine sdm A λA=>?_;rcases tf (yn sp12.ty t)with aa|aa
  ·refine gcl A M ec ((aa▸qzi (hO _ ms16))) fun _ _ M a A=>?_;refine qct af A ?_;refine wsr fun _ ah=>sdm A λA=>?_;refine sda A λA=>?_;refine qr1 ah hret A ?_;exact⟨by rw[zwa,zje (p:=fun p:Sp=>yn p.ty t) ab is15 aa],M.bel⟩
  ·refine gcl A M ec ((aa▸qzi (hO _ ms16))) fun au _ M a A=>?_;refine qcf af A ?_;refine wp_skip (ag _ _ (wrl (sdm A λA=>?_)));refine sdo (v:=iV (((i+1:Nat):Int))) A (qb rfl rfl (fun w=>(zq (jk (by omega) (by omega)) w).trans (by rw[show(((i:Nat):Int)+1:Int)=((i+1:Nat):Int)from by omega]))) λA=>?_;refine sda A λA=>?_;refine qa ?_;replace M:Mg w au ([]):=by
    have h9:=M.sub (.refl _);exact h9
   refine aq _ _ _ (by omega) ⟨i+1,rfl,⟨by omega,fun j u hj hu=>if h9:j<i then ab j u h9 hu else by have h8:j=i:=(by omega); subst h8; rw[is15]at hu; rw[←io hu]; exact aa⟩,A.keep _ ⟨rfl,rfl,rfl,trivial⟩,M⟩
 ·have ac':=fy ac;refine sdc A qy ac λA=>?_;refine qcf aj A ?_;refine wp_exit (am _ _ (wsr fun _ ai=>sda A λA=>?_));refine qr1 ai hret A ?_;exact⟨by rw[zwa,qye (p:=fun p:Sp=>yn p.ty t) (fun j u hj=>ab j u (by omega))],M.bel⟩
theorem jrb{xs ys:List Sp}(h:xs.map Sp.k=ys.map Sp.k){i:Nat}{p q:Sp}(hp:xs[i]?=some p)(hq:ys[i]?=some q):p.k=q.k:=by
 have h1:=yg hp;rw[h,yg hq]at h1;exact(io h1).symm
theorem qqh{w:World}{sa sb:Option Addr}{ca cb:Nat}{xs ys:List Sp}(hPa:PR w sa xs)(hPb:PR w sb ys)(he:xs.map Sp.k=ys.map Sp.k)(hBl:∀p∈xs,p.vs.length≤1000000000)(hl:xs.length≤1000000000):Calls Tryz.prog 10 #[.slice sa xs.length ca,.slice sb ys.length cb] w (RB w (bV true)):=by
 have hel:xs.length=ys.length:=by have:=j9 List.length he; simpa using this
 have M:=Mg.start w;refine wof Tryz.func10 Tryz.ntmps10 fun Q hret hnorm hP a A=>?_;refine wsr fun _ ai=>sda A λA=>?_;refine qwk ai fun _ aj=>wsr fun _ ak=>sdm A λA=>?_;refine sdo A (qr ic rfl) λA=>?_;refine sdm A λA=>?_;refine sdo A (qr ic rfl) λA=>?_;refine sdo (v:=bV false) A (qb rfl rfl (fun w=>(zh w).trans (by rw[show((((xs.length:Nat):Int) != ((ys.length:Nat):Int)))=false from(ie.2 (by omega))]))) λA=>?_;refine qcf ak A ?_;refine wp_skip (aj _ _ (wsk fun K4 am=>wsr fun _ ap=>sda A λA=>?_));refine qa (ap _ _ (wp_block (zg (fun m_ a w1=>∃(i:Nat),m_=1+(xs.length-i)∧(i≤xs.length)∧Sl a 42 [(0,.slice sa xs.length ca),(1,.slice sb ys.length cb),(5,iV (((i:Nat):Int))),(6,.slice sa xs.length ca),(7,iV (((xs.length:Nat):Int))),(8,.slice sb ys.length cb),(9,iV (((ys.length:Nat):Int))),(10,bV false)]∧Mg w w1 ([])) _ ⟨0,rfl,ii _,A.keep _ (by repeat' constructor),M⟩ ?_)));clear M A;rintro m_ a _ ⟨i,rfl,ab,A,M⟩ _ aq;have _:=ab;refine wsk fun _ ar=>wsr fun _ ac=>?_;iterate 2 refine sdm A λA=>?_
 refine sdo A (qr ic rfl) λA=>?_;rcases tf (decide (((i:Nat):Int)<((xs.length:Nat):Int)))with aa|aa
 ·have aa':=f5 aa;refine sdc A qy aa λA=>?_;refine qct ac A ?_;refine wp_skip (ar _ _ (wsk fun _ ae=>wp_block (wsk fun _ af=>xg (S:=fun w1=>Mg w w1 ([])) (by kernel_rfl) ?_)));replace M:=M.drew;refine amv A 0 rfl hP (M.sub ns) λA=>?_;refine amv A 1 rfl hP (M.sub ns) λA=>?_;obtain⟨sp14,bs15,os16,is17,ms18,rs19,ls20,Hs21⟩:=hPa.at_ (i:=i) (by omega);refine atk (v:=pA bs15 (os16+i*2)) A 2 rfl hP (M.sub ns) (λ_ M=>qk (k:=i) ic (by kernel_rfl) rfl rfl (by first|rfl|omega) ls20 (by omega)) λA=>?_;refine atk (v:=pA bs15 (os16+i*2)) A 3 rfl hP (M.sub ns) (λ_ M=>qp qch rfl rfl) λA=>?_;refine atk A 4 rfl hP (M.sub ns) (λ_ M=>xl (j:=0) M Hs21 o93 rfl rfl rfl) λA=>?_;refine amv A 5 rfl hP (M.sub ns) λA=>?_;refine amv A 6 rfl hP (M.sub ns) λA=>?_;obtain⟨sp22,bs23,os24,is25,ms26,rs27,ls28,Hs29⟩:=hPb.at_ (i:=i) (by omega);refine atk (v:=pA bs23 (os24+i*2)) A 7 rfl hP (M.sub ns) (λ_ M=>qk (k:=i) ic (by kernel_rfl) rfl rfl (by first|rfl|omega) ls28 (by omega)) λA=>?_;refine atk (v:=pA bs23 (os24+i*2)) A 8 rfl hP (M.sub ns) (λ_ M=>qp qch rfl rfl) λA=>?_;refine atk A 9 rfl hP (M.sub ns) (λ_ M=>xl (j:=0) M Hs29 o93 rfl rfl rfl) λA=>?_;refine atk (v:=bV false) A 10 rfl hP (M.sub ns) (λ_ M=>qb rfl rfl (fun w=>(zh w).trans (by rw[show((sp14.ty != sp22.ty))=false from(ie.2 (j9 Prod.fst (jrb he is17 is25)))]))) λA=>?_;refine amv A 11 rfl hP (M.sub ns) λA=>?_;refine amv A 12 rfl hP (M.sub ns) λA=>?_;refine amv A 13 rfl hP (M.sub ns) λA=>?_;refine atk (v:=pA bs15 (os16+i*2)) A 14 rfl hP (M.sub ns) (λ_ M=>qk (k:=i) ic (by kernel_rfl) rfl rfl (by first|rfl|omega) ls20 (by omega)) λA=>?_;refine atk (v:=pA bs15 (os16+i*2+1)) A 15 rfl hP (M.sub ns) (λ_ M=>qp qci rfl rfl) λA=>?_;refine atk A 16 rfl hP (M.sub ns) (λ_ M=>xl (j:=1) M Hs21 ke rfl rfl rfl) λA=>?_;refine amv A 17 rfl hP (M.sub ns) λA=>?_
  refine amv A 18 rfl hP (M.sub ns) λA=>?_;refine atk (v:=pA bs23 (os24+i*2)) A 19 rfl hP (M.sub ns) (λ_ M=>qk (k:=i) ic (by kernel_rfl) rfl rfl (by first|rfl|omega) ls28 (by omega)) λA=>?_;refine atk (v:=pA bs23 (os24+i*2+1)) A 20 rfl hP (M.sub ns) (λ_ M=>qp qci rfl rfl) λA=>?_;refine atk A 21 rfl hP (M.sub ns) (λ_ M=>xl (j:=1) M Hs29 ke rfl rfl rfl) λA=>?_;refine zn (by kernel_rfl) (jc A 22 rfl rfl rfl rfl ec (zrj (rs19.v.below M.bel) (fun t ht=>Dt.keep M.bel _ (rs19.d t ht)) (rs27.v.below M.bel) (fun t ht=>Dt.keep M.bel _ (rs27.d t ht)) (j9 Prod.snd (jrb he is17 is25)) (hBl _ ms18)) ?_);rintro _ au ⟨rfl,ag⟩;replace M:=M.call ag;refine⟨_,rfl,(M.sub ns),?_⟩;intro a A;refine atk (v:=bV false) A 23 rfl hP (M.sub ns) (λ_ M=>ya rfl qaf) λA=>?_;refine atk (v:=bV false) A 24 rfl hP (M.sub ns) (λ_ M=>qbg rfl rfl rfl rfl) λA=>?_;refine jl (by kernel_rfl) ?_;refine af _ _ (cf A ?_);refine wp_skip (ae _ _ (wrl (sdm A λA=>?_)));refine sdo (v:=iV (((i+1:Nat):Int))) A (qb rfl rfl (fun w=>(zq (jk (by omega) (by omega)) w).trans (by rw[show(((i:Nat):Int)+1:Int)=((i+1:Nat):Int)from by omega]))) λA=>?_;refine sda A λA=>?_;refine qa ?_;replace M:Mg w au ([]):=by
   have h9:=M.sub (.refl _);exact h9
  refine aq _ _ _ (by omega) ⟨i+1,rfl,by omega,A.keep _ (by repeat' constructor),M⟩
 ·have aa':=fy aa;refine sdc A qy aa λA=>?_;refine qcf ac A ?_;refine wp_exit (am _ _ (wsr fun _ ah=>sda A λA=>?_));refine qr1 ah hret A ?_;exact⟨rfl,M.bel⟩
theorem jrc{w:World}:Calls Tryz.prog 65 #[] w (RB w (.agg (qxc.d.cells qxc.ts.length).toArray)):=by
 have M:=Mg.start w;refine wof Tryz.func65 Tryz.ntmps65 fun Q hret hnorm hP a A=>?_;refine wsr fun _ aa=>zj (vs:=(zb.d.cells zb.ts.length)) (t:=30) A M rfl rfl rfl pg (qm (z:=.agg (zb.d.cells zb.ts.length).toArray) (by kernel_rfl) rfl) (by decide) ?_;intro g2 _ M a A;refine qa (aa _ _ (wsr fun K4 ab=>sdo (v:=.agg #[iV 1,iV 0,bV false,.slice none 0 0,.slice none 0 0,bV false,.slice none 0 0,.slice none 0 0,.string (⟨#[]⟩),.slice none 0 0,.slice none 0 0]) A (qn rfl (fun w=>by kernel_rfl)) λA=>?_));refine qt A M rfl rfl (qj rfl rfl rfl (by kernel_rfl) M 0 rfl rfl rfl) 0 rfl rfl rfl ?_;intro _ M;refine qa (ab _ _ (wp_ret (hret _ _ (en1 A rfl (zw M zv rfl 0 rfl (cs:=[iV 1,iV 0,bV false,.slice none 0 0,.slice none 0 0,bV false,.slice none 0 0,.slice none 0 0,.string (⟨#[]⟩),.slice none 0 0,.slice none 0 0]) rfl rfl) ?_))));exact⟨rfl,M.bel⟩
theorem jic{w0 w:World}{t:Dt}(h0:Below w0.heap.size w0 w)(ht:t.rd w0)(hs:vi qh t.tr=true)(hb:t.tr.bulk≤1000000000):Calls Tryz.prog 77 #[.agg (t.d.cells t.ts.length).toArray] w fun e w'=>∃so' ca' ys,∃q:Dt,e=.returned (.tuple #[.slice so' (ys:List Dt).length ca',.agg (q.d.cells q.ts.length).toArray])∧(t.tr=zy (ys.map Dt.tr) q.tr∧q.d.k≠8∧vi qh q.tr=true∧(∀x∈ys,x.rd w0)∧q.rd w0∧ys.length≤t.tr.bulk)∧Mg w w' [.row 30 11 (.slice so' ys.length ca') ys.length (cellsOf ys)]:=by
 have M:=Mg.start w;refine wof Tryz.func77 Tryz.ntmps77 fun Q hret hnorm hP a A=>?_;refine wsr fun _ ak=>zj (vs:=(t.d.cells t.ts.length)) (t:=30) A M rfl rfl rfl pg (qx rfl rfl) (by decide) ?_;intro g2 _ M a A;refine sda A λA=>?_;refine zj (vs:=(zb.d.cells zb.ts.length)) (t:=30) A M rfl rfl rfl pg (qm (z:=.agg (zb.d.cells zb.ts.length).toArray) (by kernel_rfl) rfl) (by decide) ?_;intro g4 _ M a A;refine qa (ak _ _ (wsr fun _ am=>jr (e:=30) (sz:=11) (m:=0) (vs:=cellsOf []) A M rfl rfl rfl (qg rfl (by kernel_rfl)) rfl rfl (.inl (by decide)) ?_));intro g7 _ M a A;refine sda A λA=>?_;refine qa (am _ _ (wsk fun _ ap=>wp_block (zg (fun m_ a w1=>∃(p:Dt) (xs:List Dt) (so_:Option Addr) (ca_:Nat),m_=1+p.tr.bulk∧(p.rd w0∧vi qh p.tr=true∧(∀x∈xs,x.rd w0)∧t.tr=zy (xs.map Dt.tr) p.tr∧xs.length+p.tr.bulk≤t.tr.bulk)∧Sl a 22 [(0,.agg (t.d.cells t.ts.length).toArray),(1,pA g2 0),(2,.slice none 0 0),(3,pA g4 0),(4,.slice so_ xs.length ca_),(5,.slice (aO g7) 0 0)]∧Mg w w1 (.row 30 11 (.slice so_ xs.length ca_) xs.length (cellsOf xs)::.obj g4 (.cells (zb.d.cells zb.ts.length).toArray 30)::.obj g2 (.cells (p.d.cells p.ts.length).toArray 30)::[])) _ ⟨t,[],some ⟨g7,0,none⟩,0,rfl,⟨ht,hs,(fun x h=>by cases h),rfl,(by show 0+t.tr.bulk≤t.tr.bulk; omega)⟩,A.keep _ (by repeat' constructor),M⟩ ?_)));clear M A;rintro m_ a _ ⟨p,xs,so_,ca_,rfl,ab,A,M⟩ _ ag;obtain⟨hp,hps,hxs,htl,hbx⟩:=ab;refine wsk fun _ ah=>wsr fun _ ac=>sdf A 0 xk λA=>?_;refine sdl A M o93 2 λA=>?_;rcases tf ((p.d.k==8))with aa|aa
 ·have aa':=gr aa;refine sdc A qe aa λA=>?_;refine qct ac A ?_;refine wp_skip (ah _ _ (wp_block (wsk fun _ ai=>?_)));have l2p:=(zjc hps aa').1;have hbp:=zpd p;obtain⟨p0,bp0,op0,ip0,mp0,rp0_,lp0,Hp0⟩:=qeh hp (i:=0) (by omega);obtain⟨p1,bp1,op1,ip1,mp1,rp1_,lp1,Hp1⟩:=qeh hp (i:=1) (by omega);replace Hp0:=Hp0.below h0;replace Hp1:=Hp1.below h0;refine wrl (sdm A λA=>?_);refine sdf A 10 jz λA=>?_;refine sdl A M ke 2 λA=>?_;refine sdo (v:=pA bp0 (op0+0*11)) A (qk (k:=0) f9 (by kernel_rfl) rfl rfl rfl lp0 (by omega)) λA=>?_;refine sdo A (zp M Hp0 zv rfl rfl) λA=>?_;refine jr (e:=30) (sz:=11) (m:=1) (vs:=cellsOf [p0]) A M rfl rfl rfl (qg rfl (by kernel_rfl)) rfl rfl (.inl (by decide)) ?_;intro g17 _ M a A;refine xd (e:=30) (sz:=11) (k:=1) (q:=xs.length) (m:=1) (xs:=cellsOf xs) (news:=cellsOf [p0]) A rfl rfl rfl (yf (z:=.agg #[iV 0,iV 0,bV false,.slice none 0 0,.slice none 0 0,bV false,.slice none 0 0,.slice none 0 0,.string ⟨#[]⟩,.slice none 0 0,.slice none 0 0]) (sz:=11) (by_:=192) f9 (by kernel_rfl) rfl rfl rfl M 1 rfl rfl rfl rfl (vm (M.has 0 rfl)) (qgj [p0]) (by omega)) (fun _=>rfl) ?_;intro aq ar M a A;replace M:Mg w ar (.row 30 11 (.slice (aO g17) 1 1) 1 (cellsOf [p0])::.row 30 11 (aq) ((xs++[p0]).length) (cellsOf (xs++[p0]))::.obj g4 (.cells (zb.d.cells zb.ts.length).toArray 30)::.obj g2 (.cells (p.d.cells p.ts.length).toArray 30)::[]):=by
   rw[yx,fv]; exact M
  obtain⟨ae,af,rfl⟩:=xu (M.has 1 rfl);refine sda A λA=>?_;refine qa (ai _ _ (wrl (sdf A 10 jz λA=>?_)));refine sdl A M ke 3 λA=>?_;refine sdo (v:=pA bp1 (op1+1*11)) A (qk (k:=1) f9 (by kernel_rfl) rfl rfl rfl lp1 (by omega)) λA=>?_;refine sdo A (zp M Hp1 zv rfl rfl) λA=>?_;refine qt A M rfl rfl (qj rfl rfl rfl (by kernel_rfl) M 3 rfl rfl rfl) 3 rfl rfl rfl ?_;intro au M;refine qa ?_;replace M:Mg w au (.row 30 11 (.slice ae ((xs++[p0]).length) af) ((xs++[p0]).length) (cellsOf (xs++[p0]))::.obj g4 (.cells (zb.d.cells zb.ts.length).toArray 30)::.obj g2 (.cells (p1.d.cells p1.ts.length).toArray 30)::[]):=by
   have h9:=M.sub (cN (cC (cC (cC (.refl _)))));exact h9
  refine ag _ _ _ (by have:=qhi mp1; omega) ⟨p1,xs++[p0],ae,af,rfl,⟨rp1_,(qxh hps).2 _ mp1,zpc hxs rp0_,zej htl hps aa' ip0 ip1,by have:=qhi mp1; rw[fv]; simp only[fw,fx]; omega⟩,A.keep _ (by repeat' constructor),M⟩
 ·have aa':=f6 aa;refine sdc A qe aa λA=>?_;refine qcf ac A ?_;refine wp_exit (ap _ _ (wsk fun _ aj=>xg (S:=fun w1=>Mg w w1 (.obj g2 (.cells (p.d.cells p.ts.length).toArray 30)::[])) (by kernel_rfl) ?_));replace M:=M.drew;refine atk A 0 rfl hP (M.sub (cN (cN (cC ns)))) (λ_ M=>zr rfl) λA=>?_;refine atk A 1 rfl hP (M.sub (cN (cN (cC ns)))) (λ_ M=>qz M zv rfl 0 rfl (cs:=(p.d.cells p.ts.length)) rfl rfl) λA=>?_;refine atk A 2 rfl hP (M.sub (cN (cN (cC ns)))) (λ_ M=>ji rfl) λA=>?_;refine zn (by kernel_rfl) (qoe A M 3 rfl rfl rfl (qj rfl rfl rfl (by kernel_rfl) M 1 rfl rfl rfl) 1 rfl rfl rfl ?_);intro av M;refine⟨(M.sub (cN (cN (cC ns)))),?_⟩;refine jl (by kernel_rfl) ?_;refine aj _ _ (wp_ret (hret _ _ (en2 A rfl (qf rfl) (zw M zv rfl 1 rfl (cs:=[iV p.d.k,iV p.d.n,bV p.d.y.q.b1,.slice p.d.y.o1 p.d.y.q.t1.length p.d.y.c1,.slice p.d.y.o2 p.d.y.q.q1.length p.d.y.c2,bV p.d.y.q.b2,.slice p.d.y.o3 p.d.y.q.t2.length p.d.y.c3,.slice p.d.y.o4 p.d.y.q.q2.length p.d.y.c4,.string p.d.s,.slice p.d.ro p.d.rl.length p.d.rc,.slice p.d.lo p.ts.length p.d.lc]) rfl rfl) ?_)));replace M:Mg w av (.row 30 11 (.slice so_ xs.length ca_) xs.length (cellsOf xs)::[]):=by
   have h9:=M.sub (cC (cN (cN (.refl _))));exact h9
  exact⟨_,_,xs,p,rfl,⟨htl,aa',hps,hxs,hp,by omega⟩,M⟩
theorem jid{w0 w:World}{t:Dt}(h0:Below w0.heap.size w0 w)(ht:t.rd w0)(hb:t.tr.bulk≤4000000):Calls Tryz.prog 44 #[.agg (t.d.cells t.ts.length).toArray] w fun e w'=>(∃so' ca' ys,e=.returned (.tuple #[.slice so' (ys:List Dt).length ca',iV 0])∧(qs qh t.tr=true∧js t.tr=some (ys.map Dt.tr)∧(∀x∈ys,x.rd w0)∧ys.length≤t.tr.bulk)∧Mg w w' [.row 30 11 (.slice so' ys.length ca') ys.length (cellsOf ys)])∨(e=.returned (.tuple #[.slice none 0 0,iV 10])∧(qs qh t.tr=true∧js t.tr=none)∧Below w.heap.size w w')∨(e=.returned (.tuple #[.slice none 0 0,iV 2])∧qs qh t.tr=false∧Below w.heap.size w w'):=by
 have M:=Mg.start w;refine wof Tryz.func44 Tryz.ntmps44 fun Q hret hnorm hP a A=>?_;refine wsr fun _ aj=>zj (vs:=(t.d.cells t.ts.length)) (t:=30) A M rfl rfl rfl pg (qx rfl rfl) (by decide) ?_;intro g2 _ M a A;iterate 2 refine sda A λA=>?_
 refine qa (aj _ _ (wsk fun K4 ak=>wsr fun _ ai=>sdo A (qz M zv rfl 0 rfl (cs:=(t.d.cells t.ts.length)) rfl rfl) λA=>?_));rcases tf (qs qh t.tr)with ab|ab
 ·refine gcl A M ec ((ab▸rsound_any (t:=t) (Dt.keep M.bel _ (Dt.keep h0 _ ht)) (by omega))) fun _ _ M a A=>?_;refine sdu A λA=>?_;refine qcf ai A ?_;refine wp_skip (ak _ _ (wsr fun _ am=>sdo A (qz M zv rfl 0 rfl (cs:=(t.d.cells t.ts.length)) rfl rfl) λA=>?_));refine sct A ec (jic (h0.trans (M.bel.mono h0.size)) ht (qkc ab) (by omega)) ?_;rintro _ _ ⟨ap,aq,ys,q,rfl,⟨hy1,ar,hqs,hy2,hqr,hy3⟩,au⟩;replace M:=(M.both au (qi (by simp) (za zd)) (qi (by simp) (za zd)));refine⟨_,rfl,?_⟩;intro a A;refine sdm A λA=>?_;iterate 2 refine sde A λA=>?_
  refine zj (vs:=(zb.d.cells zb.ts.length)) (t:=30) A M rfl rfl rfl pg (qm (z:=.agg (zb.d.cells zb.ts.length).toArray) (by kernel_rfl) rfl) (by decide) ?_;intro g11 _ M a A;refine sda A λA=>?_;refine qt A M rfl rfl (qj rfl rfl rfl (by kernel_rfl) M 0 rfl rfl rfl) 0 rfl rfl rfl ?_;intro av M;refine qa (am _ _ (wsk fun _ ae=>wsr fun _ ac=>sdf A 0 xk λA=>?_));refine sdl A M o93 0 λA=>?_;rcases tf ((q.d.k != 1))with aa|aa
  ·have aa':=iy.1 aa;refine sdc A zh aa λA=>?_;refine qct ac A ?_;refine wsr fun _ af=>?_;iterate 2 refine sda A λA=>?_
   refine qa (af _ _ (wp_ret (hret _ _ (en2 A rfl (qf rfl) (qf rfl) ?_))));exact .inr (.inl ⟨rfl,⟨ab,qxj hy1 ar aa'⟩,M.bel⟩)
  ·have aa':=ie.1 aa;refine sdc A zh aa λA=>?_;refine qcf ac A ?_;refine wp_skip (ae _ _ (wsr fun _ ag=>sdm A λA=>?_));iterate 2 refine sda A λA=>?_
   refine qa (ag _ _ (wp_ret (hret _ _ (en2 A rfl (qf rfl) (qf rfl) ?_))));replace M:Mg w av (.row 30 11 (.slice ap ys.length aq) ys.length (cellsOf ys)::[]):=by
    have h9:=M.sub (cN (cC (cN (.refl _))));exact h9
   exact .inl ⟨_,_,ys,rfl,⟨ab,qxi hy1 hqs aa',hy2,hy3⟩,M⟩
 ·refine gcl A M ec ((ab▸rsound_any (t:=t) (Dt.keep M.bel _ (Dt.keep h0 _ ht)) (by omega))) fun _ _ M a A=>?_;refine sdu A λA=>?_;refine qct ai A ?_;refine wsr fun _ ah=>?_;iterate 2 refine sda A λA=>?_
  refine qa (ah _ _ (wp_ret (hret _ _ (en2 A rfl (qf rfl) (qf rfl) ?_))));exact .inr (.inr ⟨rfl,ab,M.bel⟩)
theorem xbe{ts:List Dt}{k:Nat}{t:Dt}(h:ts[k-1]?=some t)(hk:0<k):(ts.drop (k-1)).map Dt.tr=t.tr::(ts.drop k).map Dt.tr:=by
 obtain⟨hl,rfl⟩:=List.getElem?_eq_some_iff.1 h;rw[List.drop_eq_getElem_cons hl,show k-1+1=k by omega,i6]
theorem jie{w:World}{so:Option Addr}{ca:Nat}{ts:List Dt}(hR:Rt w so ts)(hD:∀t∈ts,t.rd w){u:Dt}(hu:u.rd w)(hl:ts.length≤1000000000)(P:Nat→Prop)(hPn:∀b,w.heap.size≤b→P b)(hPt:∀t∈ts,t.at_ P)(hPu:u.at_ P):Calls Tryz.prog 64 #[.slice so ts.length ca,.agg (u.d.cells u.ts.length).toArray] w fun e w'=>∃t2:Dt,e=.returned (.agg (t2.d.cells t2.ts.length).toArray)∧(t2.rd w'∧t2.at_ P∧t2.tr=zy (ts.map Dt.tr) u.tr)∧Below w.heap.size w w':=by
 have M:=Mg.start w;refine wof Tryz.func64 Tryz.ntmps64 fun Q hret hnorm hP a A=>?_;refine wsr fun _ aj=>zj (vs:=(u.d.cells u.ts.length)) (t:=30) A M rfl rfl rfl pg (qx rfl rfl) (by decide) ?_;intro g2 _ M a A;refine zj (vs:=(zb.d.cells zb.ts.length)) (t:=30) A M rfl rfl rfl pg (qm (z:=.agg (zb.d.cells zb.ts.length).toArray) (by kernel_rfl) rfl) (by decide) ?_;intro g4 _ M a A;refine qwk aj fun _ ak=>wsr fun _ am=>sdm A λA=>?_;refine sdo A (qr f9 rfl) λA=>?_;refine sdo (v:=iV (((ts.length:Nat):Int)-1)) A (qb rfl rfl (ar_sub (in_i64 (by omega) (by omega)))) λA=>?_;refine sda A λA=>?_;refine qa (am _ _ (wp_block ?_));have _:=(Ck.lt (M.has 1 rfl) g2 rfl).1;have _:=(Ck.lt (M.has 0 rfl) g4 rfl).1;refine zg (fun m_ a w1=>∃(k:Nat) (z:Dt),m_=1+k∧(k≤ts.length∧z.rd w1∧z.at_ (fun b=>b≠g2∧b≠g4)∧z.at_ P∧z.tr=zy ((ts.drop k).map Dt.tr) u.tr)∧Sl a 21 [(0,.slice so ts.length ca),(1,.agg (u.d.cells u.ts.length).toArray),(3,pA g2 0),(4,pA g4 0),(5,iV (((k:Nat):Int)-1)),(6,.slice so ts.length ca),(7,iV (((ts.length:Nat):Int))),(8,iV (((ts.length:Nat):Int)-1))]∧Mg w w1 (.obj g4 (.cells (zb.d.cells zb.ts.length).toArray 30)::.obj g2 (.cells (z.d.cells z.ts.length).toArray 30)::[])) _ ⟨ts.length,u,rfl,⟨gm _,Dt.keep M.bel _ hu,Dt.at_mono (fun b hb=>by constructor<;>omega) _ (Dt.at_lt _ hu),hPu,by rw[List.drop_length]; rfl⟩,A.keep _ (by repeat' constructor),M⟩ ?_;clear M A;rintro m_ a w8 ⟨k,z,rfl,ab,A,M⟩ _ ap;obtain⟨_,hzr,hza,hzp,hzt⟩:=ab;refine wsk fun _ ae=>wsr fun _ ac=>sdm A λA=>?_;rcases tf (decide (0≤((k:Nat):Int)-1))with aa|aa
 ·have aa':=f5 aa;refine sdc A zt aa λA=>?_;refine qct ac A ?_;refine wp_skip (ae _ _ (wsk fun _ af=>wp_block ?_));obtain⟨t1,bt1,ot1,it1,mt1,rt1_,lt1,Ht1⟩:=que hR hD (i:=(k-1)) (by omega);have _:=(Ck.lt (M.has 1 rfl) g2 rfl).2;have _:=(Ck.lt (M.has 0 rfl) g4 rfl).2;refine xg (S:=fun w1=>Mg w w1 ([])) (by kernel_rfl) ?_;replace M:=M.drew;refine atk A 0 rfl hP (M.sub (cN (cN ns))) (λ_ M=>zr rfl) λA=>?_;refine atk A 1 rfl hP (M.sub (cN (cN ns))) (λ_ M=>zr rfl) λA=>?_;refine atk (v:=pA bt1 (ot1+(k-1)*11)) A 2 rfl hP (M.sub (cN (cN ns))) (λ_ M=>qk (k:=(k-1)) f9 (by kernel_rfl) rfl rfl (by omega) lt1 (by omega)) λA=>?_;refine atk A 3 rfl hP (M.sub (cN (cN ns))) (λ_ M=>zp M Ht1 zv rfl rfl) λA=>?_;refine zn (by kernel_rfl) (zea A 4 rfl rfl rfl rfl (qz M zv rfl 1 rfl (cs:=(z.d.cells z.ts.length)) rfl rfl) (M.sub (cN (cN ns))) ?_);intro a A;replace hzr:z.rd w8.drew:=Dt.keep (Below.refl _ w8).drew _ hzr;have hdw:w8.drew.heap.size=w8.heap.size:=rfl;refine zn (by kernel_rfl) (xfe (e:=30) (sz:=11) (m:=2) (vs:=cellsOf [t1,z]) A M 5 rfl rfl rfl rfl (qg rfl (by kernel_rfl)) rfl rfl (by decide) ?_);intro g5 _ M hg5 aq;replace hzr:=Dt.keep aq _ hzr;refine⟨(M.sub (cN (cN (cN ns)))),?_⟩;intro a A;refine atk (v:=.agg ((yk g5 t1 z).d.cells (yk g5 t1 z).ts.length).toArray) A 6 rfl hP (M.sub (cN (cN (cN ns)))) (λ_ M=>qn rfl (fun w=>by kernel_rfl)) λA=>?_;refine zn (by kernel_rfl) (qxb A M 7 rfl rfl rfl (qj (cs:=(yk g5 t1 z).d.cells (yk g5 t1 z).ts.length) rfl rfl rfl (by kernel_rfl) M 2 rfl rfl (qej (yk g5 t1 z))) 2 rfl rfl rfl ?_);intro w16 M ag;replace hzr:=Dt.kept ag _ hzr (Dt.at_mono (fun b hb=>hb.1) _ hza);have hr9:(yk g5 t1 z).rd w16:=zpg (Ck.lt (M.has 0 rfl) g5 rfl).2 (fun p v hp=>by
   obtain⟨b,o,e,hc⟩:=vm (M.has 0 rfl) (fun e=>by cases e);cases e
   have:=hc p v hp
   rwa [Nat.zero_add]at this) (Dt.keep M.bel _ rt1_) hzr
  have ha9:(yk g5 t1 z).at_ (fun b=>b≠g2∧b≠g4):=qya ⟨by omega,by omega⟩ (Dt.at_mono (fun b hb=>by constructor<;>omega) _ (Dt.at_lt _ rt1_)) hza;have hp9:(yk g5 t1 z).at_ P:=qya (hPn _ (by omega)) (hPt t1 mt1) hzp;refine⟨(M.sub (cN (cN (cN ns)))),?_⟩;refine jl (by kernel_rfl) ?_;refine af _ _ (wrl (sdm A λA=>?_));refine sdo (v:=iV (((k-1:Nat):Int)-1)) A (qb rfl rfl (ar_sub ((in_i64 (by omega) (by omega)).trans (by omega)))) λA=>?_;refine sda A λA=>?_;refine qa ?_;replace M:Mg w w16 (.obj g4 (.cells (zb.d.cells zb.ts.length).toArray 30)::.obj g2 (.cells ((yk g5 t1 z).d.cells (yk g5 t1 z).ts.length).toArray 30)::[]):=by
   have h9:=M.sub (cN (cC (cC (.refl _))));exact h9
  refine ap _ _ _ (by omega) ⟨k-1,(yk g5 t1 z),rfl,⟨by omega,hr9,ha9,hp9,by rw[zpf,hzt,xbe it1 (by omega)]; rfl⟩,A.keep _ (by repeat' constructor),M⟩
 ·have aa':=fy aa;refine sdc A zt aa λA=>?_;refine qcf ac A ?_;refine wp_exit (ak _ _ (wsr fun _ ah=>sdo A (qz M zv rfl 1 rfl (cs:=(z.d.cells z.ts.length)) rfl rfl) λA=>?_));refine ky A M rfl rfl (qj rfl rfl rfl (by kernel_rfl) M 0 rfl rfl rfl) 0 rfl rfl rfl ?_;intro _ M ai;replace hzr:=Dt.kept ai _ hzr (Dt.at_mono (fun b hb=>hb.2) _ hza);refine qa (ah _ _ (wp_ret (hret _ _ (en1 A rfl (zw M zv rfl 0 rfl (cs:=[iV z.d.k,iV z.d.n,bV z.d.y.q.b1,.slice z.d.y.o1 z.d.y.q.t1.length z.d.y.c1,.slice z.d.y.o2 z.d.y.q.q1.length z.d.y.c2,bV z.d.y.q.b2,.slice z.d.y.o3 z.d.y.q.t2.length z.d.y.c3,.slice z.d.y.o4 z.d.y.q.q2.length z.d.y.c4,.string z.d.s,.slice z.d.ro z.d.rl.length z.d.rc,.slice z.d.lo z.ts.length z.d.lc]) rfl rfl) ?_))));obtain rfl:k=0:=by omega
  exact⟨z,rfl,⟨hzr,hzp,hzt⟩,M.bel⟩
theorem rof_any{w:World}{so:Option Addr}{ca:Nat}{ts:List Dt}(hR:Rt w so ts)(hD:∀t∈ts,t.rd w)(hb:Tr.bulks (ts.map Dt.tr)≤1100000):Calls Tryz.prog 30 #[.slice so ts.length ca] w fun e w'=>∃t2:Dt,e=.returned (.agg (t2.d.cells t2.ts.length).toArray)∧(t2.rd w'∧t2.tr=ofS (ts.map Dt.tr))∧Below w.heap.size w w':=by
 have hbl:=yj ts;have hnb:qxc.tr.bulk=1:=by rw[qkb]; rfl
 have M:=Mg.start w;refine wof Tryz.func30 Tryz.ntmps30 fun Q hret hnorm hP a A=>?_;refine wsr fun _ ap=>zj (vs:=(zb.d.cells zb.ts.length)) (t:=30) A M rfl rfl rfl pg (qm (z:=.agg (zb.d.cells zb.ts.length).toArray) (by kernel_rfl) rfl) (by decide) ?_;intro g2 _ M a A;refine qwr ap fun K4 aq=>sdm A λA=>?_;refine gcl A M ec (jrc) fun w6 _ M a A=>?_;obtain⟨_,_⟩:=Ck.lt (M.has 0 rfl) g2 rfl;refine sct A ec (jie (hR.below M.bel) (fun t ht=>Dt.keep M.bel _ (hD t ht)) (jci _) (by omega) (fun b=>b<w.heap.size∨w6.heap.size≤b) (fun b hb=>.inr hb) (fun t ht=>Dt.at_mono (fun b hb=>.inl hb) _ (Dt.at_lt _ (hD t ht))) (jwi _)) ?_;rintro _ _ ⟨t3,rfl,⟨hrt3,hat3,htt3⟩,ar⟩;replace M:=M.call ar;refine⟨_,rfl,?_⟩;intro a A;refine zjb (vs:=(zb.d.cells zb.ts.length)) (t:=30) A M rfl rfl rfl pg (qm (z:=.agg (zb.d.cells zb.ts.length).toArray) (by kernel_rfl) rfl) (by decide) ?_;intro g11 _ M hg13 af a A;have hnt3g11:=Dt.at_mono (q:=(· ≠ g11)) (fun b hb=>by intro e; omega) _ (Dt.at_lt _ hrt3);replace hrt3:=Dt.keep af _ hrt3;refine ky A M rfl rfl (qj rfl rfl rfl (by kernel_rfl) M 0 rfl rfl rfl) 0 rfl rfl rfl ?_;intro _ M ag;replace hrt3:=Dt.kept ag _ hrt3 hnt3g11;refine qa (aq _ _ (wsk fun _ ah=>wsr fun _ ab=>sdo A (qz M zv rfl 0 rfl (cs:=(t3.d.cells t3.ts.length)) rfl rfl) λA=>?_));rcases tf (qs qh t3.tr)with aa|aa
 ·refine sct A ec ((aa▸rsound_any (t:=t3) hrt3 (by rw[htt3,qca,gy]; omega))) ?_;rintro _ _ ⟨rfl,ac⟩;replace hrt3:=Dt.keep ac _ hrt3;replace M:=M.call ac;refine⟨_,rfl,?_⟩;intro a A;refine sdu A λA=>?_;refine qcf ab A ?_;refine wp_skip (ah _ _ (wsr fun _ ai=>sdo A (qz M zv rfl 0 rfl (cs:=(t3.d.cells t3.ts.length)) rfl rfl) λA=>?_));refine ky A M rfl rfl (qj rfl rfl rfl (by kernel_rfl) M 1 rfl rfl rfl) 1 rfl rfl rfl ?_;intro _ M aj;replace hrt3:=Dt.kept aj _ hrt3 (Dt.at_mono (fun b hb=>by rintro rfl; omega) _ hat3);refine qa (ai _ _ (wp_ret (hret _ _ (en1 A rfl (zw M zv rfl 1 rfl (cs:=[iV t3.d.k,iV t3.d.n,bV t3.d.y.q.b1,.slice t3.d.y.o1 t3.d.y.q.t1.length t3.d.y.c1,.slice t3.d.y.o2 t3.d.y.q.q1.length t3.d.y.c2,bV t3.d.y.q.b2,.slice t3.d.y.o3 t3.d.y.q.t2.length t3.d.y.c3,.slice t3.d.y.o4 t3.d.y.q.q2.length t3.d.y.c4,.string t3.d.s,.slice t3.d.ro t3.d.rl.length t3.d.rc,.slice t3.d.lo t3.ts.length t3.d.lc]) rfl rfl) ?_))));exact⟨t3,rfl,⟨hrt3,by unfold ofS; rw[htt3,qkb]at aa; rw[qpc aa,htt3,qkb]⟩,M.bel⟩
 ·refine sct A ec ((aa▸rsound_any (t:=t3) hrt3 (by rw[htt3,qca,gy]; omega))) ?_;rintro _ _ ⟨rfl,ae⟩;replace hrt3:=Dt.keep ae _ hrt3;replace M:=M.call ae;refine⟨_,rfl,?_⟩;intro a A;refine sdu A λA=>?_;refine qct ab A ?_;refine wsr fun _ ak=>sdo (v:=.agg (zb.d.cells zb.ts.length).toArray) A (qn rfl (fun w=>by kernel_rfl)) λA=>?_;refine ky A M rfl rfl (qj rfl rfl rfl (by kernel_rfl) M 1 rfl rfl rfl) 1 rfl rfl rfl ?_;intro _ M am;replace hrt3:=Dt.kept am _ hrt3 (Dt.at_mono (fun b hb=>by rintro rfl; omega) _ hat3);refine qa (ak _ _ (wp_ret (hret _ _ (en1 A rfl (zw M zv rfl 1 rfl (cs:=zD) rfl rfl) ?_))));exact⟨zb,rfl,⟨qxe _,by unfold ofS; rw[htt3,qkb]at aa; rw[zkf aa,qxd]⟩,M.bel⟩
theorem jrd{x:Tr}(hs:qh x=true):qfe x (zfj 2).tr=isF x:=by
 cases x with
 | mk k n q s rl ts =>
  have e:(zfj 2).tr=.mk 2 0 Q6.zero ⟨#[]⟩ [] []:=by unfold zfj; rw[Dt.tr_mk]; rfl
  rw[e];apply Bool.eq_iff_iff.2;rw[zrd];show _↔(decide (k=2)&&decide (n=0))=true;rw[ig,decide_eq_true_iff,decide_eq_true_iff];constructor
  ·rintro⟨h1,h2,-⟩; exact⟨h1,h2⟩
  ·rintro⟨rfl,rfl⟩;have h:jm 2 0 q s rl.length ts.length=true:=hs;unfold jm kg ye at h;rw[f7 (by decide),gj rfl]at h;simp only[ig,decide_eq_true_iff,Bool.not_eq_true']at h;obtain⟨-,-,⟨a1,a2,a3⟩,⟨a4,a5,a6⟩,a7,a8,a9⟩:=h;obtain⟨b1,t1,q1,b2,t2,q2⟩:=q;simp only at a1 a2 a3 a4 a5 a6;obtain rfl:=ia.1 a2;obtain rfl:=ia.1 a3;obtain rfl:=ia.1 a5;obtain rfl:=ia.1 a6;obtain rfl:=ia.1 a8;obtain rfl:=ia.1 a9;subst a1 a4 a7;exact⟨rfl,rfl,rfl,rfl,rfl,rfl,rfl⟩
theorem zaj{w:World}{t:Dt}(ht:t.rd w)(hs:qs qh t.tr=true):Calls Tryz.prog 17 #[.agg (t.d.cells t.ts.length).toArray,.agg #[iV 2,iV 0,bV false,.slice none 0 0,.slice none 0 0,bV false,.slice none 0 0,.slice none 0 0,.string (⟨#[]⟩),.slice none 0 0,.slice none 0 0]] w (RB w (bV (isF t.tr))):=by
 have:=qnc (t.tr.bulk+1) (t:=t) (u:=zfj 2) (Nat.lt_succ_self _) ht (jnj w _ (iw ..));rw[jrd (qxh (qkc hs)).1]at this;exact this
theorem jre{w:World}{t:Dt}(ht:t.rd w)(hb:t.tr.bulk≤4000000):Calls Tryz.prog 44 #[.agg (t.d.cells t.ts.length).toArray] w fun e w'=>∃so' ca' ys k,e=.returned (.tuple #[.slice so' (ys:List Dt).length ca',iV k])∧((ys.map Dt.tr,k)=qfc t.tr∧Rt w' so' ys∧(∀x∈ys,x.rd w'))∧Below w.heap.size w w':=by
 refine(jid (Below.refl _ w) ht hb).mono ?_;rintro e w' (⟨so',ca',ys,rfl,h2,M⟩|⟨rfl,h2,hb⟩|⟨rfl,h2,hb⟩)
 ·exact⟨so',ca',ys,0,rfl,⟨(qhb h2.1 h2.2.1).symm,(kv (M.has 0 rfl)).1,fun x hx=>Dt.keep M.bel _ (h2.2.2.1 x hx)⟩,M.bel⟩
 ·exact⟨none,0,[],10,rfl,⟨(qmf h2.1 h2.2).symm,fun h=>absurd rfl h,fun x h=>by cases h⟩,hb⟩
 ·exact⟨none,0,[],2,rfl,⟨(qrb h2).symm,fun h=>absurd rfl h,fun x h=>by cases h⟩,hb⟩
theorem zyi{w:World}{da dm:Dt}(hrda:da.rd w)(hrdm:dm.rd w){so2:Option Addr}{ca2:Nat}{is:List Dt}(hRi:Rt w so2 is)(hDi:∀t∈is,t.rd w)(hba:da.tr.bulk≤1048576)(hbm:dm.tr.bulk≤1048576)(hbi:Tr.bulks (is.map Dt.tr)≤1048576){v:Bool}:Calls Tryz.prog 6 #[.agg (da.d.cells da.ts.length).toArray,.agg (dm.d.cells dm.ts.length).toArray,.slice so2 is.length ca2,bV v] w fun e w'=>∃(so':Option Addr) (ca':Nat) (cs:List Sp) (ev:Int),e=.returned (.tuple #[.slice so' cs.length ca',iV ev])∧((cs.map Sp.k,ev)=erS da.tr dm.tr (is.map Dt.tr) v∧PR w' so' cs)∧Below w.heap.size w w':=by
 have M:=Mg.start w;refine wof Tryz.func6 Tryz.ntmps6 fun Q hret hnorm hP a A=>?_;refine wsr fun _ bq=>zj (vs:=(da.d.cells da.ts.length)) (t:=30) A M rfl rfl rfl pg (qx rfl rfl) (by decide) ?_;intro g2 _ M a A;refine zj (vs:=(dm.d.cells dm.ts.length)) (t:=30) A M rfl rfl rfl pg (qx rfl rfl) (by decide) ?_;intro g4 _ M a A;iterate 2 refine sda A λA=>?_
 refine qwr bq fun _ br=>sdm A λA=>?_;refine sct A ec (rof_any (hRi.below M.bel) (fun t ht=>Dt.keep M.bel _ (hDi t ht)) (by omega)) ?_;rintro _ w8 ⟨dl,rfl,⟨hrdl,htl⟩,bw⟩;have hdb:=jdj (is.map Dt.tr);rw[←htl]at hdb;replace M:=M.call bw;refine⟨_,rfl,?_⟩;intro a A;have hB1:=M.bel;replace hRi:=hRi.below M.bel;replace hDi:=fun t ht=>Dt.keep M.bel _ (hDi t ht);replace hrda:=Dt.keep M.bel _ hrda;replace hrdm:=Dt.keep M.bel _ hrdm;have hHg4:=M.here 0 (cs:=(dm.d.cells dm.ts.length)) rfl;have hHg2:=M.here 1 (cs:=(da.d.cells da.ts.length)) rfl;replace M:=Mg.start w8;refine zj (vs:=(zb.d.cells zb.ts.length)) (t:=30) A M rfl rfl rfl pg (qm (z:=.agg (zb.d.cells zb.ts.length).toArray) (by kernel_rfl) rfl) (by decide) ?_;intro g9 _ M a A;refine qt A M rfl rfl (qj rfl rfl rfl (by kernel_rfl) M 0 rfl rfl rfl) 0 rfl rfl rfl ?_;intro _ M;refine qa (br _ _ (wsk fun _ ak=>wsr fun _ af=>sdo A (zp M hHg2 zv rfl rfl) λA=>?_));rcases tf (qs qh da.tr)with aa|aa
 ·refine gcl A M ec ((aa▸rsound_any (t:=da) (Dt.keep M.bel _ hrda) (by omega))) fun _ _ M a A=>?_;refine sdu A λA=>?_;refine sdm A λA=>?_;refine sdo A (zp M hHg4 zv rfl rfl) λA=>?_;rcases tf (qs qh dm.tr)with ab|ab
  ·refine gcl A M ec ((ab▸rsound_any (t:=dm) (Dt.keep M.bel _ hrdm) (by omega))) fun _ _ M a A=>?_;refine sdu A λA=>?_;refine sdk (v:=bV false) A λA=>?_;refine sdm A λA=>?_;refine sdo A (qz M zv rfl 0 rfl (cs:=(dl.d.cells dl.ts.length)) rfl rfl) λA=>?_;rcases tf (qs qh dl.tr)with ac|ac
   ·refine gcl A M ec ((ac▸rsound_any (t:=dl) (Dt.keep M.bel _ hrdl) (by omega))) fun _ _ M a A=>?_;refine sdu A λA=>?_;refine sdk (v:=bV false) A λA=>?_;refine qcf af A ?_;refine wp_skip (ak _ _ (wsr fun _ am=>sda A λA=>?_));refine qwk am fun bz ap=>?_;have ah:∀a w1,(∃(kq:Int),(kq=if v=true then 6 else 4)∧Sl a 54 [(0,.agg (da.d.cells da.ts.length).toArray),(1,.agg (dm.d.cells dm.ts.length).toArray),(2,.slice so2 is.length ca2),(4,pA g2 0),(5,pA g4 0),(8,.slice none 0 0),(9,iV 0),(10,pA g9 0),(11,iV kq),(13,.slice so2 is.length ca2),(14,.agg (dl.d.cells dl.ts.length).toArray),(15,.agg (da.d.cells da.ts.length).toArray),(16,bV true),(17,bV false),(18,bV false),(19,.agg (dm.d.cells dm.ts.length).toArray),(20,bV true),(21,bV false),(22,bV false),(23,bV false),(24,.agg (dl.d.cells dl.ts.length).toArray),(25,bV true),(26,bV false),(27,bV false)]∧Mg w8 w1 (.obj g9 (.cells (dl.d.cells dl.ts.length).toArray 30)::[]))→bz a w1:=by
     clear A M;rintro a _ ⟨kq,aq,A,M⟩;have hkq:=aq;refine ap _ _ (wsr fun _ ar=>sdm A λA=>?_);refine sdo (v:=.agg #[iV kq,.slice none 0 0]) A (qn rfl (fun w=>by kernel_rfl)) λA=>?_;refine jr (e:=65) (sz:=2) (m:=1) (vs:=jb Sp.c [(Sp.mk kq none 0 [])]) A M rfl rfl rfl (qg rfl (by kernel_rfl)) rfl rfl (.inl (by decide)) ?_;intro g29 _ M a A;refine sda A λA=>?_;refine qa (ar _ _ (wsk fun _ ai=>wsr fun _ aj=>sdo A (zp M hHg2 zv rfl rfl) λA=>?_));refine sdo (v:=.agg #[iV 2,iV 0,bV false,.slice none 0 0,.slice none 0 0,bV false,.slice none 0 0,.slice none 0 0,.string (⟨#[]⟩),.slice none 0 0,.slice none 0 0]) A (qn rfl (fun w=>by kernel_rfl)) λA=>?_;rcases tf (isF da.tr)with ae|ae
     ·refine gcl A M ec ((ae▸zaj (Dt.keep M.bel _ hrda) aa)) fun _ _ M a A=>?_;refine sdu A λA=>?_;refine qcf aj A ?_;refine wp_skip (ai _ _ (wsr fun _ au=>sdm A λA=>?_));refine sdo A (zp M hHg4 zv rfl rfl) λA=>?_;refine jr (e:=30) (sz:=11) (m:=1) (vs:=cellsOf [dm]) A M rfl rfl rfl (qg rfl (by kernel_rfl)) rfl rfl (.inl (by decide)) ?_;intro g37 _ M a A;refine sdo (v:=.agg #[iV 1,.slice (aO g37) 1 1]) A (qn rfl (fun w=>by kernel_rfl)) λA=>?_;refine jr (e:=65) (sz:=2) (m:=1) (vs:=jb Sp.c [(Sp.mk 1 (aO g37) 1 [dm])]) A M rfl rfl rfl (qg rfl (by kernel_rfl)) rfl rfl (.inl (by decide)) ?_;intro g39 _ M a A;refine xd (e:=65) (sz:=2) (k:=2) (q:=1) (m:=1) (xs:=jb Sp.c [(Sp.mk kq none 0 [])]) (news:=jb Sp.c [(Sp.mk 1 (aO g37) 1 [dm])]) A rfl rfl rfl (yf (z:=.agg #[iV 0,.slice none 0 0]) (sz:=2) (by_:=32) ic (by kernel_rfl) rfl rfl rfl M 2 rfl rfl rfl rfl (vm (M.has 0 rfl)) (qig [(Sp.mk 1 (aO g37) 1 [dm])]) (by first|omega|(simp only[fx]; omega)|(simp only[fv,fw,fx]; omega))) (fun _=>rfl) ?_;intro cc cd M a A;replace M:Mg w8 cd (.row 65 2 (.slice (aO g39) 1 1) 1 (jb Sp.c [(Sp.mk 1 (aO g37) 1 [dm])])::.row 30 11 (.slice (aO g37) 1 1) 1 (cellsOf [dm])::.row 65 2 (cc) (([(Sp.mk kq none 0 [])]++[(Sp.mk 1 (aO g37) 1 [dm])]).length) (jb Sp.c ([(Sp.mk kq none 0 [])]++[(Sp.mk 1 (aO g37) 1 [dm])]))::.obj g9 (.cells (dl.d.cells dl.ts.length).toArray 30)::[]):=by
       rw[vu,fv]; exact M
      obtain⟨_,_,rfl⟩:=xu (M.has 2 rfl);refine sda A λA=>?_;refine qwr au fun _ av=>sdm A λA=>?_;refine sdo A (qz M zv rfl 3 rfl (cs:=(dl.d.cells dl.ts.length)) rfl rfl) λA=>?_;refine jr (e:=30) (sz:=11) (m:=1) (vs:=cellsOf [dl]) A M rfl rfl rfl (qg rfl (by kernel_rfl)) rfl rfl (.inl (by decide)) ?_;intro g46 _ M a A;refine sdo (v:=.agg #[iV 7,.slice (aO g46) 1 1]) A (qn rfl (fun w=>by kernel_rfl)) λA=>?_;refine jr (e:=65) (sz:=2) (m:=1) (vs:=jb Sp.c [(Sp.mk 7 (aO g46) 1 [dl])]) A M rfl rfl rfl (qg rfl (by kernel_rfl)) rfl rfl (.inl (by decide)) ?_;intro g48 _ M a A;refine xd (e:=65) (sz:=2) (k:=4) (q:=([(Sp.mk kq none 0 [])]++[(Sp.mk 1 (aO g37) 1 [dm])]).length) (m:=1) (xs:=jb Sp.c ([(Sp.mk kq none 0 [])]++[(Sp.mk 1 (aO g37) 1 [dm])])) (news:=jb Sp.c [(Sp.mk 7 (aO g46) 1 [dl])]) A rfl rfl rfl (yf (z:=.agg #[iV 0,.slice none 0 0]) (sz:=2) (by_:=32) ic (by kernel_rfl) rfl rfl rfl M 4 rfl rfl rfl rfl (vm (M.has 0 rfl)) (qig [(Sp.mk 7 (aO g46) 1 [dl])]) (by first|omega|(simp only[fx]; omega)|(simp only[fv,fw,fx]; omega))) (fun _=>rfl) ?_;intro ce bn M a A;replace M:Mg w8 bn (.row 65 2 (.slice (aO g48) 1 1) 1 (jb Sp.c [(Sp.mk 7 (aO g46) 1 [dl])])::.row 30 11 (.slice (aO g46) 1 1) 1 (cellsOf [dl])::.row 65 2 (.slice (aO g39) 1 1) 1 (jb Sp.c [(Sp.mk 1 (aO g37) 1 [dm])])::.row 30 11 (.slice (aO g37) 1 1) 1 (cellsOf [dm])::.row 65 2 (ce) ((([(Sp.mk kq none 0 [])]++[(Sp.mk 1 (aO g37) 1 [dm])])++[(Sp.mk 7 (aO g46) 1 [dl])]).length) (jb Sp.c (([(Sp.mk kq none 0 [])]++[(Sp.mk 1 (aO g37) 1 [dm])])++[(Sp.mk 7 (aO g46) 1 [dl])]))::.obj g9 (.cells (dl.d.cells dl.ts.length).toArray 30)::[]):=by
       rw[vu,fv]; exact M
      obtain⟨aw,ax,rfl⟩:=xu (M.has 4 rfl);iterate 2 refine sda A λA=>?_
      refine qa (av _ _ (wp_ret (hret _ _ (en2 A rfl (qf rfl) (qf rfl) ?_))));have hps:∀p∈[(Sp.mk kq none 0 []),(Sp.mk 1 (aO g37) 1 [dm]),(Sp.mk 7 (aO g46) 1 [dl])],SpR bn p:=by
       intro p hp;simp only[ik,List.not_mem_nil,or_false]at hp;rcases hp with h9|h9|h9<;>subst h9
       ·exact⟨fun h=>absurd rfl h,fun t h=>by cases h⟩
       ·exact⟨(kv (M.has 3 rfl)).1,fun t ht=>by rw[iq.1 ht]; exact Dt.keep M.bel _ hrdm⟩
       ·exact⟨(kv (M.has 1 rfl)).1,fun t ht=>by rw[iq.1 ht]; exact Dt.keep M.bel _ hrdl⟩
      exact⟨aw,ax,[(Sp.mk kq none 0 []),(Sp.mk 1 (aO g37) 1 [dm]),(Sp.mk 7 (aO g46) 1 [dl])],0,rfl,⟨by rw[xeb aa ab (htl▸ac) ae,←htl,hkq]; rcases v with _|_<;>rfl,⟨vm (M.has 4 rfl),hps⟩⟩,hB1.trans (M.bel.mono hB1.size)⟩
     ·refine gcl A M ec ((ae▸zaj (Dt.keep M.bel _ hrda) aa)) fun _ _ M a A=>?_;refine sdu A λA=>?_;refine qct aj A ?_;refine wrl (sdm A λA=>?_);refine sdo A (zp M hHg2 zv rfl rfl) λA=>?_;refine jr (e:=30) (sz:=11) (m:=1) (vs:=cellsOf [da]) A M rfl rfl rfl (qg rfl (by kernel_rfl)) rfl rfl (.inl (by decide)) ?_;intro g56 _ M a A;refine sdo (v:=.agg #[iV 8,.slice (aO g56) 1 1]) A (qn rfl (fun w=>by kernel_rfl)) λA=>?_;refine jr (e:=65) (sz:=2) (m:=1) (vs:=jb Sp.c [(Sp.mk 8 (aO g56) 1 [da])]) A M rfl rfl rfl (qg rfl (by kernel_rfl)) rfl rfl (.inl (by decide)) ?_;intro g58 _ M a A;refine xd (e:=65) (sz:=2) (k:=2) (q:=1) (m:=1) (xs:=jb Sp.c [(Sp.mk kq none 0 [])]) (news:=jb Sp.c [(Sp.mk 8 (aO g56) 1 [da])]) A rfl rfl rfl (yf (z:=.agg #[iV 0,.slice none 0 0]) (sz:=2) (by_:=32) ic (by kernel_rfl) rfl rfl rfl M 2 rfl rfl rfl rfl (vm (M.has 0 rfl)) (qig [(Sp.mk 8 (aO g56) 1 [da])]) (by first|omega|(simp only[fx]; omega)|(simp only[fv,fw,fx]; omega))) (fun _=>rfl) ?_;intro cg ch M a A;replace M:Mg w8 ch (.row 65 2 (.slice (aO g58) 1 1) 1 (jb Sp.c [(Sp.mk 8 (aO g56) 1 [da])])::.row 30 11 (.slice (aO g56) 1 1) 1 (cellsOf [da])::.row 65 2 (cg) (([(Sp.mk kq none 0 [])]++[(Sp.mk 8 (aO g56) 1 [da])]).length) (jb Sp.c ([(Sp.mk kq none 0 [])]++[(Sp.mk 8 (aO g56) 1 [da])]))::.obj g9 (.cells (dl.d.cells dl.ts.length).toArray 30)::[]):=by
       rw[vu,fv]; exact M
      obtain⟨_,_,rfl⟩:=xu (M.has 2 rfl);refine sda A λA=>?_;refine qwr ai fun _ ay=>sdm A λA=>?_;refine sdo A (zp M hHg4 zv rfl rfl) λA=>?_;refine jr (e:=30) (sz:=11) (m:=1) (vs:=cellsOf [dm]) A M rfl rfl rfl (qg rfl (by kernel_rfl)) rfl rfl (.inl (by decide)) ?_;intro g65 _ M a A;refine sdo (v:=.agg #[iV 1,.slice (aO g65) 1 1]) A (qn rfl (fun w=>by kernel_rfl)) λA=>?_;refine jr (e:=65) (sz:=2) (m:=1) (vs:=jb Sp.c [(Sp.mk 1 (aO g65) 1 [dm])]) A M rfl rfl rfl (qg rfl (by kernel_rfl)) rfl rfl (.inl (by decide)) ?_;intro g67 _ M a A;refine xd (e:=65) (sz:=2) (k:=4) (q:=([(Sp.mk kq none 0 [])]++[(Sp.mk 8 (aO g56) 1 [da])]).length) (m:=1) (xs:=jb Sp.c ([(Sp.mk kq none 0 [])]++[(Sp.mk 8 (aO g56) 1 [da])])) (news:=jb Sp.c [(Sp.mk 1 (aO g65) 1 [dm])]) A rfl rfl rfl (yf (z:=.agg #[iV 0,.slice none 0 0]) (sz:=2) (by_:=32) ic (by kernel_rfl) rfl rfl rfl M 4 rfl rfl rfl rfl (vm (M.has 0 rfl)) (qig [(Sp.mk 1 (aO g65) 1 [dm])]) (by first|omega|(simp only[fx]; omega)|(simp only[fv,fw,fx]; omega))) (fun _=>rfl) ?_;intro ci cj M a A;replace M:Mg w8 cj (.row 65 2 (.slice (aO g67) 1 1) 1 (jb Sp.c [(Sp.mk 1 (aO g65) 1 [dm])])::.row 30 11 (.slice (aO g65) 1 1) 1 (cellsOf [dm])::.row 65 2 (.slice (aO g58) 1 1) 1 (jb Sp.c [(Sp.mk 8 (aO g56) 1 [da])])::.row 30 11 (.slice (aO g56) 1 1) 1 (cellsOf [da])::.row 65 2 (ci) ((([(Sp.mk kq none 0 [])]++[(Sp.mk 8 (aO g56) 1 [da])])++[(Sp.mk 1 (aO g65) 1 [dm])]).length) (jb Sp.c (([(Sp.mk kq none 0 [])]++[(Sp.mk 8 (aO g56) 1 [da])])++[(Sp.mk 1 (aO g65) 1 [dm])]))::.obj g9 (.cells (dl.d.cells dl.ts.length).toArray 30)::[]):=by
       rw[vu,fv]; exact M
      obtain⟨_,_,rfl⟩:=xu (M.has 4 rfl);refine sda A λA=>?_;refine qwr ay fun _ az=>sdm A λA=>?_;refine sdo A (qz M zv rfl 5 rfl (cs:=(dl.d.cells dl.ts.length)) rfl rfl) λA=>?_;refine jr (e:=30) (sz:=11) (m:=1) (vs:=cellsOf [dl]) A M rfl rfl rfl (qg rfl (by kernel_rfl)) rfl rfl (.inl (by decide)) ?_;intro g74 _ M a A;refine sdo (v:=.agg #[iV 7,.slice (aO g74) 1 1]) A (qn rfl (fun w=>by kernel_rfl)) λA=>?_;refine jr (e:=65) (sz:=2) (m:=1) (vs:=jb Sp.c [(Sp.mk 7 (aO g74) 1 [dl])]) A M rfl rfl rfl (qg rfl (by kernel_rfl)) rfl rfl (.inl (by decide)) ?_;intro g76 _ M a A;refine xd (e:=65) (sz:=2) (k:=6) (q:=(([(Sp.mk kq none 0 [])]++[(Sp.mk 8 (aO g56) 1 [da])])++[(Sp.mk 1 (aO g65) 1 [dm])]).length) (m:=1) (xs:=jb Sp.c (([(Sp.mk kq none 0 [])]++[(Sp.mk 8 (aO g56) 1 [da])])++[(Sp.mk 1 (aO g65) 1 [dm])])) (news:=jb Sp.c [(Sp.mk 7 (aO g74) 1 [dl])]) A rfl rfl rfl (yf (z:=.agg #[iV 0,.slice none 0 0]) (sz:=2) (by_:=32) ic (by kernel_rfl) rfl rfl rfl M 6 rfl rfl rfl rfl (vm (M.has 0 rfl)) (qig [(Sp.mk 7 (aO g74) 1 [dl])]) (by first|omega|(simp only[fx]; omega)|(simp only[fv,fw,fx]; omega))) (fun _=>rfl) ?_;intro ck bp M a A
      replace M:Mg w8 bp (.row 65 2 (.slice (aO g76) 1 1) 1 (jb Sp.c [(Sp.mk 7 (aO g74) 1 [dl])])::.row 30 11 (.slice (aO g74) 1 1) 1 (cellsOf [dl])::.row 65 2 (.slice (aO g67) 1 1) 1 (jb Sp.c [(Sp.mk 1 (aO g65) 1 [dm])])::.row 30 11 (.slice (aO g65) 1 1) 1 (cellsOf [dm])::.row 65 2 (.slice (aO g58) 1 1) 1 (jb Sp.c [(Sp.mk 8 (aO g56) 1 [da])])::.row 30 11 (.slice (aO g56) 1 1) 1 (cellsOf [da])::.row 65 2 (ck) (((([(Sp.mk kq none 0 [])]++[(Sp.mk 8 (aO g56) 1 [da])])++[(Sp.mk 1 (aO g65) 1 [dm])])++[(Sp.mk 7 (aO g74) 1 [dl])]).length) (jb Sp.c ((([(Sp.mk kq none 0 [])]++[(Sp.mk 8 (aO g56) 1 [da])])++[(Sp.mk 1 (aO g65) 1 [dm])])++[(Sp.mk 7 (aO g74) 1 [dl])]))::.obj g9 (.cells (dl.d.cells dl.ts.length).toArray 30)::[]):=by
       rw[vu,fv]; exact M
      obtain⟨bd,bf,rfl⟩:=xu (M.has 6 rfl);iterate 2 refine sda A λA=>?_
      refine qa (az _ _ (wp_ret (hret _ _ (en2 A rfl (qf rfl) (qf rfl) ?_))));have hps:∀p∈[(Sp.mk kq none 0 []),(Sp.mk 8 (aO g56) 1 [da]),(Sp.mk 1 (aO g65) 1 [dm]),(Sp.mk 7 (aO g74) 1 [dl])],SpR bp p:=by
       intro p hp;simp only[ik,List.not_mem_nil,or_false]at hp;rcases hp with h9|h9|h9|h9<;>subst h9
       ·exact⟨fun h=>absurd rfl h,fun t h=>by cases h⟩
       ·exact⟨(kv (M.has 5 rfl)).1,fun t ht=>by rw[iq.1 ht]; exact Dt.keep M.bel _ hrda⟩
       ·exact⟨(kv (M.has 3 rfl)).1,fun t ht=>by rw[iq.1 ht]; exact Dt.keep M.bel _ hrdm⟩
       ·exact⟨(kv (M.has 1 rfl)).1,fun t ht=>by rw[iq.1 ht]; exact Dt.keep M.bel _ hrdl⟩
      exact⟨bd,bf,[(Sp.mk kq none 0 []),(Sp.mk 8 (aO g56) 1 [da]),(Sp.mk 1 (aO g65) 1 [dm]),(Sp.mk 7 (aO g74) 1 [dl])],0,rfl,⟨by rw[job aa ab (htl▸ac) ae,←htl,hkq]; rcases v with _|_<;>rfl,⟨vm (M.has 6 rfl),hps⟩⟩,hB1.trans (M.bel.mono hB1.size)⟩
    refine wsr fun _ bg=>sdm A λA=>?_;refine qa (bg _ _ ?_);refine wp_cond_split (t:=v) (A.ev rfl) (fun ag=>?_) (fun ag=>?_)
    ·refine wrl (sda A λA=>?_);refine qa ?_;exact ah _ _ ⟨6,(gj ag).symm,A.keep _ (by repeat' constructor),M⟩
    ·refine wp_skip ?_;exact ah _ _ ⟨4,(f7 (by rw[ag]; decide)).symm,A.keep _ (by repeat' constructor),M⟩
   ·refine gcl A M ec ((ac▸rsound_any (t:=dl) (Dt.keep M.bel _ hrdl) (by omega))) fun _ _ M a A=>?_;refine sdu A λA=>?_;refine sdk (v:=bV true) A λA=>?_;refine qct af A ?_;refine wsr fun _ bh=>?_;iterate 2 refine sda A λA=>?_
    refine qa (bh _ _ (wp_ret (hret _ _ (en2 A rfl (qf rfl) (qf rfl) ?_))));exact⟨none,0,[],2,rfl,⟨(qrd (fun h=>by rw[←htl]at h; have h9:=h.2.2; rw[ac]at h9; cases h9)).symm,⟨fun h=>absurd rfl h,fun p h=>by cases h⟩⟩,hB1.trans (M.bel.mono hB1.size)⟩
  ·refine gcl A M ec ((ab▸rsound_any (t:=dm) (Dt.keep M.bel _ hrdm) (by omega))) fun _ _ M a A=>?_;refine sdu A λA=>?_;refine sdk (v:=bV true) A λA=>?_;refine sdm A λA=>?_;iterate 3 refine sks A λA=>?_
   refine sdk (v:=bV true) A λA=>?_;refine qct af A ?_;refine wsr fun _ bi=>?_;iterate 2 refine sda A λA=>?_
   refine qa (bi _ _ (wp_ret (hret _ _ (en2 A rfl (qf rfl) (qf rfl) ?_))));exact⟨none,0,[],2,rfl,⟨(qrd (fun h=>by have h9:=h.2.1; rw[ab]at h9; cases h9)).symm,⟨fun h=>absurd rfl h,fun p h=>by cases h⟩⟩,hB1.trans (M.bel.mono hB1.size)⟩
 ·refine gcl A M ec ((aa▸rsound_any (t:=da) (Dt.keep M.bel _ hrda) (by omega))) fun _ _ M a A=>?_;refine sdu A λA=>?_;refine sdm A λA=>?_;iterate 3 refine sks A λA=>?_
  refine sdk (v:=bV true) A λA=>?_;refine sdm A λA=>?_;iterate 3 refine sks A λA=>?_
  refine sdk (v:=bV true) A λA=>?_;refine qct af A ?_;refine wsr fun _ bj=>?_;iterate 2 refine sda A λA=>?_
  refine qa (bj _ _ (wp_ret (hret _ _ (en2 A rfl (qf rfl) (qf rfl) ?_))));exact⟨none,0,[],2,rfl,⟨(qrd (fun h=>by have h9:=h.1; rw[aa]at h9; cases h9)).symm,⟨fun h=>absurd rfl h,fun p h=>by cases h⟩⟩,hB1.trans (M.bel.mono hB1.size)⟩
theorem jrf{w:World}{so:Option Addr}{ca:Nat}{ps:List Sp}(hPs:PR w so ps)(hl:ps.length≤1000000000)(hck:ckC (ps.map Sp.k)=0)(hB4:∀p∈ps,Tr.bulks (p.vs.map Dt.tr)≤3000000){f g:Tr→List UInt8}(hRf:∀(d:Dt) (w1:World),d.rd w1→(∃p∈ps,d∈p.vs)→(flT (ps.map Sp.k) 8=some d.tr∨flT (ps.map Sp.k) 1=some d.tr)→Calls Tryz.prog 43 #[.agg (d.d.cells d.ts.length).toArray,bV false] w1 fun e w2=>e=.returned (.tuple #[.string ⟨(f d.tr).toArray⟩,iV 0])∧Below w1.heap.size w1 w2)(hRg:∀(d:Dt) (w1:World),d.rd w1→d.tr∈irT (ps.map Sp.k)→Calls Tryz.prog 43 #[.agg (d.d.cells d.ts.length).toArray,bV true] w1 fun e w2=>e=.returned (.tuple #[.string ⟨(g d.tr).toArray⟩,iV 0])∧Below w1.heap.size w1 w2)(hlen:(tlS f g (ps.map Sp.k)).length≤1000000000):Calls Tryz.prog 8 #[.slice so ps.length ca] w (RB w (.tuple #[.string ⟨(tlS f g (ps.map Sp.k)).toArray⟩,iV 0])):=by
 have cr:(nmL (hdT (ps.map Sp.k))).length≤100:=by unfold nmL; rw[zm]; exact qpd (zgd hck)
 have hr0:([]:List UInt8).length+(kat (hdT (ps.map Sp.k))).nm.size≤140737488355328:=by have:=qpd (zgd hck); simp only[fx]; omega
 have cw:(nmL (hdT (ps.map Sp.k))++opT (flT (ps.map Sp.k) 8) fun t=>[32,105,110,32]++f t).length≤1000000000:=by
  have h9:=hlen;unfold tlS at h9;rw[fv,fv]at h9;omega
 have hfull:(tlS f g (ps.map Sp.k)).length≤1000000000:=hlen;have hparts:(tlS f g (ps.map Sp.k)).length=(nmL (hdT (ps.map Sp.k))).length+(opT (flT (ps.map Sp.k) 8) fun t=>[32,105,110,32]++f t).length+(opT (flT (ps.map Sp.k) 1) fun t=>[58,32]++f t).length+((irT (ps.map Sp.k)).flatMap fun t=>[32]++g t).length:=by unfold tlS; simp only[fv]
 have flen8:∀t,flT (ps.map Sp.k) 8=some t→4+(f t).length=(opT (flT (ps.map Sp.k) 8) fun t=>[32,105,110,32]++f t).length:=fun t h=>by rw[zlb h,fv]; rfl
 have flen1:∀t,flT (ps.map Sp.k) 1=some t→2+(f t).length=(opT (flT (ps.map Sp.k) 1) fun t=>[58,32]++f t).length:=fun t h=>by rw[zlb h,fv]; rfl
 have glen:∀{j:Nat} {t:Tr},(irT (ps.map Sp.k))[j]?=some t→(g t).length≤1000000000:=fun h=>by have:=joh (g:=g) h; omega
 have cx:((nmL (hdT (ps.map Sp.k))++opT (flT (ps.map Sp.k) 8) fun t=>[32,105,110,32]++f t)++opT (flT (ps.map Sp.k) 1) fun t=>[58,32]++f t).length≤1000000000:=by
  have h9:=hlen;unfold tlS at h9;rw[fv]at h9;omega
 have M:=Mg.start w;refine wof Tryz.func8 Tryz.ntmps8 fun Q hret hnorm hP a A=>?_;refine wsr fun _ cy=>?_;iterate 2 refine sda A λA=>?_
 refine qwr cy fun _ cz=>sdm A λA=>?_;refine gcl A M ec ((hck▸zai (hPs.below M.bel) hB4 hl)) fun _ hbc M a A=>?_;refine sda A λA=>?_;refine qwk cz fun K4 db=>wsr fun _ dd=>sdm A λA=>?_;refine sdo (v:=bV false) A dbK λA=>?_;refine qcf dd A ?_;refine wp_skip (db _ _ (wsr fun _ de=>sda A λA=>?_));refine qwr de fun _ df=>sdm A λA=>?_;refine gcl A M ec (rfirst_any (hPs.below M.bel) hl (qpa hck) (t:=3)) fun _ cp M a A=>?_;refine sda A λA=>?_;refine qwk df fun dg bf=>?_;have ap:∀a w1,(∃(sa:List UInt8),(sa=(nmL (hdT (ps.map Sp.k))))∧Sl a 104 [(0,.slice so ps.length ca),(2,.string (⟨#[]⟩)),(3,iV 0),(4,iV 0),(5,.string (⟨sa.toArray⟩)),(16,.slice so ps.length ca),(17,iV 0),(18,iV 0),(19,bV false),(21,.slice so ps.length ca),(22,iV (fdI (ps.map Sp.k) 3))]∧Mg w w1 ([]))→dg a w1:=by
  clear A M;rintro a _ ⟨sa,bg,A,M⟩;have hsa:=bg;have hsal:sa.length≤100:=by rw[hsa]; exact cr
  refine bf _ _ (wsr fun _ bh=>sdm A λA=>?_);refine gcl A M ec (rfirst_any (hPs.below M.bel) hl (qpa hck) (t:=8)) fun _ _ M a A=>?_;refine sda A λA=>?_;refine qwk bh fun dh bi=>?_;have aq:∀a w1,(∃(sb:List UInt8),(sb=(nmL (hdT (ps.map Sp.k))++opT (flT (ps.map Sp.k) 8) fun t=>[32,105,110,32]++f t))∧Sl a 104 [(0,.slice so ps.length ca),(2,.string (⟨#[]⟩)),(3,iV 0),(4,iV 0),(5,.string (⟨sb.toArray⟩)),(16,.slice so ps.length ca),(17,iV 0),(18,iV 0),(19,bV false),(21,.slice so ps.length ca),(22,iV (fdI (ps.map Sp.k) 3)),(31,.slice so ps.length ca),(32,iV (fdI (ps.map Sp.k) 8))]∧Mg w w1 ([]))→dh a w1:=by
   clear A M;rintro a _ ⟨sb,bj,A,M⟩;have hsb:=bj;have hsbl:sb.length≤1000000000:=(by rw[hsb]; exact cw);refine bi _ _ (wsr fun _ bn=>sdm A λA=>?_);refine gcl A M ec (rfirst_any (hPs.below M.bel) hl (qpa hck) (t:=1)) fun _ _ M a A=>?_;refine sda A λA=>?_;refine qwk bn fun di bp=>?_;have ar:∀a w1,(∃(sc:List UInt8),(sc=((nmL (hdT (ps.map Sp.k))++opT (flT (ps.map Sp.k) 8) fun t=>[32,105,110,32]++f t)++opT (flT (ps.map Sp.k) 1) fun t=>[58,32]++f t))∧Sl a 104 [(0,.slice so ps.length ca),(2,.string (⟨#[]⟩)),(3,iV 0),(4,iV 0),(5,.string (⟨sc.toArray⟩)),(16,.slice so ps.length ca),(17,iV 0),(18,iV 0),(19,bV false),(21,.slice so ps.length ca),(22,iV (fdI (ps.map Sp.k) 3)),(31,.slice so ps.length ca),(32,iV (fdI (ps.map Sp.k) 8)),(50,.slice so ps.length ca),(51,iV (fdI (ps.map Sp.k) 1))]∧Mg w w1 ([]))→di a w1:=by
    clear A M;rintro a _ ⟨sc,bq,A,M⟩;have hsc:=bq;have hscl:sc.length≤1000000000:=(by rw[hsc]; exact cx);refine bp _ _ (wsr fun _ br=>sdm A λA=>?_);refine gcl A M ec (rfirst_any (hPs.below M.bel) hl (qpa hck) (t:=7)) fun _ _ M a A=>?_;refine sda A λA=>?_;refine qwk br fun _ bw=>wsr fun _ au=>sdm A λA=>?_;rcases tf (decide (fdI (ps.map Sp.k) 7<0))with aa|aa
    ·have aa':=f5 aa;refine sdc A qy aa λA=>?_;refine qct au A ?_;refine wsr fun _ bz=>sdm A λA=>?_;iterate 2 refine sda A λA=>?_
     refine qa (bz _ _ (wp_ret (hret _ _ (en2 A rfl (qf rfl) (qf rfl) ?_))));exact⟨by rw[show(tlS f g (ps.map Sp.k))=sc from by unfold tlS; rw[show irT (ps.map Sp.k)=[]from by unfold irT; rw[qrc (show ¬0≤fdI (ps.map Sp.k) 7 by omega)],hsc]; exact gh _],M.bel⟩
    ·have aa':=fy aa;refine sdc A qy aa λA=>?_;refine qcf au A ?_;refine wp_skip (bw _ _ (wsr fun _ cc=>?_));iterate 2 refine sdm A λA=>?_
     have ag:=qyf (fun k:Int×List Tr=>yn k.1 7) (ps.map Sp.k);rw[gy]at ag;replace ag:-1≤fdI (ps.map Sp.k) 7∧fdI (ps.map Sp.k) 7<((ps.length:Nat):Int):=ag;have hps7:0≤fdI (ps.map Sp.k) 7:=(by omega);obtain⟨x7,bx7,ox7,ix7,mx7,rx7,lx7,Hx7⟩:=hPs.at_ (i:=(fdI (ps.map Sp.k) 7).toNat) (by omega);have hone7:=zkj hck (.inr (.inl rfl)) hps7 ix7 mx7;refine sdo (v:=pA bx7 (ox7+(fdI (ps.map Sp.k) 7).toNat*2)) A (qk (k:=(fdI (ps.map Sp.k) 7).toNat) ic (by kernel_rfl) rfl rfl (by first|rfl|omega) lx7 (by omega)) λA=>?_;refine sdo (v:=pA bx7 (ox7+(fdI (ps.map Sp.k) 7).toNat*2+1)) A (qp qci rfl rfl) λA=>?_;refine sdo A (xl (j:=1) M Hx7 ke rfl rfl rfl) λA=>?_;obtain⟨tk36,btk36,otk36,itk36,mtk36,rtk36_,ltk36,Htk36⟩:=que rx7.v rx7.d (i:=0) (by omega);refine sdo (v:=pA btk36 (otk36+0*11)) A (qk (k:=0) f9 (by kernel_rfl) rfl rfl (by first|rfl|omega) ltk36 (by omega)) λA=>?_;refine sdo A (zp M Htk36 zv rfl rfl) λA=>?_;have dj:flT (ps.map Sp.k) 7=some tk36.tr:=qvh hps7 (yg ix7) (show(x7.vs.map Dt.tr)[0]?=some tk36.tr by rw[List.getElem?_map,itk36]; rfl);refine sct A ec (jre (Dt.keep M.bel _ rtk36_) (by have h8:=qdh mtk36; have h9:=hB4 _ mx7; omega)) ?_;rintro _ cq ⟨az,bd,ys,k8,rfl,⟨dk,hR8,hD8⟩,cp⟩;have hir:ys.map Dt.tr=irT (ps.map Sp.k):=(by unfold irT; rw[dj]; exact j9 Prod.fst dk);have hyl:ys.length=(irT (ps.map Sp.k)).length:=(by rw[←hir,gy]);have hyb:=zya (g:=g) (irT (ps.map Sp.k));replace M:=M.call cp;refine⟨_,rfl,?_⟩;intro a A;refine sdm A λA=>?_;iterate 2 refine sde A λA=>?_
     iterate 2 refine sda A λA=>?_
     refine qwk cc fun _ cd=>wsk fun _ ce=>?_;have hB1:=M.bel;replace M:=Mg.start cq;refine wrl (sda A λA=>?_);refine qa (ce _ _ (wp_block (zg (fun m_ a w1=>∃(j:Nat) (acc:List UInt8),m_=1+(ys.length-j)∧(j≤ys.length∧acc++((irT (ps.map Sp.k)).drop j).flatMap (fun t=>[32]++g t)=(tlS f g (ps.map Sp.k)))∧Sl a 104 [(0,.slice so ps.length ca),(2,.string (⟨#[]⟩)),(3,iV 0),(4,iV 0),(5,.string (⟨acc.toArray⟩)),(6,iV (fdI (ps.map Sp.k) 7)),(11,.slice az ys.length bd),(12,iV k8),(13,iV (((j:Nat):Int))),(16,.slice so ps.length ca),(17,iV 0),(18,iV 0),(19,bV false),(21,.slice so ps.length ca),(22,iV (fdI (ps.map Sp.k) 3)),(31,.slice so ps.length ca),(32,iV (fdI (ps.map Sp.k) 8)),(50,.slice so ps.length ca),(51,iV (fdI (ps.map Sp.k) 1)),(69,.slice so ps.length ca),(70,iV (fdI (ps.map Sp.k) 7)),(71,iV (fdI (ps.map Sp.k) 7)),(72,bV false),(74,.tuple #[.slice az ys.length bd,iV k8]),(75,.slice so ps.length ca),(76,iV (fdI (ps.map Sp.k) 7)),(77,pA bx7 (ox7+(fdI (ps.map Sp.k) 7).toNat*2)),(78,pA bx7 (ox7+(fdI (ps.map Sp.k) 7).toNat*2+1)),(79,.slice x7.vo x7.vs.length x7.vc),(80,pA btk36 (otk36+0*11)),(81,.agg (tk36.d.cells tk36.ts.length).toArray),(82,.tuple #[.slice az ys.length bd,iV k8]),(83,.slice az ys.length bd),(84,iV k8)]∧Mg cq w1 ([])) _ ⟨0,sc,rfl,⟨ii _,by rw[hsc]; rfl⟩,A.keep _ (by repeat' constructor),M⟩ ?_)));clear M A;rintro m_ a _ ⟨j,acc,rfl,ah,A,M⟩ _ cg;obtain⟨hj0,ai⟩:=ah;have hal:acc.length≤1000000000:=(by have:=j9 List.length ai; rw[fv]at this; omega);refine wsk fun _ ch=>wsr fun _ av=>?_;iterate 2 refine sdm A λA=>?_
     refine sdo A (qr f9 rfl) λA=>?_;rcases tf (decide (((j:Nat):Int)<((ys.length:Nat):Int)))with ab|ab
     ·have ab':=f5 ab;refine sdc A qy ab λA=>?_;refine qct av A ?_;refine wp_skip (ch _ _ (wsk fun _ ci=>wp_block (wsr fun _ cj=>?_)));iterate 2 refine sdm A λA=>?_
      obtain⟨tk,btk,otk,itk,mtk,rtk_,ltk,Htk⟩:=que hR8 hD8 (i:=j) (by omega);refine sdo (v:=pA btk (otk+j*11)) A (qk (k:=j) f9 (by kernel_rfl) rfl rfl rfl ltk (by omega)) λA=>?_;refine sdo A (zp M Htk zv rfl rfl) λA=>?_;have hmi:tk.tr∈irT (ps.map Sp.k):=(by rw[←hir]; exact j5 mtk);have hit:(irT (ps.map Sp.k))[j]?=some tk.tr:=(by rw[←hir,List.getElem?_map,itk]; rfl);have hgl:=glen hit;refine gcl A M ec (hRg tk _ (Dt.keep M.bel _ rtk_) hmi) fun _ _ M a A=>?_;refine sdm A λA=>?_;iterate 2 refine sde A λA=>?_
      iterate 2 refine sda A λA=>?_
      refine qa (cj _ _ (wrl ?_));iterate 2 refine sdm A λA=>?_
      refine sdo (v:=.string (⟨([32]++(g tk.tr)).toArray⟩)) A (qb rfl rfl (yy (a:=[32]) (b:=(g tk.tr)) (by simp only[fw,fx]; omega))) λA=>?_;refine sdo (v:=.string (⟨(acc++([32]++(g tk.tr))).toArray⟩)) A (qb rfl rfl (yy (a:=acc) (b:=([32]++(g tk.tr))) (by rw[fv]; simp only[fw,fx]; omega))) λA=>?_;refine sda A λA=>?_;refine qa (ci _ _ (wrl (sdm A λA=>?_)));refine sdo (v:=iV (((j+1:Nat):Int))) A (qb rfl rfl (fun w=>(zq (jk (by omega) (by omega)) w).trans (by rw[show(((j:Nat):Int)+1:Int)=((j+1:Nat):Int)from by omega]))) λA=>?_;refine sda A λA=>?_;refine qa ?_;refine cg _ _ _ (by omega) ⟨j+1,(acc++([32]++g tk.tr)),rfl,⟨by omega,by rw[←ai,jed hit,f4]⟩,A.keep _ (by repeat' constructor),M⟩
     ·have ab':=fy ab;refine sdc A qy ab λA=>?_;refine qcf av A ?_;refine wp_exit (cd _ _ (wsr fun _ ck=>sdm A λA=>?_));iterate 2 refine sda A λA=>?_
      refine qa (ck _ _ (wp_ret (hret _ _ (en2 A rfl (qf rfl) (qf rfl) ?_))));exact⟨by rw[show(tlS f g (ps.map Sp.k))=acc from by rw[←ai,i7 (by omega)]; exact gh _],hB1.trans (M.bel.mono hB1.size)⟩
   refine wsr fun _ aw=>sdm A λA=>?_;rcases tf (decide (0≤fdI (ps.map Sp.k) 1))with ac|ac
   ·have ac':=f5 ac;refine sdc A zt ac λA=>?_;refine qct aw A ?_;refine wsr fun _ cl=>?_;iterate 2 refine sdm A λA=>?_
    have aj:=qyf (fun k:Int×List Tr=>yn k.1 1) (ps.map Sp.k);rw[gy]at aj;replace aj:-1≤fdI (ps.map Sp.k) 1∧fdI (ps.map Sp.k) 1<((ps.length:Nat):Int):=aj;have hps1:0≤fdI (ps.map Sp.k) 1:=(by omega);obtain⟨x1,bx1,ox1,ix1,mx1,rx1,lx1,Hx1⟩:=hPs.at_ (i:=(fdI (ps.map Sp.k) 1).toNat) (by omega);have hone1:=zkj hck (.inl rfl) hps1 ix1 mx1;refine sdo (v:=pA bx1 (ox1+(fdI (ps.map Sp.k) 1).toNat*2)) A (qk (k:=(fdI (ps.map Sp.k) 1).toNat) ic (by kernel_rfl) rfl rfl (by first|rfl|omega) lx1 (by omega)) λA=>?_;refine sdo (v:=pA bx1 (ox1+(fdI (ps.map Sp.k) 1).toNat*2+1)) A (qp qci rfl rfl) λA=>?_;refine sdo A (xl (j:=1) M Hx1 ke rfl rfl rfl) λA=>?_;obtain⟨tk54,btk54,otk54,itk54,mtk54,rtk54_,ltk54,Htk54⟩:=que rx1.v rx1.d (i:=0) (by omega);refine sdo (v:=pA btk54 (otk54+0*11)) A (qk (k:=0) f9 (by kernel_rfl) rfl rfl (by first|rfl|omega) ltk54 (by omega)) λA=>?_;refine sdo A (zp M Htk54 zv rfl rfl) λA=>?_;have cm:flT (ps.map Sp.k) 1=some tk54.tr:=qvh hps1 (yg ix1) (show(x1.vs.map Dt.tr)[0]?=some tk54.tr by rw[List.getElem?_map,itk54]; rfl);have hlf1:=flen1 _ cm;refine gcl A M ec (hRf tk54 _ (Dt.keep M.bel _ rtk54_) ⟨x1,mx1,mtk54⟩ (.inr cm)) fun _ _ M a A=>?_;refine sdm A λA=>?_;iterate 2 refine sde A λA=>?_
    iterate 2 refine sda A λA=>?_
    refine qa (cl _ _ (wrl ?_));iterate 2 refine sdm A λA=>?_
    refine sdo (v:=.string (⟨([58,32]++(f tk54.tr)).toArray⟩)) A (qb rfl rfl (yy (a:=[58,32]) (b:=(f tk54.tr)) (by simp only[fw,fx]; omega))) λA=>?_;refine sdo (v:=.string (⟨(sb++([58,32]++(f tk54.tr))).toArray⟩)) A (qb rfl rfl (yy (a:=sb) (b:=([58,32]++(f tk54.tr))) (by rw[fv]; simp only[fw,fx]; omega))) λA=>?_;refine sda A λA=>?_;refine qa ?_;exact ar _ _ ⟨(sb++([58,32]++f tk54.tr)),(by rw[cm,hsb]; rfl),A.keep _ (by repeat' constructor),M⟩
   ·have ac':=fy ac;refine sdc A zt ac λA=>?_;refine qcf aw A ?_;refine wp_skip ?_;exact ar _ _ ⟨sb,(by rw[qrc (show ¬0≤fdI (ps.map Sp.k) 1 by omega),hsb]; exact(gh _).symm),A.keep _ (by repeat' constructor),M⟩
  refine wsr fun _ ax=>sdm A λA=>?_;rcases tf (decide (0≤fdI (ps.map Sp.k) 8))with ae|ae
  ·have ae':=f5 ae;refine sdc A zt ae λA=>?_;refine qct ax A ?_;refine wsr fun _ cn=>?_;iterate 2 refine sdm A λA=>?_
   have ak:=qyf (fun k:Int×List Tr=>yn k.1 8) (ps.map Sp.k);rw[gy]at ak;replace ak:-1≤fdI (ps.map Sp.k) 8∧fdI (ps.map Sp.k) 8<((ps.length:Nat):Int):=ak;have hps8:0≤fdI (ps.map Sp.k) 8:=(by omega);obtain⟨x8,bx8,ox8,ix8,mx8,rx8,lx8,Hx8⟩:=hPs.at_ (i:=(fdI (ps.map Sp.k) 8).toNat) (by omega);have hone8:=zkj hck (.inr (.inr rfl)) hps8 ix8 mx8;refine sdo (v:=pA bx8 (ox8+(fdI (ps.map Sp.k) 8).toNat*2)) A (qk (k:=(fdI (ps.map Sp.k) 8).toNat) ic (by kernel_rfl) rfl rfl (by first|rfl|omega) lx8 (by omega)) λA=>?_;refine sdo (v:=pA bx8 (ox8+(fdI (ps.map Sp.k) 8).toNat*2+1)) A (qp qci rfl rfl) λA=>?_;refine sdo A (xl (j:=1) M Hx8 ke rfl rfl rfl) λA=>?_;obtain⟨tk60,btk60,otk60,itk60,mtk60,rtk60_,ltk60,Htk60⟩:=que rx8.v rx8.d (i:=0) (by omega);refine sdo (v:=pA btk60 (otk60+0*11)) A (qk (k:=0) f9 (by kernel_rfl) rfl rfl (by first|rfl|omega) ltk60 (by omega)) λA=>?_;refine sdo A (zp M Htk60 zv rfl rfl) λA=>?_;have co:flT (ps.map Sp.k) 8=some tk60.tr:=qvh hps8 (yg ix8) (show(x8.vs.map Dt.tr)[0]?=some tk60.tr by rw[List.getElem?_map,itk60]; rfl);have hlf8:=flen8 _ co;refine gcl A M ec (hRf tk60 _ (Dt.keep M.bel _ rtk60_) ⟨x8,mx8,mtk60⟩ (.inl co)) fun _ _ M a A=>?_;refine sdm A λA=>?_;iterate 2 refine sde A λA=>?_
   iterate 2 refine sda A λA=>?_
   refine qa (cn _ _ (wrl ?_));iterate 2 refine sdm A λA=>?_
   refine sdo (v:=.string (⟨([32,105,110,32]++(f tk60.tr)).toArray⟩)) A (qb rfl rfl (yy (a:=[32,105,110,32]) (b:=(f tk60.tr)) (by simp only[fw,fx]; omega))) λA=>?_;refine sdo (v:=.string (⟨(sa++([32,105,110,32]++(f tk60.tr))).toArray⟩)) A (qb rfl rfl (yy (a:=sa) (b:=([32,105,110,32]++(f tk60.tr))) (by rw[fv]; simp only[fw,fx]; omega))) λA=>?_;refine sda A λA=>?_;refine qa ?_;exact aq _ _ ⟨(sa++([32,105,110,32]++f tk60.tr)),(by rw[co,hsa]; rfl),A.keep _ (by repeat' constructor),M⟩
  ·have ae':=fy ae;refine sdc A zt ae λA=>?_;refine qcf ax A ?_;refine wp_skip ?_;exact aq _ _ ⟨sa,(by rw[qrc (show ¬0≤fdI (ps.map Sp.k) 8 by omega),hsa]; exact(gh _).symm),A.keep _ (by repeat' constructor),M⟩
 refine wsr fun _ ay=>sdm A λA=>?_;rcases tf (decide (0≤fdI (ps.map Sp.k) 3))with af|af
 ·have af':=f5 af;refine sdc A zt af λA=>?_;refine qct ay A ?_;refine wrl ?_;iterate 2 refine sdm A λA=>?_
  have am:=qyf (fun k:Int×List Tr=>yn k.1 3) (ps.map Sp.k);rw[gy]at am;replace am:-1≤fdI (ps.map Sp.k) 3∧fdI (ps.map Sp.k) 3<((ps.length:Nat):Int):=am;have hps3:0≤fdI (ps.map Sp.k) 3:=by omega
  obtain⟨x3,bx3,ox3,ix3,mx3,rx3,lx3,Hx3⟩:=hPs.at_ (i:=(fdI (ps.map Sp.k) 3).toNat) (by omega);refine sdo (v:=pA bx3 (ox3+(fdI (ps.map Sp.k) 3).toNat*2)) A (qk (k:=(fdI (ps.map Sp.k) 3).toNat) ic (by kernel_rfl) rfl rfl (by first|rfl|omega) lx3 (by omega)) λA=>?_;refine sdo (v:=pA bx3 (ox3+(fdI (ps.map Sp.k) 3).toNat*2)) A (qp qch rfl rfl) λA=>?_;refine sdo A (xl (j:=0) M Hx3 o93 rfl rfl rfl) λA=>?_;refine gcl A M ec (qrf) fun _ hbn M a A=>?_;refine sda A λA=>?_;refine qa ?_;exact ap _ _ ⟨(kat x3.ty).nm.data.toList,(by rw[jea hps3 (yg ix3)]; rfl),A.keep _ (by repeat' constructor),M⟩
 ·have af':=fy af;refine sdc A zt af λA=>?_;refine qcf ay A ?_;refine wp_skip ?_;exact ap _ _ ⟨[99,111,110,100,105,116,105,111,110],(by rw[joa (by omega)]; rfl),A.keep _ (by repeat' constructor),M⟩
theorem jif{w:World}{so:Option Addr}{ca:Nat}{ps:List Sp}(hPs:PR w so ps)(hl:ps.length≤1000000000)(hck:ckC (ps.map Sp.k)≠0)(hB4:∀p∈ps,Tr.bulks (p.vs.map Dt.tr)≤3000000):Calls Tryz.prog 8 #[.slice so ps.length ca] w (RB w (.tuple #[.string ⟨#[]⟩,iV (ckC (ps.map Sp.k))])):=by
 have M:=Mg.start w;refine wof Tryz.func8 Tryz.ntmps8 fun Q hret hnorm hP a A=>?_;refine wsr fun _ aa=>?_;iterate 2 refine sda A λA=>?_
 refine qwr aa fun _ ab=>sdm A λA=>?_;refine gcl A M ec (zai (hPs.below M.bel) hB4 hl) fun _ hbc M a A=>?_;refine sda A λA=>?_;refine qwk ab fun K4 _=>wsr fun _ ac=>sdm A λA=>?_;refine sdo (v:=bV true) A (qb rfl rfl (fun w=>(zh w).trans (by rw[show((ckC (ps.map Sp.k) != 0))=true from(iy.2 hck)]))) λA=>?_;refine qct ac A ?_;refine wsr fun _ ae=>sdm A λA=>?_;iterate 2 refine sda A λA=>?_
 refine qa (ae _ _ (wp_ret (hret _ _ (en2 A rfl (qf rfl) (qf rfl) ?_))));exact⟨rfl,M.bel⟩
end Go.Proofs.YtmnlfahgklnpeaaGreatDoor.G
namespace Go.Proofs.YtmnlfahgklnpeaaGreatDoor.C
open Go.RowKit

def qph(r:Int):Bool:=decide ((r≠304∧r≠305∧256≤r∧r≤311)∨(330≤r∧r≤375))
def zlf(r:Int):Bool:=decide ((313≤r∧r≤328)∨(377≤r∧r≤382))
def yz(r:Int):Int:=
  if 97≤r∧r≤122 then 32
  else if 224≤r∧r≤254∧r≠247 then 32
  else if qph r=true∧r%2=1 then 1
  else if zlf r=true∧r%2=0 then 1
  else if 945≤r∧r≤969∧r≠962 then 32
  else if 1072≤r∧r≤1103 then 32
  else if 1104≤r∧r≤1119 then 80
  else 0

def uu(r:Int):Int:=
  if yz (wrap32 (r+1))=1 then 1 else if yz (wrap32 (r+32))=32 then 32 else if yz (wrap32 (r+80))=80 then 80 else 0
def vp(r:Int):Bool:=decide (r=170∨r=181∨r=186∨r=223∨r=255∨r=304∨r=305∨r=312∨r=329∨r=376∨r=383∨r=962)
def xm(r:Int):Bool:=decide (yz r≠0∨uu r≠0)||vp r
def blankB(r:Int):Bool:=decide (r=9∨r=10∨r=11∨r=12∨r=13∨r=32∨r=133∨r=160∨r=8232∨r=8233)

def qhg(r:Int):Int:=if yz r=0 then 0 else r-yz r
def qjd(r:Int):Int:=if uu r=0 then 0 else r+uu r

theorem ub(r:Int)(h:r<97∨1119<r):yz r=0:=by
  unfold yz qph zlf;simp only[decide_eq_true_eq];rw[f7 (by omega),f7 (by omega),f7 (by omega),f7 (by omega),f7 (by omega),f7 (by omega),f7 (by omega)]
theorem qff(x:Int)(h0:-2147483648≤x)(h1:x≤2147483647):wrap32 x=x:=by unfold wrap32; omega
theorem zlg(r k:Int)(h0:-2147483648≤r)(h1:r≤2147483647)(hk:0≤k)(hk':k≤80):yz (wrap32 (r+k))=yz (r+k):=by
  by_cases h:r+k≤2147483647
  · rw[qff _ (by omega) h]
  · rw[ub (wrap32 (r+k)) (by unfold wrap32; omega),ub (r+k) (by omega)]
def qri(r:Int):Int:=if yz (r+1)=1 then 1 else if yz (r+32)=32 then 32 else if yz (r+80)=80 then 80 else 0
theorem jig(r:Int)(h0:-2147483648≤r)(h1:r≤2147483647):uu r=qri r:=by
  unfold uu qri;rw[zlg r 1 h0 h1 (by omega) (by omega),zlg r 32 h0 h1 (by omega) (by omega),zlg r 80 h0 h1 (by omega) (by omega)]
theorem zyj(r:Int)(h:r<17∨1119<r):qri r=0:=by
  unfold qri;rw[ub (r+1) (by omega),f7 (by omega)];by_cases a:r+32<97∨1119<r+32
  · rw[ub (r+32) a,f7 (by omega)];rw[ub (r+80) (by omega),f7 (by omega)]
  · omega

theorem qkg(r:Int):(qph r=true)=((r≠304∧r≠305∧256≤r∧r≤311)∨(330≤r∧r≤375)):=by simp[qph]
theorem zlh(r:Int):(qph r=false)=¬((r≠304∧r≠305∧256≤r∧r≤311)∨(330≤r∧r≤375)):=by rw[←qkg]; simp
theorem qrj(r:Int):(zlf r=true)=((313≤r∧r≤328)∨(377≤r∧r≤382)):=by simp[zlf]
theorem zza(r:Int):(zlf r=false)=¬((313≤r∧r≤328)∨(377≤r∧r≤382)):=by rw[←qrj]; simp

theorem qhh(r:Int):
    (yz r=32∧((97≤r∧r≤122)∨(224≤r∧r≤254∧r≠247)∨(945≤r∧r≤969∧r≠962)∨(1072≤r∧r≤1103)))
    ∨ (yz r = 1 ∧ ((((r ≠ 304 ∧ r ≠ 305 ∧ 256 ≤ r ∧ r ≤ 311) ∨ (330 ≤ r ∧ r ≤ 375)) ∧ r % 2 = 1) ∨ (((313 ≤ r ∧ r ≤ 328) ∨ (377 ≤ r ∧ r ≤ 382)) ∧ r % 2 = 0)))
    ∨ (yz r = 80 ∧ 1104 ≤ r ∧ r ≤ 1119)
    ∨ (yz r = 0 ∧ ¬ (97 ≤ r ∧ r ≤ 122) ∧ ¬ (224 ≤ r ∧ r ≤ 254 ∧ r ≠ 247) ∧ ¬ (945 ≤ r ∧ r ≤ 969 ∧ r ≠ 962) ∧ ¬ (1072 ≤ r ∧ r ≤ 1119)
        ∧ ¬ (((r ≠ 304 ∧ r ≠ 305 ∧ 256 ≤ r ∧ r ≤ 311) ∨ (330 ≤ r ∧ r ≤ 375)) ∧ r % 2 = 1) ∧ ¬ (((313 ≤ r ∧ r ≤ 328) ∨ (377 ≤ r ∧ r ≤ 382)) ∧ r % 2 = 0)) := by
  unfold yz;simp only[qkg,qrj]
  split
  · omega
  · split
    · omega
    · split
      · omega
      · split
        · omega
        · split
          · omega
          · split
            · omega
            · split<;>omega

def SmallAt(r s:Int):Prop:=
    (s=1∧((((r≠304∧256≤r∧r≤310)∨(330≤r∧r≤374))∧r%2=0)∨(((313≤r∧r≤327)∨(377≤r∧r≤381))∧r%2=1)))
    ∨ (s = 32 ∧ ((65 ≤ r ∧ r ≤ 90) ∨ (192 ≤ r ∧ r ≤ 222 ∧ r ≠ 215) ∨ (913 ≤ r ∧ r ≤ 937 ∧ r ≠ 930) ∨ (1040 ≤ r ∧ r ≤ 1071)))
    ∨ (s = 80 ∧ 1024 ≤ r ∧ r ≤ 1039)
    ∨ (s = 0 ∧ ¬ (65 ≤ r ∧ r ≤ 90) ∧ ¬ (192 ≤ r ∧ r ≤ 222 ∧ r ≠ 215) ∧ ¬ (913 ≤ r ∧ r ≤ 937 ∧ r ≠ 930) ∧ ¬ (1024 ≤ r ∧ r ≤ 1071)
        ∧ ¬ (((r ≠ 304 ∧ 256 ≤ r ∧ r ≤ 310) ∨ (330 ≤ r ∧ r ≤ 374)) ∧ r % 2 = 0) ∧ ¬ (((313 ≤ r ∧ r ≤ 327) ∨ (377 ≤ r ∧ r ≤ 381)) ∧ r % 2 = 1))
def zzb(r:Int):Int:=
  if(((r≠304∧256≤r∧r≤310)∨(330≤r∧r≤374))∧r%2=0)∨(((313≤r∧r≤327)∨(377≤r∧r≤381))∧r%2=1)then 1
  else if(65≤r∧r≤90)∨(192≤r∧r≤222∧r≠215)∨(913≤r∧r≤937∧r≠930)∨(1040≤r∧r≤1071)then 32
  else if 1024≤r∧r≤1039 then 80 else 0
theorem zzc: ∀k:Nat,k<1200→qri (k:Int)=zzb (k:Int):=by decide +kernel
theorem zli(r:Int):SmallAt r (zzb r):=by
  unfold zzb SmallAt
  split
  · omega
  · split
    · omega
    · split<;>omega
theorem zlj(r:Int):SmallAt r (qri r):=by
  by_cases h:0≤r∧r<1200
  · have:=zzc r.toNat (by omega);rw[Int.toNat_of_nonneg h.1]at this;rw[this];exact zli r
  · rw[zyj r (by omega)];unfold SmallAt;omega
theorem ux{k:IntKind}{a b:Int}(h:a=b):Ending.returned (.int k a)=.returned (.int k b):=by rw[h]
theorem jg{a b:Bool}(h:a=b):Ending.returned (.bool a)=.returned (.bool b):=by rw[h]
theorem zba(r:Int)(w:World):
    Calls Tryz.prog 288 #[.int .i32 r] w fun e w'=>e=.returned (.bool (qph r))∧w'=w:=by
  go_enter Tryz.func288,Tryz.ntmps288
  go_wp2
  all_goals go_ret
  all_goals refine⟨jg ?_,rfl⟩
  all_goals (unfold qph; rw[Bool.eq_iff_iff]; simp at *; omega)
theorem qdj(r:Int)(w:World):
    Calls Tryz.prog 289 #[.int .i32 r] w fun e w'=>e=.returned (.bool (zlf r))∧w'=w:=by
  go_enter Tryz.func289,Tryz.ntmps289
  go_wp2
  all_goals go_ret
  all_goals refine⟨jg ?_,rfl⟩
  all_goals (unfold zlf; rw[Bool.eq_iff_iff]; simp at *; try omega)
theorem jih(r:Int)(w:World):
    Calls Tryz.prog 329 #[.int .i32 r] w fun e w'=>e=.returned (.bool (vp r))∧w'=w:=by
  go_enter Tryz.func329,Tryz.ntmps329
  go_wp2
  all_goals go_ret
  all_goals refine⟨jg ?_,rfl⟩
  all_goals (unfold vp; rw[Bool.eq_iff_iff]; simp at *; try omega)
theorem blank_any(r:Int)(w:World):
    Calls Tryz.prog 244 #[.int .i32 r] w fun e w'=>e=.returned (.bool (blankB r))∧w'=w:=by
  go_enter Tryz.func244,Tryz.ntmps244
  go_wp2
  all_goals go_ret
  all_goals refine⟨jg ?_,rfl⟩
  all_goals (unfold blankB; rw[Bool.eq_iff_iff]; simp at *; try omega)
theorem jeh(r:Int)(w:World):
    Calls Tryz.prog 256 #[.int .i32 r] w fun e w'=>e=.returned (.int .i32 (yz r))∧w'=w:=by
  have HC:Hid _:=qhh r;have h0:qph r=true→0≤r:=by rw[qkg]; omega
  have h1:zlf r=true→0≤r:=by rw[qrj]; omega
  by_cases he:qph r=true
  · have hr:=h0 he;clear h0 h1
    go_enter Tryz.func256,Tryz.ntmps256
    go_wp2_with (first|(go_at_call 288; refine(zba _ _).mono ?_; rintro e w' ⟨rfl,rfl⟩)|(go_at_call 289; refine(qdj _ _).mono ?_; rintro e w' ⟨rfl,rfl⟩))
    all_goals go_ret
    all_goals refine⟨ux ?_,rfl⟩
    all_goals (have hc:=HC.out; go_light; simp only[qkg,qrj,zlh,zza,Bool.not_eq_true,beq_iff_eq,iy,beq_eq_false_iff_ne,ie,ne_eq]at *; omega)
  · by_cases ho:zlf r=true
    · have hr:=h1 ho;clear h0 h1
      go_enter Tryz.func256,Tryz.ntmps256
      go_wp2_with (first|(go_at_call 288; refine(zba _ _).mono ?_; rintro e w' ⟨rfl,rfl⟩)|(go_at_call 289; refine(qdj _ _).mono ?_; rintro e w' ⟨rfl,rfl⟩))
      all_goals go_ret
      all_goals refine⟨ux ?_,rfl⟩
      all_goals (have hc:=HC.out; go_light; simp only[qkg,qrj,zlh,zza,Bool.not_eq_true,beq_iff_eq,iy,beq_eq_false_iff_ne,ie,ne_eq]at *; omega)
    · clear h0 h1
      go_enter Tryz.func256,Tryz.ntmps256
      go_wp2_with (first|(go_at_call 288; refine(zba _ _).mono ?_; rintro e w' ⟨rfl,rfl⟩)|(go_at_call 289; refine(qdj _ _).mono ?_; rintro e w' ⟨rfl,rfl⟩))
      all_goals go_ret
      all_goals refine⟨ux ?_,rfl⟩
      all_goals (have hc:=HC.out; go_light; simp only[qkg,qrj,zlh,zza,Bool.not_eq_true,beq_iff_eq,iy,beq_eq_false_iff_ne,ie,ne_eq]at *; omega)
theorem zzd(r:Int)(w:World):
    Calls Tryz.prog 255 #[.int .i32 r] w fun e w'=>e=.returned (.int .i32 (uu r))∧w'=w:=by
  go_enter Tryz.func255,Tryz.ntmps255
  go_wp2_with (go_at_call 256; refine(jeh _ _).mono ?_; rintro e w' ⟨rfl,rfl⟩)
  all_goals go_ret
  all_goals refine⟨ux ?_,rfl⟩
  all_goals (unfold uu; simp at *; simp[*])
theorem zze(r:Int)(w:World):
    Calls Tryz.prog 310 #[.int .i32 r] w fun e w'=>e=.returned (.bool (xm r))∧w'=w:=by
  go_enter Tryz.func310,Tryz.ntmps310
  go_wp2_with (first|(go_at_call 256; refine(jeh _ _).mono ?_; rintro e w' ⟨rfl,rfl⟩)|(go_at_call 255; refine(zzd _ _).mono ?_; rintro e w' ⟨rfl,rfl⟩)|(go_at_call 329; refine(jih _ _).mono ?_; rintro e w' ⟨rfl,rfl⟩))
  all_goals go_ret
  all_goals refine⟨jg ?_,rfl⟩
  all_goals (unfold xm; simp at *; first|omega|simp[*])
theorem qdc(r:Int):(yz r=0∧qhg r=0)∨(yz r≠0∧qhg r=r-yz r):=by
  unfold qhg
  split<;>omega
theorem ko(r:Int)(w:World):
    Calls Tryz.prog 226 #[.int .i32 r] w fun e w'=>e=.returned (.int .i32 (qhg r))∧w'=w:=by
  by_cases hr:97≤r
  · have HC:Hid _:=qhh r;have HD:Hid _:=qdc r
    go_enter Tryz.func226,Tryz.ntmps226
    go_wp2
    all_goals go_ret
    all_goals refine⟨ux ?_,rfl⟩
    all_goals (have hc:=HC.out; have hd:=HD.out; go_light; simp only[Bool.not_eq_true,beq_iff_eq,iy,beq_eq_false_iff_ne,ie,ne_eq]at *; first|omega|(subst_vars; rfl))
  · have h1:r<97:=(by omega);have HD:Hid (qhg r=0):=by
      have a:=ub r (Or.inl h1);have b:=qdc r;exact b.elim (fun x=>x.2) (fun x=>absurd a x.1)
    clear hr
    go_enter Tryz.func226,Tryz.ntmps226
    go_wp2
    all_goals go_ret
    all_goals exact⟨ux HD.out.symm,rfl⟩
def qsa(r b:Int):Bool:=(qhg (wrap32 (r+b)) != 0)&&(qhg (wrap32 (r+b))==r)
theorem qvi(r b:Int)(h0:-2147483648≤r)(h1:r≤2147483647)(hb:b=1∨b=32∨b=80):qsa r b=true↔yz (wrap32 (r+b))=b:=by
  unfold qsa;simp only[ig,iy,beq_iff_eq,ne_eq];by_cases h:r+b≤2147483647
  · rw[qff (r+b) (by omega) h];have hc:=qdc (r+b);have ho:r+b<97→yz (r+b)=0:=fun h=>ub _ (Or.inl h);have ho2:yz (r+b)=80→1104≤r+b:=by
      have:=qhh (r+b);omega
    constructor
    · intro hh; omega
    · intro hh; omega
  · have hx:yz (wrap32 (r+b))=0:=ub _ (by unfold wrap32; omega);have hc:=qdc (wrap32 (r+b));constructor
    · intro hh; omega
    · intro hh; omega
theorem zsb(r:Int)(h0:-2147483648≤r)(h1:r≤2147483647):
    qjd r=if qsa r 1=true then r+1 else if qsa r 32=true then r+32 else if qsa r 80=true then r+80 else 0:=by
  unfold qjd uu;simp only[qvi r 1 h0 h1 (by simp),qvi r 32 h0 h1 (by simp),qvi r 80 h0 h1 (by simp)]
  split
  · simp
  · split
    · simp
    · split<;>simp
theorem zma(r b:Int)(h0:-2147483648≤r)(h1:r≤2147483647)(hb:b=1∨b=32∨b=80)(h:qsa r b=true):r+b≤1119:=by
  rw[qvi r b h0 h1 hb]at h;by_cases h2:r+b≤1119
  · exact h2
  · exfalso;have:yz (wrap32 (r+b))=0:=ub _ (by unfold wrap32; omega);omega
theorem qsb(r b:Int):(qsa r b=true∧(qhg (wrap32 (r+b)) != 0)=true∧(qhg (wrap32 (r+b))==r)=true)∨(qsa r b=false∧(qhg (wrap32 (r+b)) != 0)=false)∨(qsa r b=false∧(qhg (wrap32 (r+b)) != 0)=true∧(qhg (wrap32 (r+b))==r)=false):=by
  unfold qsa;cases (qhg (wrap32 (r+b)) != 0)<;>cases (qhg (wrap32 (r+b))==r)<;>simp
theorem zzf(r:Int)(h0:-2147483648≤r)(h1:r≤2147483647)(w:World):
    Calls Tryz.prog 225 #[.int .i32 r] w fun e w'=>e=.returned (.int .i32 (qjd r))∧Below w.heap.size w w':=by
  have HS:Hid _:=zsb r h0 h1;have HL:Hid _:=zma r 1 h0 h1 (by simp);have HL2:Hid _:=zma r 32 h0 h1 (by simp);have HL3:Hid _:=zma r 80 h0 h1 (by simp);have h0:Hid _:=h0;have h1:Hid _:=h1
  go_enter Tryz.func225,Tryz.ntmps225
  go_wp2
  go_loop [8] (fun i=>∃k:Nat,k≤3∧i=.int .i64 k∧(1≤k→qsa r 1=false)∧(2≤k→qsa r 32=false)∧(3≤k→qsa r 80=false)) (fun i=>3-(intOf i).toNat)
  case atStart=>exact⟨0,by omega,rfl,by simp,by simp,by simp⟩
  case round=>
    obtain⟨k,hk,rfl,g1,g2,g3⟩:=hrel;obtain rfl|rfl|rfl|rfl:k=0∨k=1∨k=2∨k=3:=by omega
    · clear g1 g2 g3;rcases qsb r 1 with⟨H,a,b⟩|⟨H,a⟩|⟨H,a,b⟩;all_goals (have HH:Hid _:=H; clear H)
      · go_wp2_with (go_at_call 226; refine(ko _ _).mono ?_; rintro e w' ⟨rfl,rfl⟩)
        go_ret
        refine⟨ux ?_,(Below.refl _ _).alloc (gm _) _⟩;have hb:=HL.out HH.out;rw[HS.out,gj HH.out,qff _ (by have:=h0.out; omega) (by omega)]
      · go_wp2_with (go_at_call 226; refine(ko _ _).mono ?_; rintro e w' ⟨rfl,rfl⟩)
        go_round
        case rel=>exact⟨1,by omega,by go_num,by simp[HH.out],by simp,by simp⟩
        case measure=>simp[intOf]
      · go_wp2_with (go_at_call 226; refine(ko _ _).mono ?_; rintro e w' ⟨rfl,rfl⟩)
        go_round
        case rel=>exact⟨1,by omega,by go_num,by simp[HH.out],by simp,by simp⟩
        case measure=>simp[intOf]
    · have G1:Hid _:=g1 (by omega);clear g1 g2 g3;rcases qsb r 32 with⟨H,a,b⟩|⟨H,a⟩|⟨H,a,b⟩;all_goals (have HH:Hid _:=H; clear H)
      · go_wp2_with (go_at_call 226; refine(ko _ _).mono ?_; rintro e w' ⟨rfl,rfl⟩)
        go_ret
        refine⟨ux ?_,(Below.refl _ _).alloc (gm _) _⟩;have hb:=HL2.out HH.out;rw[HS.out,f7 (by simp[G1.out]),gj HH.out,qff _ (by have:=h0.out; omega) (by omega)]
      · go_wp2_with (go_at_call 226; refine(ko _ _).mono ?_; rintro e w' ⟨rfl,rfl⟩)
        go_round
        case rel=>exact⟨2,by omega,by go_num,fun _=>G1.out,by simp[HH.out],by simp⟩
        case measure=>simp[intOf]
      · go_wp2_with (go_at_call 226; refine(ko _ _).mono ?_; rintro e w' ⟨rfl,rfl⟩)
        go_round
        case rel=>exact⟨2,by omega,by go_num,fun _=>G1.out,by simp[HH.out],by simp⟩
        case measure=>simp[intOf]
    · have G1:Hid _:=g1 (by omega);have G2:Hid _:=g2 (by omega);clear g1 g2 g3;rcases qsb r 80 with⟨H,a,b⟩|⟨H,a⟩|⟨H,a,b⟩;all_goals (have HH:Hid _:=H; clear H)
      · go_wp2_with (go_at_call 226; refine(ko _ _).mono ?_; rintro e w' ⟨rfl,rfl⟩)
        go_ret
        refine⟨ux ?_,(Below.refl _ _).alloc (gm _) _⟩;have hb:=HL3.out HH.out;rw[HS.out,f7 (by simp[G1.out]),f7 (by simp[G2.out]),gj HH.out,qff _ (by have:=h0.out; omega) (by omega)]
      · go_wp2_with (go_at_call 226; refine(ko _ _).mono ?_; rintro e w' ⟨rfl,rfl⟩)
        go_round
        case rel=>exact⟨3,by omega,by go_num,fun _=>G1.out,fun _=>G2.out,by simp[HH.out]⟩
        case measure=>simp[intOf]
      · go_wp2_with (go_at_call 226; refine(ko _ _).mono ?_; rintro e w' ⟨rfl,rfl⟩)
        go_round
        case rel=>exact⟨3,by omega,by go_num,fun _=>G1.out,fun _=>G2.out,by simp[HH.out]⟩
        case measure=>simp[intOf]
    · have G1:Hid _:=g1 (by omega);have G2:Hid _:=g2 (by omega);have G3:Hid _:=g3 (by omega);clear g1 g2 g3
      go_wp2
      go_ret
      refine⟨ux ?_,(Below.refl _ _).alloc (gm _) _⟩;rw[HS.out,f7 (by simp[G1.out]),f7 (by simp[G2.out]),f7 (by simp[G3.out])]
theorem zmb(r:Int):(uu r=0∧qjd r=0)∨(uu r≠0∧qjd r=r+uu r):=by
  unfold qjd
  split<;>omega
theorem zsc(r:Int)(h0:-2147483648≤r)(h1:r≤2147483647):qjd r=0↔uu r=0:=by
  have a:=zmb r;have b:=zlj r;rw[jig r h0 h1]at *
  unfold SmallAt at b;omega
theorem rblank_any(r:Int)(w:World):
    Calls Tryz.prog 154 #[.int .i32 r] w fun e w'=>e=.returned (.bool (blankB r))∧w'=w:=by
  go_enter Tryz.func154,Tryz.ntmps154
  go_wp2
  all_goals go_ret
  all_goals refine⟨jg ?_,rfl⟩
  all_goals (go_light; unfold blankB; rw[Bool.eq_iff_iff]; simp only[Bool.or_eq_true,ig,decide_eq_true_eq,beq_iff_eq,beq_eq_false_iff_ne,ne_eq,Bool.false_eq_true,true_iff,false_iff]at *; omega)
theorem vw(r:Int):vp r=true↔(r=170∨r=181∨r=186∨r=223∨r=255∨r=304∨r=305∨r=312∨r=329∨r=376∨r=383∨r=962):=by unfold vp; simp
theorem jrg(r:Int)(h:r≠170∧r≠181∧r≠186∧r≠223∧r≠255∧r≠304∧r≠305∧r≠312∧r≠329∧r≠376∧r≠383∧r≠962):vp r=false:=by unfold vp; simp; omega
theorem zsd(r:Int)(h0:-2147483648≤r)(h1:r≤2147483647)(w:World):
    Calls Tryz.prog 206 #[.int .i32 r] w fun e w'=>e=.returned (.bool (xm r))∧Below w.heap.size w w':=by
  have HC:Hid _:=qdc r;have HB:Hid _:=qhh r;have HY:Hid _:=zsc r h0 h1;have H0:Hid _:=h0;have H1:Hid _:=h1;clear h0 h1
  go_enter Tryz.func206,Tryz.ntmps206
  go_wp2
  go_loop [7] (fun i=>∃k:Nat,k≤12∧i=.int .i64 k∧Hid ((1≤k→r≠170)∧(2≤k→r≠181)∧(3≤k→r≠186)∧(4≤k→r≠223)∧(5≤k→r≠255)∧(6≤k→r≠304)∧(7≤k→r≠305)∧(8≤k→r≠312)∧(9≤k→r≠329)∧(10≤k→r≠376)∧(11≤k→r≠383)∧(12≤k→r≠962))) (fun i=>12-(intOf i).toNat)
  case atStart=>exact⟨0,by omega,rfl,by show(1≤0→r≠170)∧(2≤0→r≠181)∧(3≤0→r≠186)∧(4≤0→r≠223)∧(5≤0→r≠255)∧(6≤0→r≠304)∧(7≤0→r≠305)∧(8≤0→r≠312)∧(9≤0→r≠329)∧(10≤0→r≠376)∧(11≤0→r≠383)∧(12≤0→r≠962); simp⟩
  case round=>
    obtain⟨k,hk,rfl,G⟩:=hrel;obtain rfl|rfl|rfl|rfl|rfl|rfl|rfl|rfl|rfl|rfl|rfl|rfl|rfl:k=0∨k=1∨k=2∨k=3∨k=4∨k=5∨k=6∨k=7∨k=8∨k=9∨k=10∨k=11∨k=12:=by omega
    · by_cases e1:r=170
      · have E:Hid (r=170):=e1;have q:(r==170)=true:=(by simp[e1]);clear e1
        go_wp2
        all_goals go_ret
        all_goals refine⟨jg ?_,(Below.refl _ _).alloc (gm _) _⟩
        all_goals (have e2:vp r=true:=(vw r).2 (by have:=E.out; omega); unfold xm; rw[e2]; simp)
      · have E:Hid (¬r=170):=e1;have q:(r==170)=false:=(by simp[e1]);clear e1
        go_wp2
        go_round
        case rel=>
          refine⟨1,by omega,by go_num,?_⟩;have g:=G.out;have e:=E.out;show(1≤1→r≠170)∧(2≤1→r≠181)∧(3≤1→r≠186)∧(4≤1→r≠223)∧(5≤1→r≠255)∧(6≤1→r≠304)∧(7≤1→r≠305)∧(8≤1→r≠312)∧(9≤1→r≠329)∧(10≤1→r≠376)∧(11≤1→r≠383)∧(12≤1→r≠962);omega
        case measure=>simp[intOf]
    · by_cases e1:r=181
      · have E:Hid (r=181):=e1;have q:(r==181)=true:=(by simp[e1]);clear e1
        go_wp2
        all_goals go_ret
        all_goals refine⟨jg ?_,(Below.refl _ _).alloc (gm _) _⟩
        all_goals (have e2:vp r=true:=(vw r).2 (by have:=E.out; omega); unfold xm; rw[e2]; simp)
      · have E:Hid (¬r=181):=e1;have q:(r==181)=false:=(by simp[e1]);clear e1
        go_wp2
        go_round
        case rel=>
          refine⟨2,by omega,by go_num,?_⟩;have g:=G.out;have e:=E.out;show(1≤2→r≠170)∧(2≤2→r≠181)∧(3≤2→r≠186)∧(4≤2→r≠223)∧(5≤2→r≠255)∧(6≤2→r≠304)∧(7≤2→r≠305)∧(8≤2→r≠312)∧(9≤2→r≠329)∧(10≤2→r≠376)∧(11≤2→r≠383)∧(12≤2→r≠962);omega
        case measure=>simp[intOf]
    · by_cases e1:r=186
      · have E:Hid (r=186):=e1;have q:(r==186)=true:=(by simp[e1]);clear e1
        go_wp2
        all_goals go_ret
        all_goals refine⟨jg ?_,(Below.refl _ _).alloc (gm _) _⟩
        all_goals (have e2:vp r=true:=(vw r).2 (by have:=E.out; omega); unfold xm; rw[e2]; simp)
      · have E:Hid (¬r=186):=e1;have q:(r==186)=false:=(by simp[e1]);clear e1
        go_wp2
        go_round
        case rel=>
          refine⟨3,by omega,by go_num,?_⟩;have g:=G.out;have e:=E.out;show(1≤3→r≠170)∧(2≤3→r≠181)∧(3≤3→r≠186)∧(4≤3→r≠223)∧(5≤3→r≠255)∧(6≤3→r≠304)∧(7≤3→r≠305)∧(8≤3→r≠312)∧(9≤3→r≠329)∧(10≤3→r≠376)∧(11≤3→r≠383)∧(12≤3→r≠962);omega
        case measure=>simp[intOf]
    · by_cases e1:r=223
      · have E:Hid (r=223):=e1;have q:(r==223)=true:=(by simp[e1]);clear e1
        go_wp2
        all_goals go_ret
        all_goals refine⟨jg ?_,(Below.refl _ _).alloc (gm _) _⟩
        all_goals (have e2:vp r=true:=(vw r).2 (by have:=E.out; omega); unfold xm; rw[e2]; simp)
      · have E:Hid (¬r=223):=e1;have q:(r==223)=false:=(by simp[e1]);clear e1
        go_wp2
        go_round
        case rel=>
          refine⟨4,by omega,by go_num,?_⟩;have g:=G.out;have e:=E.out;show(1≤4→r≠170)∧(2≤4→r≠181)∧(3≤4→r≠186)∧(4≤4→r≠223)∧(5≤4→r≠255)∧(6≤4→r≠304)∧(7≤4→r≠305)∧(8≤4→r≠312)∧(9≤4→r≠329)∧(10≤4→r≠376)∧(11≤4→r≠383)∧(12≤4→r≠962);omega
        case measure=>simp[intOf]
    · by_cases e1:r=255
      · have E:Hid (r=255):=e1;have q:(r==255)=true:=(by simp[e1]);clear e1
        go_wp2
        all_goals go_ret
        all_goals refine⟨jg ?_,(Below.refl _ _).alloc (gm _) _⟩
        all_goals (have e2:vp r=true:=(vw r).2 (by have:=E.out; omega); unfold xm; rw[e2]; simp)
      · have E:Hid (¬r=255):=e1;have q:(r==255)=false:=(by simp[e1]);clear e1
        go_wp2
        go_round
        case rel=>
          refine⟨5,by omega,by go_num,?_⟩;have g:=G.out;have e:=E.out;show(1≤5→r≠170)∧(2≤5→r≠181)∧(3≤5→r≠186)∧(4≤5→r≠223)∧(5≤5→r≠255)∧(6≤5→r≠304)∧(7≤5→r≠305)∧(8≤5→r≠312)∧(9≤5→r≠329)∧(10≤5→r≠376)∧(11≤5→r≠383)∧(12≤5→r≠962);omega
        case measure=>simp[intOf]
    · by_cases e1:r=304
      · have E:Hid (r=304):=e1;have q:(r==304)=true:=(by simp[e1]);clear e1
        go_wp2
        all_goals go_ret
        all_goals refine⟨jg ?_,(Below.refl _ _).alloc (gm _) _⟩
        all_goals (have e2:vp r=true:=(vw r).2 (by have:=E.out; omega); unfold xm; rw[e2]; simp)
      · have E:Hid (¬r=304):=e1;have q:(r==304)=false:=(by simp[e1]);clear e1
        go_wp2
        go_round
        case rel=>
          refine⟨6,by omega,by go_num,?_⟩;have g:=G.out;have e:=E.out;show(1≤6→r≠170)∧(2≤6→r≠181)∧(3≤6→r≠186)∧(4≤6→r≠223)∧(5≤6→r≠255)∧(6≤6→r≠304)∧(7≤6→r≠305)∧(8≤6→r≠312)∧(9≤6→r≠329)∧(10≤6→r≠376)∧(11≤6→r≠383)∧(12≤6→r≠962);omega
        case measure=>simp[intOf]
    · by_cases e1:r=305
      · have E:Hid (r=305):=e1;have q:(r==305)=true:=(by simp[e1]);clear e1
        go_wp2
        all_goals go_ret
        all_goals refine⟨jg ?_,(Below.refl _ _).alloc (gm _) _⟩
        all_goals (have e2:vp r=true:=(vw r).2 (by have:=E.out; omega); unfold xm; rw[e2]; simp)
      · have E:Hid (¬r=305):=e1;have q:(r==305)=false:=(by simp[e1]);clear e1
        go_wp2
        go_round
        case rel=>
          refine⟨7,by omega,by go_num,?_⟩;have g:=G.out;have e:=E.out;show(1≤7→r≠170)∧(2≤7→r≠181)∧(3≤7→r≠186)∧(4≤7→r≠223)∧(5≤7→r≠255)∧(6≤7→r≠304)∧(7≤7→r≠305)∧(8≤7→r≠312)∧(9≤7→r≠329)∧(10≤7→r≠376)∧(11≤7→r≠383)∧(12≤7→r≠962);omega
        case measure=>simp[intOf]
    · by_cases e1:r=312
      · have E:Hid (r=312):=e1;have q:(r==312)=true:=(by simp[e1]);clear e1
        go_wp2
        all_goals go_ret
        all_goals refine⟨jg ?_,(Below.refl _ _).alloc (gm _) _⟩
        all_goals (have e2:vp r=true:=(vw r).2 (by have:=E.out; omega); unfold xm; rw[e2]; simp)
      · have E:Hid (¬r=312):=e1;have q:(r==312)=false:=(by simp[e1]);clear e1
        go_wp2
        go_round
        case rel=>
          refine⟨8,by omega,by go_num,?_⟩;have g:=G.out;have e:=E.out;show(1≤8→r≠170)∧(2≤8→r≠181)∧(3≤8→r≠186)∧(4≤8→r≠223)∧(5≤8→r≠255)∧(6≤8→r≠304)∧(7≤8→r≠305)∧(8≤8→r≠312)∧(9≤8→r≠329)∧(10≤8→r≠376)∧(11≤8→r≠383)∧(12≤8→r≠962);omega
        case measure=>simp[intOf]
    · by_cases e1:r=329
      · have E:Hid (r=329):=e1;have q:(r==329)=true:=(by simp[e1]);clear e1
        go_wp2
        all_goals go_ret
        all_goals refine⟨jg ?_,(Below.refl _ _).alloc (gm _) _⟩
        all_goals (have e2:vp r=true:=(vw r).2 (by have:=E.out; omega); unfold xm; rw[e2]; simp)
      · have E:Hid (¬r=329):=e1;have q:(r==329)=false:=(by simp[e1]);clear e1
        go_wp2
        go_round
        case rel=>
          refine⟨9,by omega,by go_num,?_⟩;have g:=G.out;have e:=E.out;show(1≤9→r≠170)∧(2≤9→r≠181)∧(3≤9→r≠186)∧(4≤9→r≠223)∧(5≤9→r≠255)∧(6≤9→r≠304)∧(7≤9→r≠305)∧(8≤9→r≠312)∧(9≤9→r≠329)∧(10≤9→r≠376)∧(11≤9→r≠383)∧(12≤9→r≠962);omega
        case measure=>simp[intOf]
    · by_cases e1:r=376
      · have E:Hid (r=376):=e1;have q:(r==376)=true:=(by simp[e1]);clear e1
        go_wp2
        all_goals go_ret
        all_goals refine⟨jg ?_,(Below.refl _ _).alloc (gm _) _⟩
        all_goals (have e2:vp r=true:=(vw r).2 (by have:=E.out; omega); unfold xm; rw[e2]; simp)
      · have E:Hid (¬r=376):=e1;have q:(r==376)=false:=(by simp[e1]);clear e1
        go_wp2
        go_round
        case rel=>
          refine⟨10,by omega,by go_num,?_⟩;have g:=G.out;have e:=E.out;show(1≤10→r≠170)∧(2≤10→r≠181)∧(3≤10→r≠186)∧(4≤10→r≠223)∧(5≤10→r≠255)∧(6≤10→r≠304)∧(7≤10→r≠305)∧(8≤10→r≠312)∧(9≤10→r≠329)∧(10≤10→r≠376)∧(11≤10→r≠383)∧(12≤10→r≠962);omega
        case measure=>simp[intOf]
    · by_cases e1:r=383
      · have E:Hid (r=383):=e1;have q:(r==383)=true:=(by simp[e1]);clear e1
        go_wp2
        all_goals go_ret
        all_goals refine⟨jg ?_,(Below.refl _ _).alloc (gm _) _⟩
        all_goals (have e2:vp r=true:=(vw r).2 (by have:=E.out; omega); unfold xm; rw[e2]; simp)
      · have E:Hid (¬r=383):=e1;have q:(r==383)=false:=(by simp[e1]);clear e1
        go_wp2
        go_round
        case rel=>
          refine⟨11,by omega,by go_num,?_⟩;have g:=G.out;have e:=E.out;show(1≤11→r≠170)∧(2≤11→r≠181)∧(3≤11→r≠186)∧(4≤11→r≠223)∧(5≤11→r≠255)∧(6≤11→r≠304)∧(7≤11→r≠305)∧(8≤11→r≠312)∧(9≤11→r≠329)∧(10≤11→r≠376)∧(11≤11→r≠383)∧(12≤11→r≠962);omega
        case measure=>simp[intOf]
    · by_cases e1:r=962
      · have E:Hid (r=962):=e1;have q:(r==962)=true:=(by simp[e1]);clear e1
        go_wp2
        all_goals go_ret
        all_goals refine⟨jg ?_,(Below.refl _ _).alloc (gm _) _⟩
        all_goals (have e2:vp r=true:=(vw r).2 (by have:=E.out; omega); unfold xm; rw[e2]; simp)
      · have E:Hid (¬r=962):=e1;have q:(r==962)=false:=(by simp[e1]);clear e1
        go_wp2
        go_round
        case rel=>
          refine⟨12,by omega,by go_num,?_⟩;have g:=G.out;have e:=E.out;show(1≤12→r≠170)∧(2≤12→r≠181)∧(3≤12→r≠186)∧(4≤12→r≠223)∧(5≤12→r≠255)∧(6≤12→r≠304)∧(7≤12→r≠305)∧(8≤12→r≠312)∧(9≤12→r≠329)∧(10≤12→r≠376)∧(11≤12→r≠383)∧(12≤12→r≠962);omega
        case measure=>simp[intOf]
    · have al:vp r=false:=jrg r (by have:=G.out; omega);have HA:Hid _:=al;clear al;by_cases hz:qhg r=0
      · have q:(qhg r != 0)=false:=(by simp[hz]);have HZ:Hid (qhg r=0):=hz;clear hz
        go_wp2_with (first|(go_at_call 226; refine(ko _ _).mono ?_; rintro e w' ⟨rfl,rfl⟩)|(go_at_call 225; refine(zzf _ H0.out H1.out _).mono ?_; rintro e w' ⟨rfl,hb⟩))
        go_ret
        refine⟨jg ?_,?_⟩
        · have h2:=HC.out;have h3:=HZ.out;have h4:=HB.out;have h5:=HY.out;have hc:yz r=0:=(by omega);unfold xm;rw[HA.out,hc];by_cases hs:uu r=0
          · rw[h5.2 hs,hs]; rfl
          · have:¬qjd r=0:=fun h=>hs (h5.1 h);simp[hs,this]
        · exact((Below.refl _ _).alloc (gm _) _).trans (hb.mono (by simp))
      · have q:(qhg r != 0)=true:=(by simp[hz]);have HZ:Hid (¬qhg r=0):=hz;clear hz
        go_wp2_with (go_at_call 226; refine(ko _ _).mono ?_; rintro e w' ⟨rfl,rfl⟩)
        go_ret
        refine⟨jg ?_,(Below.refl _ _).alloc (gm _) _⟩;have h2:=HC.out;have h3:=HZ.out;have hc:¬yz r=0:=(by omega);unfold xm;simp[hc]
end Go.Proofs.YtmnlfahgklnpeaaGreatDoor.C
namespace Go.Proofs
open Go.Shelf
def Tryz.lays151_ren: Go.Shelf.Ren:=⟨fun|151=>311|152=>330|137=>338|119=>236|224=>339|225=>340|217=>345|266=>346|n=>n,fun|9=>9|21=>21|4=>4|3=>3|5=>5|0=>0|46=>142|n=>n,fun|n=>n⟩
theorem Tryz.lays151: Go.Proofs.Lays.n151 Tryz.prog Tryz.lays151_ren:={
  mixed:=by kernel_rfl
  f119:=Tryz.func236.trans (congrArg some (by kernel_rfl))
  f137:=Tryz.func338.trans (congrArg some (by kernel_rfl))
  f151:=Tryz.func311.trans (congrArg some (by kernel_rfl))
  f152:=Tryz.func330.trans (congrArg some (by kernel_rfl))
  f217:=Tryz.func345.trans (congrArg some (by kernel_rfl))
  f224:=Tryz.func339.trans (congrArg some (by kernel_rfl))
  f225:=Tryz.func340.trans (congrArg some (by kernel_rfl))
  f266:=Tryz.func346.trans (congrArg some (by kernel_rfl))
  t0:=Tryz.underlying0
  a0:=Tryz.isAgg0
  z0:=Tryz.sizeOf0
  v0:=Tryz.zeroValue0
  t3:=Tryz.underlying3
  a3:=Tryz.isAgg3
  z3:=Tryz.sizeOf3
  v3:=Tryz.zeroValue3
  t4:=Tryz.underlying4
  a4:=Tryz.isAgg4
  z4:=Tryz.sizeOf4
  v4:=Tryz.zeroValue4
  t5:=Tryz.underlying5
  a5:=Tryz.isAgg5
  z5:=Tryz.sizeOf5
  v5:=Tryz.zeroValue5
  t9:=Tryz.underlying9
  a9:=Tryz.isAgg9
  z9:=Tryz.sizeOf9
  v9:=Tryz.zeroValue9
  t21:=Tryz.underlying21
  a21:=Tryz.isAgg21
  z21:=Tryz.sizeOf21
  v21:=Tryz.zeroValue21
  t46:=Tryz.underlying142
  a46:=Tryz.isAgg142
  z46:=Tryz.sizeOf142
  v46:=Tryz.zeroValue142 }
open Go.RowKit Go.Lib in
theorem Tryz.strings_ContainsRune_ascii(s:ByteArray)(r:Int)(w:World)(h0:0≤r)(h1:r<128):
    Calls Tryz.prog 311 #[.string s,.int .i32 r] w fun e w'=>e=.returned (.bool (decide (0≤Lib.indexByte s.data.toList r.toNat.toUInt8)))∧w'=w:=Any.strings_ContainsRune_ascii Tryz.lays151 s r w h0 h1
def Tryz.laysAppend_ren: Go.Shelf.Ren:=⟨fun|242=>254|278=>287|n=>n,fun|37=>27|21=>21|51=>144|4=>4|5=>5|46=>142|n=>n,fun|n=>n⟩
theorem Tryz.laysAppend: Go.Proofs.Lays.n242 Tryz.prog Tryz.laysAppend_ren:={
  mixed:=by kernel_rfl
  f242:=Tryz.func254.trans (congrArg some (by kernel_rfl))
  f278:=Tryz.func287.trans (congrArg some (by kernel_rfl))
  t4:=Tryz.underlying4
  a4:=Tryz.isAgg4
  z4:=Tryz.sizeOf4
  v4:=Tryz.zeroValue4
  t5:=Tryz.underlying5
  a5:=Tryz.isAgg5
  z5:=Tryz.sizeOf5
  v5:=Tryz.zeroValue5
  t21:=Tryz.underlying21
  a21:=Tryz.isAgg21
  z21:=Tryz.sizeOf21
  v21:=Tryz.zeroValue21
  t37:=Tryz.underlying27
  a37:=Tryz.isAgg27
  z37:=Tryz.sizeOf27
  v37:=Tryz.zeroValue27
  t46:=Tryz.underlying142
  a46:=Tryz.isAgg142
  z46:=Tryz.sizeOf142
  v46:=Tryz.zeroValue142
  t51:=Tryz.underlying144
  a51:=Tryz.isAgg144
  z51:=Tryz.sizeOf144
  v51:=Tryz.zeroValue144 }
end Go.Proofs
namespace Go.Proofs.YtmnlfahgklnpeaaGreatDoor.C
open Go.RowKit

def ctlB(r:Int):Bool:=decide (r<32∨127≤r∧r≤159)
theorem ctl_any(r:Int)(w:World):Calls Tryz.prog 245 #[.int .i32 r] w fun e w'=>e=.returned (.bool (ctlB r))∧w'=w:=by
  go_enter Tryz.func245,Tryz.ntmps245
  go_wp2
  all_goals go_ret
  all_goals refine⟨jg ?_,rfl⟩
  all_goals (unfold ctlB; rw[Bool.eq_iff_iff]; simp at *; try omega)
theorem rodd_any(r:Int)(w:World):Calls Tryz.prog 153 #[.int .i32 r] w fun e w'=>e=.returned (.bool (ctlB r))∧w'=w:=by
  go_enter Tryz.func153,Tryz.ntmps153
  go_wp2
  all_goals go_ret
  all_goals refine⟨jg ?_,rfl⟩
  all_goals (unfold ctlB; rw[Bool.eq_iff_iff]; simp at *; try omega)
def nameL(r:Int):ByteArray:=
  if r=0 then⟨#[110,117,108]⟩else if r=7 then⟨#[97,108,97,114,109]⟩else if r=8 then⟨#[98,97,99,107,115,112,97,99,101]⟩else if r=9 then⟨#[116,97,98]⟩else if r=10 then⟨#[110,101,119,108,105,110,101]⟩else if r=11 then⟨#[118,116,97,98]⟩else if r=12 then⟨#[112,97,103,101]⟩else if r=13 then⟨#[114,101,116,117,114,110]⟩else if r=27 then⟨#[101,115,99]⟩else if r=32 then⟨#[115,112,97,99,101]⟩else if r=127 then⟨#[100,101,108,101,116,101]⟩else⟨#[]⟩
theorem xbf{a b:ByteArray}(h:a=b):Ending.returned (.string a)=.returned (.string b):=by rw[h]
theorem nameOf_any(r:Int)(w:World):Calls Tryz.prog 243 #[.int .i32 r] w fun e w'=>e=.returned (.string (nameL r))∧w'=w:=by
  go_enter Tryz.func243,Tryz.ntmps243
  go_wp2
  all_goals go_ret
  all_goals refine⟨xbf ?_,rfl⟩
  all_goals (unfold nameL; simp at *; simp[*])
def Asc(s:ByteArray):Prop:=∀(j:Nat) b,s.data.toList[j]?=some b→b.toNat<128
theorem jii(s:ByteArray)(hs:Asc s)(w:World):Calls Tryz.prog 330 #[.string s,.int .i32 65533] w fun e w'=>e=.returned (.int .i64 (-1))∧Below w.heap.size w w':=by
  go_enter Tryz.func330,Tryz.ntmps330
  go_wp2
  go_loopw [] (fun wr=>∃(pos:Nat),wr.heap[w.heap.size]?=some (.stringIter s pos)∧Below w.heap.size w wr) (fun wr=>s.size-wr.iterPos w.heap.size)
  case atStart=>
    refine⟨0,?_,(Below.refl _ w).alloc (gm _) _⟩;simpa using World.iter_heap w s 0
  case round=>
    obtain⟨pos,hit,hbw⟩:=hrel;have hsz:w.heap.size<wr.heap.size:=(Array.getElem?_eq_some_iff.1 hit).1;by_cases hp:pos<s.size
    · have hnx:∀ty,(Instr.next (.pointer (some ⟨w.heap.size,0,none⟩)) true ty).run Tryz.prog wr=_:=fun ty=>Lib.run_next_any_at wr w.heap.size s pos ty hit hp;have ha:(s[pos]'hp).toNat<128:=hs pos _ (by simp[hp]; rfl);have hd:=decode_ascii s pos hp ha;have hit2:=Lib.iterAt_heap wr w.heap.size s pos (pos+1) hit;have hbw2:=Lib.below_iterAt hbw (k:=w.heap.size) (by omega) s (pos+1);rw[hd]at hnx;have hq:((((s[pos]'hp).toNat:Nat):Int)==65533)=false:=by simp; omega
      go_wp2
      go_roundw
      case rel=>exact⟨pos+1,hit2,hbw2⟩
      case measure=>
        simp only[World.iterPos,hit2,hit];omega
    · have hnx:∀ty,(Instr.next (.pointer (some ⟨w.heap.size,0,none⟩)) true ty).run Tryz.prog wr=_:=fun ty=>Lib.run_next_end_at wr w.heap.size s pos ty hit hp
      go_wp2
      go_ret
      exact⟨rfl,hbw⟩
theorem zgi{c:UInt8}:∀l:List UInt8,(∀b∈l,b≠c)→Lib.indexByte l c=-1
  | [], _ => rfl
  | b :: l, h => by
    have h1:b≠c:=h b (by simp);have h2:=zgi l (fun x hx=>h x (by simp[hx]));simp[Lib.indexByte,h1,h2]
theorem jij(s:ByteArray)(hs:Asc s)(h4:4≤s.size)(h5:s.size≤100)(r:Int)(h0:128≤r)(h1:r≤1114111)(hl:Lib.validRune r=true)(hr:r≠65533)(w:World):Calls Tryz.prog 330 #[.string s,.int .i32 r] w fun e w'=>e=.returned (.int .i64 (-1))∧Below w.heap.size w w':=by
  go_enter Tryz.func330,Tryz.ntmps330
  go_wp2_with (go_at_call 236; refine(Tryz.utf8_ValidRune _ _).mono ?_; rintro e w' ⟨rfl,rfl⟩)
  have hv:Utf8.valid r=true:=by
    rw[validRune_eq]; unfold validRune; unfold Lib.validRune at hl; apply gv; have:=f5 hl; omega
  have hE:2≤(Utf8.encode r).size∧(Utf8.encode r).size≤4∧∀h:(Utf8.encode r).size-1<(Utf8.encode r).size,128≤((Utf8.encode r)[(Utf8.encode r).size-1]'h).toNat:=encode_facts r hv h0;have hcv:∀w,(convert 21 9 (.int .i32 r)).run Tryz.prog w=.ok (.string (Utf8.encode r)) w:=fun w=>run_convert_int_string w _ _ .i32 r (by kernel_rfl) gi;refine wp_scope_straight ?_
  go_wp2
  have mixed:Tryz.prog.follows .mixedOrders=true:=by kernel_rfl
  obtain⟨m,hm⟩:∃m:Nat,(Utf8.encode r).size=m+1:=⟨(Utf8.encode r).size-1,by omega⟩;have hm0:(((Utf8.encode r).size:Int)-1)=((m:Nat):Int):=by omega
  have aa:m<s.size:=by omega
  have hi2:m<(Utf8.encode r).size:=by omega
  have hE3:128≤((Utf8.encode r)[m]'hi2).toNat:=by
    have:=hE.2.2;simp only[hm,Nat.add_sub_cancel]at this;exact this (by omega)
  have hsm:(s[m]'aa).toNat<128:=hs m _ (by simp[aa]; rfl);have hq:((s[m]'aa).toNat != ((Utf8.encode r)[m]'hi2).toNat)=true:=by simp; omega
  clear hE hm
  go_loop [9] (fun i=>i=.int .i64 ((m:Nat):Int)) (fun i=>0)
  case atStart=>rw[hm0]
  case round=>
    subst hrel;rw[hm0]
    go_wp2
    refine wp_scope_straight ?_
    go_wp2
    go_region_o
    all_goals go_wp2
    have hib:Lib.indexByte (List.take (s.size-(m+1)) (List.drop (m+1) s.data.toList)) ((Utf8.encode r)[m]'hi2)=-1:=zgi _ (fun b hb=>by
      obtain⟨k,hk,hkb⟩:=List.getElem_of_mem (List.mem_of_mem_drop (List.mem_of_mem_take hb));have:=hs k b (by rw[List.getElem?_eq_getElem hk,hkb]);intro e;rw[e]at this;omega)
    have hsl:((m:Nat):Int)+1≤(s.size:Int):=(by omega);have hsn:m+1≤s.size:=(by omega);have hs0:(0:Int)≤((m:Nat):Int)+1:=(by omega);have hsr:∀w k,(Instr.slice 9 (.string s) (some (.int k (((m:Nat):Int)+1))) none none).run Tryz.prog w=.ok (.string (s.extract (m+1) s.size)) w:=fun w k=>by
      rw[run_slice_string_from_if w _ s k _ gi,gj ⟨hs0,hsl⟩]; rfl
    have hwr:IntKind.i64.wrap (((m:Nat):Int)+1)=((m:Nat):Int)+1:=wrap_small _ (by omega) (by omega);clear hsl hsn hs0
    go_region_with_o (go_at_call 338; refine(Tryz.strings_IndexByte _ _ _).mono ?_; rintro e _ ⟨rfl,rfl⟩)
    all_goals go_wp2
    all_goals (show bodyPost Tryz.prog Tryz.f330 (fun e w1=>e=Ending.returned (Value.int .i64 (-1))∧Below w'.heap.size w' w1) .ret _ _; go_ret; exact⟨rfl,((Below.refl _ _).drew).drew⟩)
def OkR(r:Int):Prop:=(0≤r∧r<55296)∨(57343<r∧r≤1114111)
theorem OkR.valid{r:Int}(h:OkR r):Lib.validRune r=true:=gv h
theorem zse(s:ByteArray)(hs:Asc s)(h4:4≤s.size)(h5:s.size≤100)(r:Int)(h:OkR r)(h0:128≤r)(w:World):Calls Tryz.prog 311 #[.string s,.int .i32 r] w fun e w'=>e=.returned (.bool false)∧Below w.heap.size w w':=by
  have HC:Hid (Calls Tryz.prog 330 #[.string s,.int .i32 r] w fun e w'=>e=.returned (.int .i64 (-1))∧Below w.heap.size w w'):=by
    by_cases hr:r=65533
    · subst hr; exact jii s hs w
    · exact jij s hs h4 h5 r h0 (by unfold OkR at h; omega) h.valid hr w
  go_enter Tryz.func311,Tryz.ntmps311
  go_wp2_with (go_at_call 330; refine HC.out.mono ?_; rintro e w' ⟨rfl,hb⟩)
  go_ret
  exact⟨rfl,hb⟩
def S4: ByteArray:=⟨#[43,45,46,64]⟩
def S14: ByteArray:=⟨#[33,36,37,38,42,47,58,60,61,62,63,94,95,126]⟩
theorem xmb: Asc S4:=fun j b h=>(by decide +kernel:∀b∈S4.data.toList,b.toNat<128) b (List.mem_of_getElem? h)
theorem xee: Asc S14:=fun j b h=>(by decide +kernel:∀b∈S14.data.toList,b.toNat<128) b (List.mem_of_getElem? h)
def in4(r:Int):Bool:=decide (r=43∨r=45∨r=46∨r=64)
def zbb(r:Int):Bool:=decide (r=33∨r=36∨r=37∨r=38∨r=42∨r=47∨r=58∨r=60∨r=61∨r=62∨r=63∨r=94∨r=95∨r=126)
theorem ix4: ∀k:Nat,k<128→decide (0≤Lib.indexByte S4.data.toList (k:Int).toNat.toUInt8)=in4 k:=by decide +kernel
theorem xmc: ∀k:Nat,k<128→decide (0≤Lib.indexByte S14.data.toList (k:Int).toNat.toUInt8)=zbb k:=by decide +kernel
theorem xki(r:Int)(h:OkR r)(w:World):Calls Tryz.prog 311 #[.string S4,.int .i32 r] w fun e w'=>e=.returned (.bool (in4 r))∧Below w.heap.size w w':=by
  by_cases hr:r<128
  · have h0:0≤r:=(by unfold OkR at h; omega);refine(Tryz.strings_ContainsRune_ascii S4 r w h0 hr).mono ?_;rintro e w' ⟨rfl,rfl⟩;have:=ix4 r.toNat (by omega);rw[Int.toNat_of_nonneg h0]at this;exact⟨by rw[this],Below.refl _ _⟩
  · refine(zse S4 xmb (by decide) (by decide) r h (by omega) w).mono ?_;rintro e w' ⟨rfl,hb⟩;exact⟨by rw[show in4 r=false from by unfold in4; apply gn; omega],hb⟩
theorem xia(r:Int)(h:OkR r)(w:World):Calls Tryz.prog 311 #[.string S14,.int .i32 r] w fun e w'=>e=.returned (.bool (zbb r))∧Below w.heap.size w w':=by
  by_cases hr:r<128
  · have h0:0≤r:=(by unfold OkR at h; omega);refine(Tryz.strings_ContainsRune_ascii S14 r w h0 hr).mono ?_;rintro e w' ⟨rfl,rfl⟩;have:=xmc r.toNat (by omega);rw[Int.toNat_of_nonneg h0]at this;exact⟨by rw[this],Below.refl _ _⟩
  · refine(zse S14 xee (by decide) (by decide) r h (by omega) w).mono ?_;rintro e w' ⟨rfl,hb⟩;exact⟨by rw[show zbb r=false from by unfold zbb; apply gn; omega],hb⟩
def firstB(r:Int):Bool:=xm r||zbb r||(decide (127<r) && !blankB r)
def restB(r:Int):Bool:=decide (48≤r∧r≤57)||in4 r
theorem isRest_any(r:Int)(h:OkR r)(w:World):Calls Tryz.prog 285 #[.int .i32 r] w fun e w'=>e=.returned (.bool (restB r))∧Below w.heap.size w w':=by
  have HC:Hid _:=xki r h w;clear h
  go_enter Tryz.func285,Tryz.ntmps285
  go_wp2_with (go_at_call 311; refine Calls.mono HC.out ?_; rintro e w' ⟨rfl,hb⟩)
  all_goals go_ret
  all_goals refine⟨jg ?_,by first|assumption|exact Below.refl _ _⟩
  all_goals (show(_:Bool)=restB r; unfold restB; cases in4 r<;>simp at * <;> omega)
theorem isFirst_any(r:Int)(h:OkR r)(w:World):Calls Tryz.prog 284 #[.int .i32 r] w fun e w'=>e=.returned (.bool (firstB r))∧Below w.heap.size w w':=by
  have HC:Hid _:=xia r h w;clear h
  go_enter Tryz.func284,Tryz.ntmps284
  go_wp2_with (first|(go_at_call 311; refine Calls.mono HC.out ?_; rintro e w' ⟨rfl,hb⟩)|(go_at_call 310; refine(zze _ _).mono ?_; rintro e w' ⟨rfl,rfl⟩)|(go_at_call 244; refine(blank_any _ _).mono ?_; rintro e w' ⟨rfl,rfl⟩))
  all_goals go_ret
  all_goals refine⟨jg ?_,by first|assumption|exact Below.refl _ _⟩
  all_goals (show(_:Bool)=firstB r; unfold firstB; simp[*]; try (intro _; omega))
theorem xbg: ∀b∈S14.data.toList,zbb ((b.toNat:Nat):Int)=true:=by decide +kernel
theorem xbh{r:Int}(hn:∀b∈S14.data.toList,((b.toNat:Nat):Int)≠r):zbb r=false:=by
  unfold zbb;apply gn;intro h;rcases h with h|h|h|h|h|h|h|h|h|h|h|h|h|h;all_goals (subst h; revert hn; decide +kernel)
theorem jja{r:Int}(h:zbb r=true):firstB r=true:=by unfold firstB; rw[h]; simp
theorem zzg{r:Int}(h:zbb r=false):firstB r=((decide (127<r) && !blankB r)||xm r):=by unfold firstB; rw[h]; cases xm r<;>simp
theorem rfirst_any(r:Int)(h:OkR r)(w:World):Calls Tryz.prog 158 #[.int .i32 r] w fun e w'=>e=.returned (.bool (firstB r))∧Below w.heap.size w w':=by
  have H0:Hid (-2147483648≤r∧r≤2147483647):=by
    show _∧_;unfold OkR at h; omega
  clear h;obtain⟨F,HF⟩:∃F,Hid (firstB r=F):=⟨_,rfl⟩;rw[HF.out]
  go_enter Tryz.func158,Tryz.ntmps158
  go_wp2
  go_loopw [] (fun wr=>∃(pos:Nat),wr.heap[w.heap.size]?=some (.stringIter S14 pos)∧Below w.heap.size w wr∧Hid (∀j,j<pos→∀b,S14.data.toList[j]?=some b→((b.toNat:Nat):Int)≠r)) (fun wr=>S14.size-wr.iterPos w.heap.size)
  case atStart=>
    refine⟨0,?_,(Below.refl _ w).alloc (gm _) _,fun j hj=>absurd hj (j4 _)⟩;exact World.iter_heap w S14 0
  case round=>
    obtain⟨pos,hit,hbw,HN⟩:=hrel;have hsz:w.heap.size<wr.heap.size:=(Array.getElem?_eq_some_iff.1 hit).1;by_cases hp:pos<S14.size
    · have hnx:∀ty,(Instr.next (.pointer (some ⟨w.heap.size,0,none⟩)) true ty).run Tryz.prog wr=_:=fun ty=>Lib.run_next_any_at wr w.heap.size S14 pos ty hit hp;have hget:S14.data.toList[pos]?=some (S14[pos]'hp):=(by simp[hp]; rfl);have ha:(S14[pos]'hp).toNat<128:=xee pos _ hget;have hd:=decode_ascii S14 pos hp ha;have hit2:=Lib.iterAt_heap wr w.heap.size S14 pos (pos+1) hit;have hbw2:=Lib.below_iterAt hbw (k:=w.heap.size) (by omega) S14 (pos+1);rw[hd]at hnx;obtain⟨c,hc⟩:∃c:UInt8,c=S14[pos]'hp:=⟨_,rfl⟩;rw[←hc]at hnx hget ha;clear hd hc;by_cases hq:r=((c.toNat:Nat):Int)
      · have HQ:Hid (r=((c.toNat:Nat):Int)):=hq;have aa:(r==((c.toNat:Nat):Int))=true:=(by simp[hq]);clear hq
        go_wp2
        all_goals go_ret
        all_goals refine⟨jg ?_,hbw2⟩
        all_goals (rw[←HF.out,jja (by rw[HQ.out]; exact xbg c (List.mem_of_getElem? hget))])
      · have HQ:Hid (¬r=((c.toNat:Nat):Int)):=hq;have aa:(r==((c.toNat:Nat):Int))=false:=(by simp[hq]);clear hq
        go_wp2
        go_roundw
        case rel=>
          refine⟨pos+1,hit2,hbw2,fun j hj b hb=>?_⟩;by_cases hj2:j<pos
          · exact HN.out j hj2 b hb
          · have:j=pos:=(by omega);subst this;rw[hget]at hb;injection hb with hb;subst hb;exact fun e=>HQ.out e.symm
        case measure=>
          simp only[World.iterPos,hit2,hit];omega
    · have hnx:∀ty,(Instr.next (.pointer (some ⟨w.heap.size,0,none⟩)) true ty).run Tryz.prog wr=_:=fun ty=>Lib.run_next_end_at wr w.heap.size S14 pos ty hit hp;have HO:Hid (zbb r=false):=xbh (fun b hb=>by
        obtain⟨k,hk,hkb⟩:=List.getElem_of_mem hb;exact HN.out k (by have:S14.data.toList.length=S14.size:=rfl; omega) b (by rw[List.getElem?_eq_getElem hk,hkb]))
      go_wp2_with (first|(go_at_call 154; refine(rblank_any _ _).mono ?_; rintro e w' ⟨rfl,rfl⟩)|(go_at_call 206; refine(zsd _ H0.out.1 H0.out.2 _).mono ?_; rintro e w' ⟨rfl,hb⟩))
      all_goals go_ret
      all_goals refine⟨jg ?_,by first|exact hbw|exact hbw.trans (hb.mono hbw.size)⟩
      all_goals (rw[←HF.out,zzg HO.out]; show(_:Bool)=_; simp[*]; try (intros; omega))
theorem rrest_any(r:Int)(h:OkR r)(w:World):Calls Tryz.prog 157 #[.int .i32 r] w fun e w'=>e=.returned (.bool (firstB r||restB r))∧Below w.heap.size w w':=by
  have HC:Hid _:=rfirst_any r h w;clear h;obtain⟨F,HF⟩:∃F,Hid ((firstB r||restB r)=F):=⟨_,rfl⟩;rw[HF.out]
  go_enter Tryz.func157,Tryz.ntmps157
  go_wp2_with (go_at_call 158; refine Calls.mono HC.out ?_; rintro e w' ⟨rfl,hb⟩)
  all_goals go_ret
  all_goals refine⟨jg ?_,by first|assumption|exact Below.refl _ _⟩
  all_goals (rw[←HF.out]; unfold restB in4; rw[Bool.eq_iff_iff]; simp[*]; try omega)
def hx(k:Nat):UInt8:=(if k<10 then 48+k else 87+k).toUInt8
def hexD(n:Nat):List UInt8:=if n<16 then[hx n]else hexD (n / 16)++[hx (n%16)]
termination_by n
decreasing_by omega
def isT: Value→Nat
  | .bool true => 1
  | _ => 0
def zmc(b:Bool)(k:Nat):List UInt8:=if b=true∨k≠0 then hexD k else[]
theorem jjb{b:Bool}{k:Nat}(h:b=true∨k≠0):zmc b k=zmc false (k / 16)++[hx (k%16)]:=by
  unfold zmc;rw[gj h];by_cases h16:k<16
  · rw[hexD,gj h16,f7 (by simp; omega),Nat.mod_eq_of_lt h16]; rfl
  · rw[hexD,f7 h16,gj (by simp; omega)]
def S16: ByteArray:=⟨#[48,49,50,51,52,53,54,55,56,57,97,98,99,100,101,102]⟩
theorem s16: ∀j:Fin 16,S16.data[j.val]'(j.isLt)=hx j.val:=by decide +kernel
theorem xbi(c:UInt8)(t:List UInt8):(⟨#[c]⟩:ByteArray)++⟨t.toArray⟩=⟨(c::t).toArray⟩:=by
  apply ByteArray.ext;simp
theorem xef(wr:World)(c:Value)(t:TypeId):(wr.alloc (.cells #[c] t)).cell? ((⟨wr.heap.size,0,none⟩:Addr).add 0)=some c:=by
  have hh:(wr.alloc (.cells #[c] t)).heap[wr.heap.size]?=some (.cells #[c] t):=by
    show(wr.heap.push (.cells #[c] t))[wr.heap.size]?=_;simp
  show(wr.alloc (.cells #[c] t)).cell? ⟨wr.heap.size,0,none⟩=some c;rw[Lib.cell_of_heap hh];rfl
theorem rhex_any(n:Nat)(hn:n≤1114111)(w:World):Calls Tryz.prog 155 #[.int .i32 ((n:Nat):Int)] w fun e w'=>e=.returned (.string ⟨(hexD n).toArray⟩)∧Below w.heap.size w w':=by
  go_enter Tryz.func155,Tryz.ntmps155
  go_wp2
  go_loopw [0,3,4] (fun v s f wr=>∃(k:Nat) (t:List UInt8) (b:Bool),v=.int .i32 ((k:Nat):Int)∧s=.string ⟨t.toArray⟩∧f=.bool b∧k≤1114111∧t.length+k+isT f≤1114112∧Below w.heap.size w wr∧Hid (hexD n=zmc b k++t)) (fun v s f wr=>(intOf v).toNat+isT f)
  case atStart=>exact⟨n,[],true,rfl,rfl,rfl,hn,by simp[isT]; omega,Below.refl _ _,by show hexD n=zmc true n++[]; unfold zmc; simp⟩
  case round=>
    obtain⟨k,t,b,rfl,rfl,rfl,hk,htl,hbw,HT⟩:=hrel;have hcv:∀c:UInt8,(convert 27 9 (.slice (some ⟨wr.heap.size,0,none⟩) 1 1)).run Tryz.prog (wr.alloc (.cells #[.int .u8 ((c.toNat:Nat):Int)] 5))=.ok (.string ⟨#[c]⟩) (wr.alloc (.cells #[.int .u8 ((c.toNat:Nat):Int)] 5)):=fun c=>
      run_convert_bytes_back _ _ _ _ ⟨wr.heap.size,0,none⟩ 1 [c] ib ir gi (fun j hj=>by
        obtain rfl:j=0:=(by simpa using hj);exact xef _ _ _)
    have hlast:∀b,(b=true∨k≠0)→Hid (hexD n=zmc b k++t)→hexD n=zmc false (k / 16)++(hx (k%16)::t):=fun b hb h=>by
      have h2:hexD n=zmc b k++t:=h;rw[h2,jjb hb,f4]; rfl
    have hS:∀h,(⟨#[48,49,50,51,52,53,54,55,56,57,97,98,99,100,101,102]⟩:ByteArray)[k%16]'h=hx (k%16):=fun h=>s16 ⟨k%16,Nat.mod_lt _ (by decide)⟩;have hal:∀o,Below w.heap.size w (wr.alloc o):=fun o=>hbw.alloc hbw.size _;rcases b with _|_
    · by_cases ab:k=0
      · subst ab;have HT2:hexD n=t:=HT.out;have HT3:Hid (hexD n=t):=HT2;clear HT HT2
        go_wp2
        go_ret
        exact⟨by rw[←HT3.out]; rfl,hbw⟩
      · have _:(0:Int)<(k:Int):=(by omega);have aa:=hlast false (.inr ab) HT;have HL:Hid _:=aa;clear aa hlast HT
        go_wp2
        refine⟨⟨k / 16,hx (k%16)::t,false,by simp,by rw[xbi],rfl,by omega,by simp[isT]at *; omega,hal _,HL.out⟩,by simp[intOf,isT]; omega⟩
    · have aa:=hlast true (.inl rfl) HT;have HL:Hid _:=aa;clear aa hlast HT
      go_wp2
      refine⟨⟨k / 16,hx (k%16)::t,false,by simp,by rw[xbi],rfl,by omega,by simp[isT]at *; omega,hal _,HL.out⟩,by simp[intOf,isT]; omega⟩
def Tz16(w:World):Prop:=w.cell? ⟨6,15,none⟩=some (.int .u8 4)
theorem xbj(w:World)(h:Tz16 w):Calls Tryz.prog 344 #[.int .u64 16] w fun e w'=>e=.returned (.int .i64 4)∧w'=w:=by
  have h':w.cell? ⟨6,15,none⟩=some (.int .u8 4):=h;have key:IntKind.u64.wrap (bits BinOp.and IntKind.u64 16 (IntKind.u64.wrap (-16))*285870213051353865) / 288230376151711744=15:=by decide +kernel
  go_enter Tryz.func344,Tryz.ntmps344
  go_wp2_with (simp only[key])
  go_ret
  exact⟨rfl,rfl⟩
theorem tz_16(w:World)(h:Tz16 w):Calls Tryz.prog 337 #[.int .u64 16] w fun e w'=>e=.returned (.int .i64 4)∧w'=w:=by
  go_enter Tryz.func337,Tryz.ntmps337
  go_wp2_with (go_at_call 344; refine(xbj _ h).mono ?_; rintro e w' ⟨rfl,rfl⟩)
  go_ret
  exact⟨rfl,rfl⟩
end Go.Proofs.YtmnlfahgklnpeaaGreatDoor.C
namespace Go.Proofs.YtmnlfahgklnpeaaGreatDoor.G
open Go.RowKit Go.Lib

def jrh(ds:List Value):List Value:=List.replicate (65-ds.length) (.int .u8 0)++ds
def S36: ByteArray:=⟨#[48,49,50,51,52,53,54,55,56,57,97,98,99,100,101,102,103,104,105,106,107,108,109,110,111,112,113,114,115,116,117,118,119,120,121,122]⟩
theorem s36: ∀j:Fin 16,(S36.data.toList.getD j.val 0)=C.hx j.val:=by decide +kernel
theorem zbc{m:Nat}(h:m<18446744073709551616):bits .and .u64 ((m:Nat):Int) 15=((m%16:Nat):Int):=by
  have e:=and_u64 m 15 h (by decide);rw[show m &&& 15=m%16 from Nat.and_two_pow_sub_one_eq_mod m 4]at e;exact e
section
variable {P:Program} {w0 w:World} {L:List Ck} {l:List (Nat×Value)} {dst:Option Tmp} {ty:TypeId} {pos:String} {after:Array Edge} {guard:Option (Nat×Bool)} {v:Value}
theorem xb{t:TypeId}(ht:P.underlying t=some .string){x y:Operand}{m:Nat}{z:Int}(hx:ev l x=some (.string S36))(hy:ev l y=some (.int .u64 z))(hz:z=((m:Nat):Int))(hm:m<16):Does P l ⟨dst,.index t x y,ty,pos,after,guard⟩ w (.int .u8 (((C.hx m).toNat:Nat):Int)) w:=fun ρ h=>by
  subst hz;have hi:m<S36.size:=by show m<36; omega
  have:=run_index_string (P:=P) w t S36 .u64 ((m:Nat):Int) ht;have hi':m<S36.data.size:=hi;have e:S36.data.toList.getD m 0=S36[m]:=by
    rw[List.getD_eq_getElem?_getD,Array.getElem?_toList,Array.getElem?_eq_getElem hi'];rfl
  rw[←s36 ⟨m,hm⟩,e];simp[execOp,h x _ hx,h y _ hy,this,hi]
theorem ym{t:TypeId}{x y:Operand}{u u':Value}(hx:ev l x=some u)(hy:ev l y=some u')(hr:∀w,(Instr.sliceAt t u (some u') none none).run P w=.ok v w):Does P l ⟨dst,.slice t x (some y) none none,ty,pos,after,guard⟩ w v w:=fun ρ h=>by
  simp[execOp,h x _ hx,h y _ hy,hr]
theorem qsc(hM:Mg w0 w L)(k:Nat){g:Nat}{e:TypeId}{ds:List UInt8}(hk:L[k]?=some (.obj g (.cells (jrh (Lib.byteCells ds)).toArray e)))(hl:ds.length≤65):Rb w (some ⟨g,65-ds.length,none⟩) ds:=by
  refine⟨fun hne=>⟨g,65-ds.length,rfl,(Array.getElem?_eq_some_iff.1 (hM.obj k hk)).1,fun j hj=>?_⟩⟩;refine hM.cell k hk _ ?_;unfold jrh;rw[Lib.byteCells_length,List.getElem?_append_right (by rw[List.length_replicate]; omega),List.length_replicate,show 65-ds.length+j-(65-ds.length)=j by omega];unfold Lib.byteCells;rw[List.getElem?_map,List.getElem?_eq_getElem hj];simp[List.getD,List.getElem?_eq_getElem hj]
end
theorem qsd{n:Nat}(h:n<16):C.hexD n=[C.hx n]:=by rw[C.hexD,gj h]
theorem yh{n:Nat}(h:¬n<16){l:List UInt8}(k:C.hexD (n / 16)=l):C.hexD n=l++[C.hx (n%16)]:=by rw[C.hexD,f7 h,k]
open Go.RowKit
theorem vq{w w':World}(h:C.Tz16 w)(hb:Below w.heap.size w w'):C.Tz16 w':=by
 unfold C.Tz16 at *
 have hlt:6<w.heap.size:=by
  apply Classical.byContradiction;intro k;simp[World.cell?,Array.getElem?_eq_none (Nat.le_of_not_lt k)]at h
 rw[hb.cell hlt];exact h
theorem xca{w:World}:Calls Tryz.prog 336 #[iV 16] w (RB w (bV true)):=by
 have M:=Mg.start w;refine wof Tryz.func336 Tryz.ntmps336 fun Q hret hnorm hP a A=>?_;refine wsr fun _ aa=>sda A λA=>?_;refine qwr aa fun _ ab=>?_;iterate 2 refine sdm A λA=>?_
 refine sdo (v:=iV 15) A dbK λA=>?_;refine sdo (v:=iV 0) A dbK λA=>?_;refine sdo (v:=bV true) A dbK λA=>?_;refine sda A λA=>?_;refine qr1 ab hret A ?_;exact⟨rfl,M.bel⟩
theorem xcb{w:World}(hz:C.Tz16 w){n:Nat}(hn:n≤1114111):Calls Tryz.prog 328 #[.slice none 0 0,.int .u64 ((n:Nat):Int),iV 16,bV false,bV false] w (RB w (.tuple #[.slice none 0 0,.string ⟨(C.hexD n).toArray⟩])):=by
 have M:=Mg.start w;refine wof Tryz.func328 Tryz.ntmps328 fun Q hret hnorm hP a A=>?_;refine wsr fun _ d9=>?_;iterate 2 refine sda A λA=>?_
 refine qwk d9 fun _ ed=>wsr fun _ ee=>sdm A λA=>?_;refine sdo (v:=bV false) A dbK λA=>?_;iterate 2 refine sdm A λA=>?_
 refine sdo (v:=bV false) A dbK λA=>?_;refine sdk (v:=bV false) A λA=>?_;iterate 2 refine sdm A λA=>?_
 refine sdo (v:=bV false) A dbK λA=>?_;refine sdk (v:=bV false) A λA=>?_;refine qcf ee A ?_;refine wp_skip (ed _ _ (wsr fun K4 eg=>zj (vs:=(jrh [])) (t:=302) A M rfl rfl rfl pg (qm (z:=.agg #[.int .u8 0,.int .u8 0,.int .u8 0,.int .u8 0,.int .u8 0,.int .u8 0,.int .u8 0,.int .u8 0,.int .u8 0,.int .u8 0,.int .u8 0,.int .u8 0,.int .u8 0,.int .u8 0,.int .u8 0,.int .u8 0,.int .u8 0,.int .u8 0,.int .u8 0,.int .u8 0,.int .u8 0,.int .u8 0,.int .u8 0,.int .u8 0,.int .u8 0,.int .u8 0,.int .u8 0,.int .u8 0,.int .u8 0,.int .u8 0,.int .u8 0,.int .u8 0,.int .u8 0,.int .u8 0,.int .u8 0,.int .u8 0,.int .u8 0,.int .u8 0,.int .u8 0,.int .u8 0,.int .u8 0,.int .u8 0,.int .u8 0,.int .u8 0,.int .u8 0,.int .u8 0,.int .u8 0,.int .u8 0,.int .u8 0,.int .u8 0,.int .u8 0,.int .u8 0,.int .u8 0,.int .u8 0,.int .u8 0,.int .u8 0,.int .u8 0,.int .u8 0,.int .u8 0,.int .u8 0,.int .u8 0,.int .u8 0,.int .u8 0,.int .u8 0,.int .u8 0]) (by kernel_rfl) rfl) (by decide) ?_));intro g5 _ M a A;refine qwr eg fun _ eh=>sda A λA=>?_;refine qwk eh fun _ ei=>wsr fun _ eo=>sdm A λA=>?_;refine qcf eo A ?_;refine wp_skip (ei _ _ (wsk fun _ ag=>wsr fun _ aq=>sdm A λA=>?_));refine gcl A M ec (xca) fun _ _ M a A=>?_;refine qct aq A ?_;refine wsr fun _ ar=>sdm A λA=>?_;refine sdo (v:=.int .u64 16) A (zk rfl (ar_conv i8 Tryz.underlying142 (in_u64 (by decide) (by decide)))) λA=>?_;refine sct A ec (C.tz_16 _ (vq hz M.bel)) ?_;rintro _ _ ⟨rfl,hw9⟩;subst hw9;refine⟨_,rfl,?_⟩;intro a A;refine sdo (v:=.int .u64 4) A (zk rfl (ar_conv i8 Tryz.underlying142 (in_u64 (by decide) (by decide)))) λA=>?_;refine sda A λA=>?_;refine qwr ar fun _ au=>sdm A λA=>?_;refine sdo (v:=.int .u64 16) A (zk rfl (ar_conv i8 Tryz.underlying91 (in_u64 (by decide) (by decide)))) λA=>?_;refine sda A λA=>?_;refine qwr au fun _ av=>sdm A λA=>?_
 refine sdo (v:=.int .u64 16) A (zk rfl (ar_conv i8 Tryz.underlying142 (in_u64 (by decide) (by decide)))) λA=>?_;refine sdo (v:=.int .u64 15) A dbK λA=>?_;refine sda A λA=>?_;refine qwk av fun _ ah=>wp_block (wp_loop_rounds 7 ?_);refine uy ?_;intro _ aw;refine wsk fun _ ax=>wsr fun _ ai=>?_;iterate 2 refine sdm A λA=>?_
 rcases tf (decide (16≤((n:Nat):Int)))with aa|aa
 ·have aa':=f5 aa;refine sdc A zt aa λA=>?_;refine qct ai A ?_;refine wp_skip (ax _ _ (wp_block (wsr fun _ ay=>sdm A λA=>?_)));refine sdo (v:=iV 64) A dbK λA=>?_;refine sda A λA=>?_;refine qwr ay fun _ az=>?_;iterate 3 refine sdm A λA=>?_
  refine sdo (v:=.int .u64 (((n%16:Nat):Int))) A (qb rfl rfl (ar_and (zbc (by omega)))) λA=>?_;refine sdo (v:=.int .u8 ((((C.hx (n%16)).toNat:Nat):Int))) A (xb (m:=n%16) gi rfl rfl rfl (by omega)) λA=>?_;refine sdo (v:=pA g5 64) A (jj rfl rfl (fun w=>by kernel_rfl)) λA=>?_;refine qt A M rfl rfl (qj rfl rfl rfl (by kernel_rfl) M 0 rfl rfl rfl) 0 rfl rfl rfl ?_;intro _ M;refine qa (az _ _ (wrl ?_));iterate 2 refine sdm A λA=>?_
  refine sdo (v:=.int .u64 (((n / 16:Nat):Int))) A (qb rfl rfl (ar_shr (n:=4) rfl rfl (show((n:Nat):Int) / 2^4=((n / 16:Nat):Int)by omega))) λA=>?_;refine sda A λA=>?_;refine qa (aw _ _ (uy ?_));intro _ bd;refine wsk fun _ bf=>wsr fun _ aj=>?_;iterate 2 refine sdm A λA=>?_
  rcases tf (decide (16≤((n / 16:Nat):Int)))with ab|ab
  ·have ab':=f5 ab;refine sdc A zt ab λA=>?_;refine qct aj A ?_;refine wp_skip (bf _ _ (wp_block (wsr fun _ bg=>sdm A λA=>?_)));refine sdo (v:=iV 63) A dbK λA=>?_;refine sda A λA=>?_;refine qwr bg fun _ bh=>?_;iterate 3 refine sdm A λA=>?_
   refine sdo (v:=.int .u64 (((n / 16%16:Nat):Int))) A (qb rfl rfl (ar_and (zbc (by omega)))) λA=>?_;refine sdo (v:=.int .u8 ((((C.hx (n / 16%16)).toNat:Nat):Int))) A (xb (m:=n / 16%16) gi rfl rfl rfl (by omega)) λA=>?_;refine sdo (v:=pA g5 63) A (jj rfl rfl (fun w=>by kernel_rfl)) λA=>?_;refine qt A M rfl rfl (qj rfl rfl rfl (by kernel_rfl) M 0 rfl rfl rfl) 0 rfl rfl rfl ?_;intro _ M;refine qa (bh _ _ (wrl ?_));iterate 2 refine sdm A λA=>?_
   refine sdo (v:=.int .u64 (((n / 16 / 16:Nat):Int))) A (qb rfl rfl (ar_shr (n:=4) rfl rfl (show((n / 16:Nat):Int) / 2^4=((n / 16 / 16:Nat):Int)by omega))) λA=>?_;refine sda A λA=>?_;refine qa (bd _ _ (uy ?_));intro _ bi;refine wsk fun _ bj=>wsr fun _ ak=>?_;iterate 2 refine sdm A λA=>?_
   rcases tf (decide (16≤((n / 16 / 16:Nat):Int)))with ac|ac
   ·have ac':=f5 ac;refine sdc A zt ac λA=>?_;refine qct ak A ?_;refine wp_skip (bj _ _ (wp_block (wsr fun _ bn=>sdm A λA=>?_)));refine sdo (v:=iV 62) A dbK λA=>?_;refine sda A λA=>?_;refine qwr bn fun _ bp=>?_;iterate 3 refine sdm A λA=>?_
    refine sdo (v:=.int .u64 (((n / 16 / 16%16:Nat):Int))) A (qb rfl rfl (ar_and (zbc (by omega)))) λA=>?_;refine sdo (v:=.int .u8 ((((C.hx (n / 16 / 16%16)).toNat:Nat):Int))) A (xb (m:=n / 16 / 16%16) gi rfl rfl rfl (by omega)) λA=>?_;refine sdo (v:=pA g5 62) A (jj rfl rfl (fun w=>by kernel_rfl)) λA=>?_;refine qt A M rfl rfl (qj rfl rfl rfl (by kernel_rfl) M 0 rfl rfl rfl) 0 rfl rfl rfl ?_;intro _ M;refine qa (bp _ _ (wrl ?_));iterate 2 refine sdm A λA=>?_
    refine sdo (v:=.int .u64 (((n / 16 / 16 / 16:Nat):Int))) A (qb rfl rfl (ar_shr (n:=4) rfl rfl (show((n / 16 / 16:Nat):Int) / 2^4=((n / 16 / 16 / 16:Nat):Int)by omega))) λA=>?_;refine sda A λA=>?_;refine qa (bi _ _ (uy ?_));intro _ bq;refine wsk fun _ br=>wsr fun _ am=>?_;iterate 2 refine sdm A λA=>?_
    rcases tf (decide (16≤((n / 16 / 16 / 16:Nat):Int)))with ae|ae
    ·have ae':=f5 ae;refine sdc A zt ae λA=>?_;refine qct am A ?_;refine wp_skip (br _ _ (wp_block (wsr fun _ bw=>sdm A λA=>?_)));refine sdo (v:=iV 61) A dbK λA=>?_;refine sda A λA=>?_;refine qwr bw fun _ bz=>?_;iterate 3 refine sdm A λA=>?_
     refine sdo (v:=.int .u64 (((n / 16 / 16 / 16%16:Nat):Int))) A (qb rfl rfl (ar_and (zbc (by omega)))) λA=>?_;refine sdo (v:=.int .u8 ((((C.hx (n / 16 / 16 / 16%16)).toNat:Nat):Int))) A (xb (m:=n / 16 / 16 / 16%16) gi rfl rfl rfl (by omega)) λA=>?_;refine sdo (v:=pA g5 61) A (jj rfl rfl (fun w=>by kernel_rfl)) λA=>?_;refine qt A M rfl rfl (qj rfl rfl rfl (by kernel_rfl) M 0 rfl rfl rfl) 0 rfl rfl rfl ?_;intro _ M;refine qa (bz _ _ (wrl ?_));iterate 2 refine sdm A λA=>?_
     refine sdo (v:=.int .u64 (((n / 16 / 16 / 16 / 16:Nat):Int))) A (qb rfl rfl (ar_shr (n:=4) rfl rfl (show((n / 16 / 16 / 16:Nat):Int) / 2^4=((n / 16 / 16 / 16 / 16:Nat):Int)by omega))) λA=>?_;refine sda A λA=>?_;refine qa (bq _ _ (uy ?_));intro _ cc;refine wsk fun _ cd=>wsr fun _ ap=>?_;iterate 2 refine sdm A λA=>?_
     rcases tf (decide (16≤((n / 16 / 16 / 16 / 16:Nat):Int)))with af|af
     ·have af':=f5 af;refine sdc A zt af λA=>?_;refine qct ap A ?_;refine wp_skip (cd _ _ (wp_block (wsr fun _ ce=>sdm A λA=>?_)));refine sdo (v:=iV 60) A dbK λA=>?_;refine sda A λA=>?_;refine qwr ce fun _ cg=>?_;iterate 3 refine sdm A λA=>?_
      refine sdo (v:=.int .u64 (((n / 16 / 16 / 16 / 16%16:Nat):Int))) A (qb rfl rfl (ar_and (zbc (by omega)))) λA=>?_;refine sdo (v:=.int .u8 ((((C.hx (n / 16 / 16 / 16 / 16%16)).toNat:Nat):Int))) A (xb (m:=n / 16 / 16 / 16 / 16%16) gi rfl rfl rfl (by omega)) λA=>?_;refine sdo (v:=pA g5 60) A (jj rfl rfl (fun w=>by kernel_rfl)) λA=>?_;refine qt A M rfl rfl (qj rfl rfl rfl (by kernel_rfl) M 0 rfl rfl rfl) 0 rfl rfl rfl ?_;intro _ M;refine qa (cg _ _ (wrl ?_));iterate 2 refine sdm A λA=>?_
      refine sdo (v:=.int .u64 (((n / 16 / 16 / 16 / 16 / 16:Nat):Int))) A (qb rfl rfl (ar_shr (n:=4) rfl rfl (show((n / 16 / 16 / 16 / 16:Nat):Int) / 2^4=((n / 16 / 16 / 16 / 16 / 16:Nat):Int)by omega))) λA=>?_;refine sda A λA=>?_;refine qa (cc _ _ (uy ?_));intro _ _;refine wsk fun _ _=>wsr fun _ ch=>?_;iterate 2 refine sdm A λA=>?_
      refine sdo (v:=bV false) A (qb rfl rfl (fun w=>(zt w).trans (by rw[show(decide (16≤((n / 16 / 16 / 16 / 16 / 16:Nat):Int)))=false from(gn (by omega))]))) λA=>?_;refine qcf ch A ?_;refine wp_exit (ah _ _ (wsr fun _ ci=>sdm A λA=>?_));refine sdo (v:=iV 59) A dbK λA=>?_;refine sda A λA=>?_;refine qa (ci _ _ (wrl ?_));iterate 2 refine sdm A λA=>?_
      refine sdo (v:=.int .u8 ((((C.hx (n / 16 / 16 / 16 / 16 / 16)).toNat:Nat):Int))) A (xb (m:=n / 16 / 16 / 16 / 16 / 16) gi rfl rfl rfl (by omega)) λA=>?_;refine sdo (v:=pA g5 59) A (jj rfl rfl (fun w=>by kernel_rfl)) λA=>?_;refine qt A M rfl rfl (qj rfl rfl rfl (by kernel_rfl) M 0 rfl rfl rfl) 0 rfl rfl rfl ?_;intro _ M;refine qwk ag fun _ cj=>wsr fun _ ck=>sdm A λA=>?_;refine qcf ck A ?_;refine wp_skip (cj _ _ (wsk fun _ cl=>wsr fun _ cm=>sdm A λA=>?_));refine qcf cm A ?_;refine wp_skip (cl _ _ (wsr fun _ cn=>sdm A λA=>?_));refine sdo (v:=.slice (some ⟨g5,59,none⟩) 6 6) A (ym rfl rfl (fun w=>by kernel_rfl)) λA=>?_;have hrb9:=qsc (ds:=[C.hx (n / 16 / 16 / 16 / 16 / 16),C.hx (n / 16 / 16 / 16 / 16%16),C.hx (n / 16 / 16 / 16%16),C.hx (n / 16 / 16%16),C.hx (n / 16%16),C.hx (n%16)]) M 0 rfl (by simp);refine sdo (v:=.string (⟨([C.hx (n / 16 / 16 / 16 / 16 / 16),C.hx (n / 16 / 16 / 16 / 16%16),C.hx (n / 16 / 16 / 16%16),C.hx (n / 16 / 16%16),C.hx (n / 16%16),C.hx (n%16)]:List UInt8).toArray⟩)) A (uj rfl (uh ib ir gi hrb9 _)) λA=>?_;refine sda A λA=>?_;refine qa (cn _ _ (wp_ret (hret _ _ (en2 A rfl (qf rfl) (qf rfl) ?_))));exact⟨by rw[show C.hexD n=[C.hx (n / 16 / 16 / 16 / 16 / 16),C.hx (n / 16 / 16 / 16 / 16%16),C.hx (n / 16 / 16 / 16%16),C.hx (n / 16 / 16%16),C.hx (n / 16%16),C.hx (n%16)]from yh (by omega) (yh (by omega) (yh (by omega) (yh (by omega) (yh (by omega) (qsd (by omega))))))],M.bel⟩
     ·have af':=fy af;refine sdc A zt af λA=>?_;refine qcf ap A ?_;refine wp_exit (ah _ _ (wsr fun _ co=>sdm A λA=>?_));refine sdo (v:=iV 60) A dbK λA=>?_;refine sda A λA=>?_;refine qa (co _ _ (wrl ?_));iterate 2 refine sdm A λA=>?_
      refine sdo (v:=.int .u8 ((((C.hx (n / 16 / 16 / 16 / 16)).toNat:Nat):Int))) A (xb (m:=n / 16 / 16 / 16 / 16) gi rfl rfl rfl (by omega)) λA=>?_;refine sdo (v:=pA g5 60) A (jj rfl rfl (fun w=>by kernel_rfl)) λA=>?_;refine qt A M rfl rfl (qj rfl rfl rfl (by kernel_rfl) M 0 rfl rfl rfl) 0 rfl rfl rfl ?_;intro _ M;refine qwk ag fun _ cp=>wsr fun _ cq=>sdm A λA=>?_;refine qcf cq A ?_;refine wp_skip (cp _ _ (wsk fun _ cr=>wsr fun _ cw=>sdm A λA=>?_));refine qcf cw A ?_;refine wp_skip (cr _ _ (wsr fun _ cx=>sdm A λA=>?_));refine sdo (v:=.slice (some ⟨g5,60,none⟩) 5 5) A (ym rfl rfl (fun w=>by kernel_rfl)) λA=>?_;have hrb9:=qsc (ds:=[C.hx (n / 16 / 16 / 16 / 16),C.hx (n / 16 / 16 / 16%16),C.hx (n / 16 / 16%16),C.hx (n / 16%16),C.hx (n%16)]) M 0 rfl (by simp);refine sdo (v:=.string (⟨([C.hx (n / 16 / 16 / 16 / 16),C.hx (n / 16 / 16 / 16%16),C.hx (n / 16 / 16%16),C.hx (n / 16%16),C.hx (n%16)]:List UInt8).toArray⟩)) A (uj rfl (uh ib ir gi hrb9 _)) λA=>?_;refine sda A λA=>?_;refine qa (cx _ _ (wp_ret (hret _ _ (en2 A rfl (qf rfl) (qf rfl) ?_))));exact⟨by rw[show C.hexD n=[C.hx (n / 16 / 16 / 16 / 16),C.hx (n / 16 / 16 / 16%16),C.hx (n / 16 / 16%16),C.hx (n / 16%16),C.hx (n%16)]from yh (by omega) (yh (by omega) (yh (by omega) (yh (by omega) (qsd (by omega)))))],M.bel⟩
    ·have ae':=fy ae;refine sdc A zt ae λA=>?_;refine qcf am A ?_;refine wp_exit (ah _ _ (wsr fun _ cy=>sdm A λA=>?_));refine sdo (v:=iV 61) A dbK λA=>?_;refine sda A λA=>?_;refine qa (cy _ _ (wrl ?_));iterate 2 refine sdm A λA=>?_
     refine sdo (v:=.int .u8 ((((C.hx (n / 16 / 16 / 16)).toNat:Nat):Int))) A (xb (m:=n / 16 / 16 / 16) gi rfl rfl rfl (by omega)) λA=>?_;refine sdo (v:=pA g5 61) A (jj rfl rfl (fun w=>by kernel_rfl)) λA=>?_;refine qt A M rfl rfl (qj rfl rfl rfl (by kernel_rfl) M 0 rfl rfl rfl) 0 rfl rfl rfl ?_;intro _ M;refine qwk ag fun _ cz=>wsr fun _ db=>sdm A λA=>?_;refine qcf db A ?_;refine wp_skip (cz _ _ (wsk fun _ dd=>wsr fun _ de=>sdm A λA=>?_));refine qcf de A ?_;refine wp_skip (dd _ _ (wsr fun _ df=>sdm A λA=>?_));refine sdo (v:=.slice (some ⟨g5,61,none⟩) 4 4) A (ym rfl rfl (fun w=>by kernel_rfl)) λA=>?_;have hrb9:=qsc (ds:=[C.hx (n / 16 / 16 / 16),C.hx (n / 16 / 16%16),C.hx (n / 16%16),C.hx (n%16)]) M 0 rfl (by simp);refine sdo (v:=.string (⟨([C.hx (n / 16 / 16 / 16),C.hx (n / 16 / 16%16),C.hx (n / 16%16),C.hx (n%16)]:List UInt8).toArray⟩)) A (uj rfl (uh ib ir gi hrb9 _)) λA=>?_;refine sda A λA=>?_;refine qa (df _ _ (wp_ret (hret _ _ (en2 A rfl (qf rfl) (qf rfl) ?_))));exact⟨by rw[show C.hexD n=[C.hx (n / 16 / 16 / 16),C.hx (n / 16 / 16%16),C.hx (n / 16%16),C.hx (n%16)]from yh (by omega) (yh (by omega) (yh (by omega) (qsd (by omega))))],M.bel⟩
   ·have ac':=fy ac;refine sdc A zt ac λA=>?_;refine qcf ak A ?_;refine wp_exit (ah _ _ (wsr fun _ dg=>sdm A λA=>?_));refine sdo (v:=iV 62) A dbK λA=>?_;refine sda A λA=>?_;refine qa (dg _ _ (wrl ?_));iterate 2 refine sdm A λA=>?_
    refine sdo (v:=.int .u8 ((((C.hx (n / 16 / 16)).toNat:Nat):Int))) A (xb (m:=n / 16 / 16) gi rfl rfl rfl (by omega)) λA=>?_;refine sdo (v:=pA g5 62) A (jj rfl rfl (fun w=>by kernel_rfl)) λA=>?_;refine qt A M rfl rfl (qj rfl rfl rfl (by kernel_rfl) M 0 rfl rfl rfl) 0 rfl rfl rfl ?_;intro _ M;refine qwk ag fun _ dh=>wsr fun _ di=>sdm A λA=>?_;refine qcf di A ?_;refine wp_skip (dh _ _ (wsk fun _ dj=>wsr fun _ dk=>sdm A λA=>?_));refine qcf dk A ?_;refine wp_skip (dj _ _ (wsr fun _ dn=>sdm A λA=>?_));refine sdo (v:=.slice (some ⟨g5,62,none⟩) 3 3) A (ym rfl rfl (fun w=>by kernel_rfl)) λA=>?_;have hrb9:=qsc (ds:=[C.hx (n / 16 / 16),C.hx (n / 16%16),C.hx (n%16)]) M 0 rfl (by simp);refine sdo (v:=.string (⟨([C.hx (n / 16 / 16),C.hx (n / 16%16),C.hx (n%16)]:List UInt8).toArray⟩)) A (uj rfl (uh ib ir gi hrb9 _)) λA=>?_;refine sda A λA=>?_;refine qa (dn _ _ (wp_ret (hret _ _ (en2 A rfl (qf rfl) (qf rfl) ?_))));exact⟨by rw[show C.hexD n=[C.hx (n / 16 / 16),C.hx (n / 16%16),C.hx (n%16)]from yh (by omega) (yh (by omega) (qsd (by omega)))],M.bel⟩
  ·have ab':=fy ab;refine sdc A zt ab λA=>?_;refine qcf aj A ?_;refine wp_exit (ah _ _ (wsr fun _ dq=>sdm A λA=>?_));refine sdo (v:=iV 63) A dbK λA=>?_;refine sda A λA=>?_;refine qa (dq _ _ (wrl ?_));iterate 2 refine sdm A λA=>?_
   refine sdo (v:=.int .u8 ((((C.hx (n / 16)).toNat:Nat):Int))) A (xb (m:=n / 16) gi rfl rfl rfl (by omega)) λA=>?_;refine sdo (v:=pA g5 63) A (jj rfl rfl (fun w=>by kernel_rfl)) λA=>?_;refine qt A M rfl rfl (qj rfl rfl rfl (by kernel_rfl) M 0 rfl rfl rfl) 0 rfl rfl rfl ?_;intro _ M;refine qwk ag fun _ dr=>wsr fun _ dt=>sdm A λA=>?_;refine qcf dt A ?_;refine wp_skip (dr _ _ (wsk fun _ du=>wsr fun _ dv=>sdm A λA=>?_));refine qcf dv A ?_;refine wp_skip (du _ _ (wsr fun _ dw=>sdm A λA=>?_));refine sdo (v:=.slice (some ⟨g5,63,none⟩) 2 2) A (ym rfl rfl (fun w=>by kernel_rfl)) λA=>?_;have hrb9:=qsc (ds:=[C.hx (n / 16),C.hx (n%16)]) M 0 rfl (by simp);refine sdo (v:=.string (⟨([C.hx (n / 16),C.hx (n%16)]:List UInt8).toArray⟩)) A (uj rfl (uh ib ir gi hrb9 _)) λA=>?_;refine sda A λA=>?_;refine qa (dw _ _ (wp_ret (hret _ _ (en2 A rfl (qf rfl) (qf rfl) ?_))));exact⟨by rw[show C.hexD n=[C.hx (n / 16),C.hx (n%16)]from yh (by omega) (qsd (by omega))],M.bel⟩
 ·have aa':=fy aa;refine sdc A zt aa λA=>?_;refine qcf ai A ?_;refine wp_exit (ah _ _ (wsr fun _ dx=>sdm A λA=>?_));refine sdo (v:=iV 64) A dbK λA=>?_;refine sda A λA=>?_;refine qa (dx _ _ (wrl ?_));iterate 2 refine sdm A λA=>?_
  refine sdo (v:=.int .u8 ((((C.hx n).toNat:Nat):Int))) A (xb (m:=n) gi rfl rfl rfl (by omega)) λA=>?_;refine sdo (v:=pA g5 64) A (jj rfl rfl (fun w=>by kernel_rfl)) λA=>?_;refine qt A M rfl rfl (qj rfl rfl rfl (by kernel_rfl) M 0 rfl rfl rfl) 0 rfl rfl rfl ?_;intro _ M;refine qwk ag fun _ dy=>wsr fun _ dz=>sdm A λA=>?_;refine qcf dz A ?_;refine wp_skip (dy _ _ (wsk fun _ d5=>wsr fun _ d6=>sdm A λA=>?_));refine qcf d6 A ?_;refine wp_skip (d5 _ _ (wsr fun _ d7=>sdm A λA=>?_));refine sdo (v:=.slice (some ⟨g5,64,none⟩) 1 1) A (ym rfl rfl (fun w=>by kernel_rfl)) λA=>?_;have hrb9:=qsc (ds:=[C.hx n]) M 0 rfl (by simp);refine sdo (v:=.string (⟨([C.hx n]:List UInt8).toArray⟩)) A (uj rfl (uh ib ir gi hrb9 _)) λA=>?_;refine sda A λA=>?_;refine qa (d7 _ _ (wp_ret (hret _ _ (en2 A rfl (qf rfl) (qf rfl) ?_))));exact⟨by rw[show C.hexD n=[C.hx n]from qsd (by omega)],M.bel⟩
theorem xcc{w:World}(hz:C.Tz16 w){n:Nat}(hn:n≤1114111):Calls Tryz.prog 309 #[iV ((n:Nat):Int),iV 16] w (RB w (.string ⟨(C.hexD n).toArray⟩)):=by
 have M:=Mg.start w;refine wof Tryz.func309 Tryz.ntmps309 fun Q hret hnorm hP a A=>?_;refine wsr fun _ aa=>sda A λA=>?_;refine qwk aa fun _ ab=>wsr fun _ ac=>sdm A λA=>?_;refine sdo (v:=bV false) A dbK λA=>?_;refine qcf ac A ?_;refine wp_skip (ab _ _ (wsr fun K4 ae=>sdm A λA=>?_));refine sdo (v:=.int .u64 (((n:Nat):Int))) A (zk rfl (ar_conv Tryz.underlying2 Tryz.underlying91 (in_u64 (by omega) (by omega)))) λA=>?_;iterate 2 refine sdm A λA=>?_
 refine sdo (v:=bV false) A (qb rfl rfl (fun w=>(qy w).trans (by rw[show(decide (((n:Nat):Int)<0))=false from(gn (by omega))]))) λA=>?_;refine gcl A M ec (xcb (vq hz M.bel) hn) fun _ _ M a A=>?_;refine sdm A λA=>?_;iterate 2 refine sde A λA=>?_
 iterate 2 refine sda A λA=>?_
 refine qwr ae fun _ af=>sdm A λA=>?_;refine sda A λA=>?_;refine qr1 af hret A ?_;exact⟨rfl,M.bel⟩
theorem xib{w:World}(hz:C.Tz16 w){n:Nat}(hn:n≤1114111):Calls Tryz.prog 282 #[iV ((n:Nat):Int),iV 16] w (RB w (.string ⟨(C.hexD n).toArray⟩)):=by
 have M:=Mg.start w;refine wof Tryz.func282 Tryz.ntmps282 fun Q hret hnorm hP a A=>?_;refine wsr fun _ aa=>sda A λA=>?_;refine qwr aa fun _ ab=>?_;iterate 2 refine sdm A λA=>?_
 refine gcl A M ec (xcc (vq hz M.bel) hn) fun _ _ M a A=>?_;refine sda A λA=>?_;refine qr1 ab hret A ?_;exact⟨rfl,M.bel⟩
open Go.RowKit Go.Shelf
def QT(T:List Ck):Prop:=∀d∈T,∃g o,d=.obj g o∧qia o
theorem QT.nil: QT []:=fun d h=>by cases h
theorem QT.cons{g:Nat}{cs:Array Value}{t:TypeId}{T:List Ck}(h:t≠BY)(hT:QT T):QT (.obj g (.cells cs t)::T):=fun d hd=>by
  rcases ik.1 hd with rfl|hd
  · exact⟨_,_,rfl,kj h⟩
  · exact hT d hd
theorem jri{w0 w:World}{gw:Nat}{ob:Obj}{v:Value}{q:Nat}{xs:List Value}{T:List Ck}(hM:Mg w0 w (.obj gw ob::.row BY 1 v q xs::T))(ho:qia ob)(hT:QT T){r:Int}(hr0:-2147483648≤r)(hr1:r≤2147483647)(hlen:q+4≤140737488355328):
    Calls Tryz.prog 254 #[v,.int .i32 r] w fun e w'=>∃v',e=.returned v'∧Mg w0 w' (.obj gw ob::.row BY 1 v' (q+(Lib.runeCells r).length) (xs++Lib.runeCells r)::T):=by
  refine(Any.utf8_AppendRune_plain Tryz.laysAppend (by kernel_rfl) w0.heap.size v q xs r hr0 hr1 w (hM.has 1 rfl) hlen hM.bel.size).mono ?_;rintro e w' ⟨v',rfl,hown,o,hgr⟩;refine⟨v',rfl,?_⟩;have aa:Mg w0 (w.alloc o) (.obj gw ob::.row BY 1 v q xs::T):=hM.call ((Below.refl _ _).alloc (gm _) _);have key:∀g o',Ck.holds w0.heap.size (w.alloc o) (.obj g o')→Ap (.row BY 1 v q xs) (.obj g o')→qia o'→v'.ownBlock≠some g:=fun g o' hd ha hq hg=>by
    have hd':=Ck.grown hd (aa.has 1 rfl) (by simp) ha hgr;rcases hown.2 with⟨rfl,_⟩|⟨g2,cap,cur,rfl,hbg,hgc,_⟩
    · cases hg
    · have e1:g2=g:=io hg;subst e1;exact hq cur (0,0) (io (hd'.2.symm.trans hgc))
  refine aa.turn 1 (c':=.row BY 1 v' _ _) rfl (by simp) hgr hown (fun d hd ha=>?_);rcases ik.1 hd with rfl|hd
  · exact key _ _ (aa.has 0 rfl) ha ho
  · rcases ik.1 hd with rfl|hd2
    · rcases ha with h0|h0
      · by_cases h1:v'.ownBlock=none
        · exact .inl h1
        · exact .inr (fun e=>h1 (e.trans h0))
      · exact absurd rfl h0
    · obtain⟨g,o',rfl,hq⟩:=hT d hd2;exact key _ _ (aa.all _ (ix _ hd)) ha hq
theorem TwC_is1_27: Is1 Tryz.prog 27:=⟨⟨_,ib,rfl⟩,by kernel_rfl⟩
theorem TwC_fld_71_1: FieldAt Tryz.prog 71 1 1:=⟨_,_,Tryz.underlying71,rfl,rfl,by kernel_rfl⟩
theorem jrj{bs:List UInt8}{b:UInt8}:bs.length+1=(bs++[b]).length:=by simp
theorem zzh{bs:List UInt8}{r:Int}:bs.length+(Lib.runeCells r).length=(bs++Lib.encodeRune r).length:=by rw[fv,Lib.runeCells_length]
theorem zx{w0 w:World}{gw:Nat}{p v:Value}{pl:Bool}{bs:List UInt8}{T:List Ck}(hp:p=.pointer none∨p=(pA gw 0))(hM0:Mg w0 w (.obj gw (.cells #[p,v,bV pl] 182)::.row BY 1 v bs.length (Lib.byteCells bs)::T))(hT:QT T){b:UInt8}(hroom:bs.length+1≤1000000000):Calls Tryz.prog 242 #[pA gw 0,.int .u8 ((b.toNat:Nat):Int)] w fun e w'=>e=.returned .nilIface∧∃v',Mg w0 w' (.obj gw (.cells #[pA gw 0,v',bV pl] 182)::.row BY 1 v' (bs++[b]).length (Lib.byteCells (bs++[b]))::T):=by
 have hqX:∀d∈T,zvb d:=fun d hd=>by obtain⟨g,o,rfl,hq⟩:=hT d hd; exact hq
 have M:Mg w0 w (.obj gw (.cells #[p,v,bV pl] 182)::.row BY 1 (v) bs.length ((Lib.byteCells bs))::T):=hM0;refine wof Tryz.func242 Tryz.ntmps242 fun Q hret hnorm hP a A=>?_;refine wsr fun _ ac=>sda A λA=>?_;refine qwr ac fun _ ae=>sdm A λA=>?_;refine sct A ec (zxh hp M) ?_;rintro _ _ ⟨rfl,hMc⟩;replace M:=hMc;refine⟨_,rfl,?_⟩;intro a A;refine qwr ae fun K4 af=>?_;iterate 2 refine sdm A λA=>?_
 refine sdn A λA=>?_;refine sdf A 1 TwC_fld_71_1 λA=>?_;refine sdl A M TwC_is1_27 0 λA=>?_;refine sdm A λA=>?_;refine xjd (vs:=[.int .u8 (((b.toNat:Nat):Int))]) A M rfl rfl rfl (qg rfl (by kernel_rfl)) rfl rfl (qi (by simp) (qi (by simp) (za hqX))) ?_;intro g5 _ M a A;refine qwi (k:=2) (q:=bs.length) (m:=1) (xs:=(Lib.byteCells bs)) (news:=[.int .u8 (((b.toNat:Nat):Int))]) A rfl rfl rfl (jla ib (by kernel_rfl) M 2 rfl rfl 0 rfl rfl rfl rfl (by omega)) (fun _=>rfl) ?_;intro _ _ M a A;obtain⟨ag,aa,rfl⟩:=yd (M.has 2 rfl);refine sdn A λA=>?_;refine sdf A 1 TwC_fld_71_1 λA=>?_;refine qt A M rfl rfl (qj rfl rfl rfl (by kernel_rfl) M 1 rfl rfl rfl) 1 rfl rfl rfl ?_;intro _ M;refine qwr af fun _ ab=>sda A λA=>?_;refine qr1 ab hret A ?_;refine⟨rfl,.slice ag ((bs.length+1)) aa,?_⟩;have ah:=M.sub (L':=_) (cN (cC (cC (.refl _))));rw[←jrj,Lib.byteCells_append];exact ah
theorem kb{w0 w:World}{gw:Nat}{p v:Value}{pl:Bool}{bs:List UInt8}{T:List Ck}(hp:p=.pointer none∨p=(pA gw 0))(hM0:Mg w0 w (.obj gw (.cells #[p,v,bV pl] 182)::.row BY 1 v bs.length (Lib.byteCells bs)::T))(hT:QT T){r:Int}(hr0:-2147483648≤r)(hr1:r≤2147483647)(hroom:bs.length+4≤140737488355328):Calls Tryz.prog 207 #[pA gw 0,.int .i32 r] w fun e w'=>∃z,e=.returned z∧∃v',Mg w0 w' (.obj gw (.cells #[pA gw 0,v',bV pl] 182)::.row BY 1 v' (bs++Lib.encodeRune r).length (Lib.byteCells (bs++Lib.encodeRune r))::T):=by
 obtain⟨ab,ac,rfl⟩:=yd (hM0.has 1 rfl);have M:Mg w0 w (.obj gw (.cells #[p,.slice ab bs.length ac,bV pl] 182)::.row BY 1 (.slice ab bs.length ac) bs.length ((Lib.byteCells bs))::T):=hM0;refine wof Tryz.func207 Tryz.ntmps207 fun Q hret hnorm hP a A=>?_;refine wsr fun _ af=>?_;iterate 2 refine sda A λA=>?_
 refine qwr af fun _ ag=>sdm A λA=>?_;refine sct A ec (zxh hp M) ?_;rintro _ _ ⟨rfl,hMc⟩;replace M:=hMc;refine⟨_,rfl,?_⟩;intro a A;refine qwr ag fun K4 ah=>sdm A λA=>?_;refine sdn A λA=>?_;refine sdf A 1 TwC_fld_71_1 λA=>?_;refine sdl A M TwC_is1_27 0 λA=>?_;refine sdo A (qr ib rfl) λA=>?_;refine sda A λA=>?_;refine qwr ah fun _ ai=>?_;iterate 2 refine sdm A λA=>?_
 refine sdn A λA=>?_;refine sdf A 1 TwC_fld_71_1 λA=>?_;refine sdl A M TwC_is1_27 0 λA=>?_;refine sdm A λA=>?_;refine sct A ec (jri M (kj (by decide)) hT hr0 hr1 hroom) ?_;rintro _ _ ⟨_,rfl,ae⟩;obtain⟨aj,ak,rfl⟩:=yd (ae.has 1 rfl);replace M:=ae;refine⟨_,rfl,?_⟩;intro a A;refine sdn A λA=>?_;refine sdf A 1 TwC_fld_71_1 λA=>?_;refine qt A M rfl rfl (qj rfl rfl rfl (by kernel_rfl) M 0 rfl rfl rfl) 0 rfl rfl rfl ?_;intro _ M;refine qwr ai fun _ aa=>sdm A λA=>?_;refine sdn A λA=>?_;refine sdf A 1 TwC_fld_71_1 λA=>?_;refine sdl A M TwC_is1_27 0 λA=>?_;refine sdo A (qr ib rfl) λA=>?_;refine sdm A λA=>?_;refine sdo (v:=iV (IntKind.i64.wrap ((((bs.length+(Lib.runeCells r).length):Nat):Int)-((bs.length:Nat):Int)))) A (qb rfl rfl (ar_sub rfl)) λA=>?_;iterate 2 refine sda A λA=>?_
 refine qa (aa _ _ (wp_ret (hret _ _ (en2 A rfl (qf rfl) (qf rfl) ?_))));refine⟨_,rfl,.slice aj ((bs.length+(Lib.runeCells r).length)) ak,?_⟩;rw[←zzh,Lib.byteCells_append,Lib.byteCells_encodeRune];exact M
end Go.Proofs.YtmnlfahgklnpeaaGreatDoor.G
