/- Lh Lj Ke LiD Le Lf Lg LiE LiF LiG KcE ShelfC Tw Tv TwA KcT KcF KcG Kf KcH Kg EqO Ov TrU Tu -/
import Derived.Test.YtmnlfahgklnpeaaGreatDoorPcondte9g
import Derived.RangeFuncNested
import Derived.RangeFuncLeaves
import Derived.LoopNIn
import Derived.Shelf.Strings.Builder1
import Derived.Shelf.Small.Utf8
import Derived.Shelf.Small.Bits
import Derived.Shelf.Small.Strs
import Derived.Shelf.Small.Wraps
import Derived.Shelf.Strings.BuilderF
import Derived.Shelf.Strings.BuilderK
import Derived.Shelf.Strings.BuilderRune
import Derived.Shelf.Utf8.AppendRune
import Derived.Shelf.Utf8.AppendRunePlain
import Derived.Shelf.Strconv.Itoa0
import Derived.Shelf.Strconv.Itoa1
import Derived.Shelf.LaysM
import Derived.Shelf.Strconv.Itoa2
import Derived.Shelf.Strconv.Itoa3
import Derived.Shelf.Strconv.Clone
import Derived.Shelf.Strings.Search1
import Derived.Shelf.Strings.Prefix
import Derived.Shelf.Strings.Runes
import Derived.WalkKit
import Derived.Laws.Externs
import Derived.Lib.Builder
import Derived.Lib.UnsafeStr
import Derived.Lib.AppendStr
import Derived.Shelf.RegionOpenPlain
import Derived.Lib.ConvBytes
set_option linter.unusedVariables false
set_option linter.unusedSimpArgs false
set_option maxHeartbeats 4000000
set_option maxRecDepth 1000000
namespace Go.Proofs.YtmnlfahgklnpeaaGreatDoor.G
open Go.RowKit
mutual
def qda: Tr→Nat
  | .mk _ _ _ _ _ ts => 1 + kf ts
def kf: List Tr→Nat
  | [] => 0
  | t :: ts => qda t + kf ts
end
mutual
def qac(dp:Int):Tr→Bool
  | .mk k _ _ _ _ ts => decide (dp ≤ 200) && qii dp (decide (k = 8)) 0 ts
def qii(dp:Int)(pr:Bool)(i:Nat):List Tr→Bool
  | [] => true
  | t :: ts => qac (if pr = true ∧ i = 1 then dp else dp + 1) t && qii dp pr (i + 1) ts
end
def FitC(t:Tr):Prop:=∀dp left:Int,((jx dp left t).1=true↔qac dp t=true∧(qda t:Int)≤left)∧((jx dp left t).1=true→(jx dp left t).2=left-qda t)
theorem zfh{dp:Int}{pr:Bool}:∀{ts:List Tr},(∀t∈ts,FitC t)→∀(i:Nat) (m:Int),0≤m→((qag dp pr i m ts).1=true↔qii dp pr i ts=true∧(kf ts:Int)≤m)∧((qag dp pr i m ts).1=true→(qag dp pr i m ts).2=m-kf ts)
  | [], _, i, m, hm => by simp [qag, qii, kf, hm]
  | t :: ts, h, i, m, hm => by
    have h1:=h t iw (if pr=true∧i=1 then dp else dp+1) m;have hp:=qgg t (if pr=true∧i=1 then dp else dp+1) m;rw[qag,qii,kf];generalize (if pr=true∧i=1 then dp else dp+1)=D at h1 hp ⊢;by_cases hc:(jx D m t).1=true
    · rw[gj hc];have h2:=zfh (dp:=dp) (pr:=pr) (fun x hx=>h x (ix _ hx)) (i+1) _ (hp hc);have h3:=h1.1.1 hc;have h4:=h1.2 hc;rw[h4]at h2 ⊢;rw[ig,h3.1];refine⟨⟨fun k=>?_,fun k=>?_⟩,fun k=>?_⟩
      · have:=h2.1.1 k; exact⟨⟨rfl,this.1⟩,by have:=this.2; push_cast; omega⟩
      · exact h2.1.2 ⟨k.1.2,by have:=k.2; push_cast at this; omega⟩
      · rw[h2.2 k]; push_cast; omega
    · rw[f7 hc];refine⟨⟨(fun k=>by cases k),fun k=>absurd (h1.1.2 ⟨?_,?_⟩) hc⟩,(fun k=>by cases k)⟩
      · have:=k.1; rw[ig]at this; exact this.1
      · have:=k.2; push_cast at this; omega
theorem jnh: ∀t:Tr,FitC t:=by
  refine Tr.indT fun k n q s rl ts ih dp left=>?_;rw[jx,qac,qda];by_cases hc:left-1<0∨200<dp
  · rw[gj hc];refine⟨⟨(fun k=>by cases k),fun k=>?_⟩,(fun k=>by cases k)⟩;have h1:=k.1;have h2:=k.2;rw[ig,decide_eq_true_eq]at h1
    push_cast at h2
    omega
  · rw[f7 hc];have h2:=zfh (dp:=dp) (pr:=decide (k=8)) ih 0 (left-1) (by omega);rw[gv (show dp≤200 by omega),Bool.true_and];refine⟨⟨fun k=>?_,fun k=>?_⟩,fun k=>?_⟩
    · have:=h2.1.1 k; exact⟨this.1,by have:=this.2; push_cast; omega⟩
    · exact h2.1.2 ⟨k.1,by have:=k.2; push_cast at this; omega⟩
    · rw[h2.2 k]; push_cast; omega
theorem qze: ∀(xs:List Tr) (z:Tr),qda (zy xs z)=kf xs+xs.length+qda z
  | [], z => by simp [zy, kf]
  | x :: xs, z => by rw [zy, qda, kf, kf, kf, qze xs z, kf, fw]; omega
theorem zfi: ∀(xs:List Tr) (z:Tr),qac 1 (zy xs z)=(xs.all (qac 2)&&qac 1 z)
  | [], z => by simp [zy]
  | x :: xs, z => by
    rw[zy,qac,qii,qii,qii,List.all_cons];have:(if decide ((8:Int)=8)=true∧0=1 then(1:Int)else 1+1)=2:=(by decide);rw[this];have:(if decide ((8:Int)=8)=true∧0+1=1 then(1:Int)else 1+1)=1:=(by decide);rw[this,zfi xs z];simp[Bool.and_assoc]
theorem zqe: ∀(xs:List Tr) (z:Tr),vi qh (zy xs z)=(xs.all (vi qh)&&vi qh z)
  | [], z => by simp [zy]
  | x :: xs, z => by
    rw[zy,vi,qeg,qeg,qeg,List.all_cons,zqe xs z];have:qh (.mk 8 0 Q6.zero ⟨#[]⟩ [] [x,zy xs z])=true:=(by rfl);rw[this];simp[Bool.and_assoc]
theorem qzf(t:Tr):qs qh t=true↔qac 1 t=true∧qda t≤20000∧vi qh t=true:=by
  unfold qs;rw[ig,(jnh t 1 20000).1];constructor
  · rintro⟨⟨h1,h2⟩,h3⟩; exact⟨h1,by omega,h3⟩
  · rintro⟨h1,h2,h3⟩; exact⟨⟨h1,by omega⟩,h3⟩
theorem qme(xs:List Tr)(z:Tr):qs qh (zy xs z)=true↔(xs.all (qac 2)=true∧qac 1 z=true)∧kf xs+xs.length+qda z≤20000∧xs.all (vi qh)=true∧vi qh z=true:=by
  rw[qzf,zfi,qze,zqe,ig,ig]
theorem zke{xs:List Tr}{z:Tr}(h:20000<xs.length):qs qh (zy xs z)=false:=by
  apply lj.2;intro k;have:=((qme xs z).1 k).2.1;omega
def fitS(xs:List Tr)(z:Tr):Tr×Int:=if qs qh (zy xs z)=true then(zy xs z,0)else(qtb,4)
def ofS(xs:List Tr):Tr:=(fitS xs nilT).1
theorem jgh{xs:List Tr}{z:Tr}(h:20000<xs.length):fitS xs z=(qtb,4):=by unfold fitS; rw[f7 (by rw[zke h]; decide)]
theorem qpc{xs:List Tr}{z:Tr}(h:qs qh (zy xs z)=true):fitS xs z=(zy xs z,0):=by unfold fitS; rw[gj h]
theorem zkf{xs:List Tr}{z:Tr}(h:qs qh (zy xs z)=false):fitS xs z=(qtb,4):=by unfold fitS; rw[f7 (by rw[h]; decide)]
theorem Rt.take{w:World}{so:Option Addr}{ts:List Dt}(h:Rt w so ts)(n:Nat):Rt w so (ts.take n):=fun hne=>by
  obtain⟨b,o,e,h2⟩:=h (fun k=>hne (by rw[k]; simp));refine⟨b,o,e,fun i t hi=>h2 i t ?_⟩;rw[List.getElem?_take]at hi
  split at hi
  · exact hi
  · cases hi
theorem Rt.drop{w:World}{so:Option Addr}{ts:List Dt}(h:Rt w so ts)(cap n:Nat)(hc:ts.length≤cap):Rt w (if cap=n then so else so.map (·.add (n*11))) (ts.drop n):=fun hne=>by
  have hlt:n<ts.length:=by
    apply Classical.byContradiction;intro k;exact hne (i7 (by omega))
  obtain⟨b,o,e,h2⟩:=h (fun k=>by rw[k]at hlt; simp at hlt);rw[f7 (by omega),e];refine⟨b,o+n*11,by simp[jt],fun i t hi=>?_⟩;rw[List.getElem?_drop]at hi;have:=h2 _ _ hi
  rwa [Nat.add_mul,←Nat.add_assoc]at this
theorem qij{t:Tr}{xs:List Tr}(h:js t=some xs):Tr.bulks xs+xs.length+1=t.bulk:=by
  rw[qif h,qca];rfl
def OkL(L:List Tr):Prop:=L.all (qac 2)=true∧kf L+L.length+1≤20000∧L.all (vi qh)=true
theorem zkg(L:List Tr):qs qh (zy L nilT)=true↔OkL L:=by
  rw[qme];have h1:qac 1 nilT=true:=by rfl
  have h2:vi qh nilT=true:=by rfl
  have h3:qda nilT=1:=by rfl
  rw[h3];unfold OkL;constructor
  · rintro⟨⟨a,_⟩,b,c,_⟩; exact⟨a,b,c⟩
  · rintro⟨a,b,c⟩; exact⟨⟨a,h1⟩,b,c,h2⟩
theorem OkL.of{L M:List Tr}(h:OkL L)(hm:∀x∈M,x∈L)(hn:kf M+M.length≤kf L+L.length):OkL M:=⟨j3.2 fun x hx=>j3.1 h.1 x (hm x hx),by have:=h.2.1; omega,j3.2 fun x hx=>j3.1 h.2.2 x (hm x hx)⟩
theorem zkh: qs qh qtb=false:=by rfl
theorem jze{A:List Tr}(h:OkL A):ofS A=zy A nilT:=by unfold ofS; rw[qpc ((zkg A).2 h)]
theorem jgi{A:List Tr}(h:qs qh (ofS A)=true):OkL A∧ofS A=zy A nilT:=by
  by_cases hc:qs qh (zy A nilT)=true
  · exact⟨(zkg A).1 hc,jze ((zkg A).1 hc)⟩
  · unfold ofS at h;rw[zkf (lj.2 hc),zkh]at h;cases h
theorem jni(xs:List Tr)(z:Tr):(fitS xs z).1.bulk≤Tr.bulks xs+xs.length+z.bulk+1:=by
  unfold fitS
  split
  · show(zy xs z).bulk≤_; rw[qca]; omega
  · show qtb.bulk≤_; rw[show qtb.bulk=1 from rfl]; omega
theorem xjj: ∀xs:List Tr,xs.length≤Tr.bulks xs
  | [] => gm _
  | t :: xs => by
    have:=xjj xs;have h2:1≤t.bulk:=by cases t; rw[xr]; omega
    rw[Tr.bulks,fw]; omega
theorem jdj(xs:List Tr):(ofS xs).bulk≤Tr.bulks xs+Tr.bulks xs+2:=by
  have h1:=jni xs nilT;have h2:=xjj xs;rw[show nilT.bulk=1 from rfl]at h1;unfold ofS;omega
noncomputable def qfc(t:Tr):List Tr×Int:=
  if qs qh t=false then([],2)else match js t with
    | none => ([], 10)
    | some xs => (xs, 0)
theorem qrb{t:Tr}(h:qs qh t=false):qfc t=([],2):=by unfold qfc; rw[gj h]
theorem qmf{t:Tr}(h:qs qh t=true)(ha:js t=none):qfc t=([],10):=by unfold qfc; rw[f7 (by rw[h]; decide),ha]
theorem qhb{t:Tr}{xs:List Tr}(h:qs qh t=true)(ha:js t=some xs):qfc t=(xs,0):=by unfold qfc; rw[f7 (by rw[h]; decide),ha]
theorem xka{us vs:List Dt}(h:us.map Dt.tr=vs.map Dt.tr){i:Nat}{t u:Dt}(ht:us[i]?=some t)(hu:vs[i]?=some u):t.tr=u.tr:=by
  have:=j9 (fun l=>l[i]?) h;simp only[List.getElem?_map,ht,hu,Option.map_some]at this;exact io this
def zfj(k:Int):Dt:=.mk ⟨k,0,⟨Q6.zero,none,0,none,0,none,0,none,0⟩,⟨#[]⟩,none,0,[],none,0⟩ []
theorem jnj(w:World):∀t∈[zfj 2,zfj 10],t.rd w:=fun t ht=>by
  rcases ik.1 ht with h|h
  · rw[h]; exact qvd w 2 (by decide) (by decide)
  · rw[iq.1 h]; exact qvd w 10 (by decide) (by decide)
def hdT(ks:List (Int×List Tr)):Int:=match ks[(fdI ks 3).toNat]? with
  | some k => if 0 ≤ fdI ks 3 then k.1 else 0
  | none => 0
theorem jea{ks:List (Int×List Tr)}{k:Int×List Tr}(h:0≤fdI ks 3)(hk:ks[(fdI ks 3).toNat]?=some k):hdT ks=k.1:=by unfold hdT; rw[hk]; exact gj h
theorem joa{ks:List (Int×List Tr)}(h:¬0≤fdI ks 3):hdT ks=0:=by
  unfold hdT;cases ks[(fdI ks 3).toNat]? with
  | none => rfl
  | some k => exact f7 h
def flT(ks:List (Int×List Tr))(t:Int):Option Tr:=if 0≤fdI ks t then(ks[(fdI ks t).toNat]?).bind fun k=>k.2[0]? else none
theorem qvh{ks:List (Int×List Tr)}{t:Int}{k:Int×List Tr}{d:Tr}(h:0≤fdI ks t)(hk:ks[(fdI ks t).toNat]?=some k)(hd:k.2[0]?=some d):flT ks t=some d:=by unfold flT; rw[gj h,hk]; exact hd
theorem qrc{ks:List (Int×List Tr)}{t:Int}(h:¬0≤fdI ks t):flT ks t=none:=f7 h
noncomputable def irT(ks:List (Int×List Tr)):List Tr:=match flT ks 7 with
  | some t => (qfc t).1
  | none => []
def opT(o:Option Tr)(f:Tr→List UInt8):List UInt8:=match o with
  | some t => f t
  | none => []
def nmL(t:Int):List UInt8:=(kat t).nm.data.toList
noncomputable def tlS(f g:Tr→List UInt8)(ks:List (Int×List Tr)):List UInt8:=((nmL (hdT ks)++opT (flT ks 8) fun t=>[32,105,110,32]++f t)++opT (flT ks 1) fun t=>[58,32]++f t)++(irT ks).flatMap fun t=>[32]++g t
theorem jzf: ∀i,i<20→∀t∈[1,7,8],yn ((i:Nat):Int) t=true→un ((i:Nat):Int)=1:=by decide +kernel
theorem xgd{x t:Int}(hx:okT 20 x=true)(ht:t=1∨t=7∨t=8)(h:yn x t=true):un x=1:=by
  have h1:=qba hx;have e:((x.toNat:Nat):Int)=x:=by omega
  have:=jzf x.toNat (by omega) t (by rcases ht with rfl|rfl|rfl<;>decide);rw[e]at this;exact this h
theorem xge: ∀i,i<20→(kds.getD i xx).nm≠⟨#[]⟩:=by
  intro i hi;have key:∀i,i<20→(kds.getD i xx).nm.size≠0:=by decide
  exact fun e=>key i hi (by rw[e]; rfl)
theorem xea{t:Int}(h:okT 20 t=true):(kat t).nm≠⟨#[]⟩:=by
  rw[qra h];exact xge _ (by have:=qba h; omega)
theorem xgf{t:Int}(h:okT 20 t=true):nmL t≠[]:=fun e=>xea h (by
  apply ByteArray.ext;have:(kat t).nm.data.toList=[]:=e;simpa using this)
theorem xgg: ∀i,i<20→(kds.getD i xx).nm.size≤100:=by decide
theorem qpd{t:Int}(h:okT 20 t=true):(kat t).nm.size≤100:=by
  rw[qra h];exact xgg _ (by have:=qba h; omega)
def isF(t:Tr):Bool:=decide (t.k=2)&&decide (t.n=0)
noncomputable def erS(a m:Tr)(is:List Tr)(v:Bool):List (Int×List Tr)×Int:=
  if qs qh a=true∧qs qh m=true∧qs qh (ofS is)=true then
    ((if v=true then(6,[])else(4,[]))::(if isF a=true then[]else[(8,[a])])++[(1,[m]),(7,[ofS is])],0)
  else([],2)
theorem qrd{a m:Tr}{is:List Tr}{v:Bool}(h:¬(qs qh a=true∧qs qh m=true∧qs qh (ofS is)=true)):erS a m is v=([],2):=f7 h
theorem xeb{a m:Tr}{is:List Tr}{v:Bool}(h1:qs qh a=true)(h2:qs qh m=true)(h3:qs qh (ofS is)=true)(h4:isF a=true):erS a m is v=([(if v=true then(6,[])else(4,[])),(1,[m]),(7,[ofS is])],0):=by
  unfold erS;rw[gj ⟨h1,h2,h3⟩,gj h4]; rfl
theorem job{a m:Tr}{is:List Tr}{v:Bool}(h1:qs qh a=true)(h2:qs qh m=true)(h3:qs qh (ofS is)=true)(h4:isF a=false):erS a m is v=([(if v=true then(6,[])else(4,[])),(8,[a]),(1,[m]),(7,[ofS is])],0):=by
  unfold erS;rw[gj ⟨h1,h2,h3⟩,f7 (show ¬isF a=true by rw[h4]; decide)]; rfl
theorem jgj{w:World}{t t0:Dt}(ht:t.rd w)(h0:t.ts[0]?=some t0):Calls Tryz.prog 203 #[.agg (t.d.cells t.ts.length).toArray] w (RB w (.agg (t0.d.cells t0.ts.length).toArray)):=by
 have hlt:0<t.ts.length:=(List.getElem?_eq_some_iff.1 h0).1;have M:=Mg.start w;refine wof Tryz.func203 Tryz.ntmps203 fun Q hret hnorm hP a A=>?_;refine wsr fun _ aa=>zj (vs:=(t.d.cells t.ts.length)) (t:=30) A M rfl rfl rfl pg (qx rfl rfl) (by decide) ?_;intro g2 _ M a A;refine zj (vs:=(zb.d.cells zb.ts.length)) (t:=30) A M rfl rfl rfl pg (qm (z:=.agg (zb.d.cells zb.ts.length).toArray) (by kernel_rfl) rfl) (by decide) ?_;intro g4 _ M a A;refine qwk aa fun _ ab=>?_;obtain⟨t1,bt1,ot1,it1,mt1,rt1_,lt1,Ht1⟩:=qeh ht (i:=0) hlt;obtain rfl:t1=t0:=by rw[it1]at h0; exact io h0
 refine wrl (sdf A 10 jz λA=>?_);refine sdl A M ke 1 λA=>?_;refine sdo (v:=pA bt1 (ot1+0*11)) A (qk (k:=0) f9 (by kernel_rfl) rfl rfl rfl lt1 hlt) λA=>?_;refine sdo A (zp M Ht1 zv rfl rfl) λA=>?_;refine qt A M rfl rfl (qj rfl rfl rfl (by kernel_rfl) M 0 rfl rfl rfl) 0 rfl rfl rfl ?_;intro _ M;refine qa (ab _ _ (wp_ret (hret _ _ (en1 A rfl (zw M zv rfl 0 rfl (cs:=[iV t1.d.k,iV t1.d.n,bV t1.d.y.q.b1,.slice t1.d.y.o1 t1.d.y.q.t1.length t1.d.y.c1,.slice t1.d.y.o2 t1.d.y.q.q1.length t1.d.y.c2,bV t1.d.y.q.b2,.slice t1.d.y.o3 t1.d.y.q.t2.length t1.d.y.c3,.slice t1.d.y.o4 t1.d.y.q.q2.length t1.d.y.c4,.string t1.d.s,.slice t1.d.ro t1.d.rl.length t1.d.rc,.slice t1.d.lo t1.ts.length t1.d.lc]) rfl rfl) ?_))));exact⟨rfl,M.bel⟩
theorem jzg{w:World}:Calls Tryz.prog 58 #[] w (RB w (.agg (qxc.d.cells qxc.ts.length).toArray)):=by
 have M:=Mg.start w;refine wof Tryz.func58 Tryz.ntmps58 fun Q hret hnorm hP a A=>?_;refine wsr fun _ aa=>zj (vs:=(zb.d.cells zb.ts.length)) (t:=30) A M rfl rfl rfl pg (qm (z:=.agg (zb.d.cells zb.ts.length).toArray) (by kernel_rfl) rfl) (by decide) ?_;intro g2 _ M a A;refine qa (aa _ _ (wsr fun K4 ab=>sdo (v:=.agg #[iV 1,iV 0,bV false,.slice none 0 0,.slice none 0 0,bV false,.slice none 0 0,.slice none 0 0,.string (⟨#[]⟩),.slice none 0 0,.slice none 0 0]) A (qn rfl (fun w=>by kernel_rfl)) λA=>?_));refine qt A M rfl rfl (qj rfl rfl rfl (by kernel_rfl) M 0 rfl rfl rfl) 0 rfl rfl rfl ?_;intro _ M;refine qa (ab _ _ (wp_ret (hret _ _ (en1 A rfl (zw M zv rfl 0 rfl (cs:=[iV 1,iV 0,bV false,.slice none 0 0,.slice none 0 0,bV false,.slice none 0 0,.slice none 0 0,.string (⟨#[]⟩),.slice none 0 0,.slice none 0 0]) rfl rfl) ?_))));exact⟨rfl,M.bel⟩
theorem qtf{w0 w:World}{t:Dt}(h0:Below w0.heap.size w0 w)(ht:t.rd w0)(hs:vi qh t.tr=true)(hb:t.tr.bulk≤1000000000):Calls Tryz.prog 148 #[.agg (t.d.cells t.ts.length).toArray] w fun e w'=>(∃so' ca' xs,e=.returned (.tuple #[.slice so' (xs:List Dt).length ca',iV 0])∧(js t.tr=some (xs.map Dt.tr)∧(∀x∈xs,x.rd w0)∧xs.length≤t.tr.bulk)∧Mg w w' [.row 30 11 (.slice so' xs.length ca') xs.length (cellsOf xs)])∨(e=.returned (.tuple #[.slice none 0 0,iV 10])∧js t.tr=none∧Below w.heap.size w w'):=by
 have M:=Mg.start w;refine wof Tryz.func148 Tryz.ntmps148 fun Q hret hnorm hP a A=>?_;refine wsr fun _ ap=>zj (vs:=(t.d.cells t.ts.length)) (t:=30) A M rfl rfl rfl pg (qx rfl rfl) (by decide) ?_;intro g2 _ M a A;iterate 2 refine sda A λA=>?_
 refine qwr ap fun K4 aq=>sda A λA=>?_;refine qwk aq fun _ ar=>wp_block ?_;replace M:=M.nilRow (qi (by simp) (za zd)) 30 11;refine zg (fun m_ a w1=>∃(p:Dt) (xs:List Dt) (so_:Option Addr) (ca_:Nat),m_=1+p.tr.bulk∧(p.rd w0∧vi qh p.tr=true∧(∀x∈xs,x.rd w0)∧t.tr=zy (xs.map Dt.tr) p.tr∧xs.length+p.tr.bulk≤t.tr.bulk)∧Sl a 21 [(0,.agg (t.d.cells t.ts.length).toArray),(1,pA g2 0),(2,.slice none 0 0),(3,iV 0),(4,.slice so_ xs.length ca_)]∧Mg w w1 (.row 30 11 (.slice so_ xs.length ca_) xs.length (cellsOf xs)::.obj g2 (.cells (p.d.cells p.ts.length).toArray 30)::[])) _ ⟨t,[],none,0,rfl,⟨ht,hs,(fun x h=>by cases h),rfl,(by show 0+t.tr.bulk≤t.tr.bulk; omega)⟩,A.keep _ ⟨rfl,rfl,rfl,rfl,rfl,trivial⟩,M⟩ ?_;clear M A;rintro m_ a w6 ⟨p,xs,so_,ca_,rfl,ac,A,M⟩ _ au;obtain⟨hp,hps,hxs,htl,hbx⟩:=ac;refine wsk fun _ av=>wsr fun _ ae=>sdf A 0 xk λA=>?_;refine sdl A M o93 1 λA=>?_;rcases tf ((p.d.k==8))with aa|aa
 ·have aa':=gr aa;refine sdc A qe aa λA=>?_;refine qct ae A ?_;refine wp_skip (av _ _ (wp_block (wsk fun _ ai=>?_)));have l2p:=(zjc hps aa').1;have hbp:=zpd p;obtain⟨p0,bp0,op0,ip0,mp0,rp0_,lp0,Hp0⟩:=qeh hp (i:=0) (by omega);obtain⟨p1,bp1,op1,ip1,mp1,rp1_,lp1,Hp1⟩:=qeh hp (i:=1) (by omega);replace Hp0:=Hp0.below h0;replace Hp1:=Hp1.below h0;refine wrl (sdm A λA=>?_);refine sdo A (qz M zv rfl 1 rfl (cs:=(p.d.cells p.ts.length)) rfl rfl) λA=>?_;refine gcl A M ec (jgj (Dt.keep M.bel _ (Dt.keep h0 _ hp)) ip0) fun _ _ M a A=>?_;refine jr (e:=30) (sz:=11) (m:=1) (vs:=cellsOf [p0]) A M rfl rfl rfl (qg rfl (by kernel_rfl)) rfl rfl (.inl (by decide)) ?_;intro g15 _ M a A;refine xd (e:=30) (sz:=11) (k:=1) (q:=xs.length) (m:=1) (xs:=cellsOf xs) (news:=cellsOf [p0]) A rfl rfl rfl (yf (z:=.agg #[iV 0,iV 0,bV false,.slice none 0 0,.slice none 0 0,bV false,.slice none 0 0,.slice none 0 0,.string ⟨#[]⟩,.slice none 0 0,.slice none 0 0]) (sz:=11) (by_:=192) f9 (by kernel_rfl) rfl rfl rfl M 1 rfl rfl rfl rfl (vm (M.has 0 rfl)) (qgj [p0]) (by omega)) (fun _=>rfl) ?_;intro aw ax M a A;replace M:Mg w ax (.row 30 11 (.slice (aO g15) 1 1) 1 (cellsOf [p0])::.row 30 11 (aw) ((xs++[p0]).length) (cellsOf (xs++[p0]))::.obj g2 (.cells (p.d.cells p.ts.length).toArray 30)::[]):=by
   rw[yx,fv]; exact M
  obtain⟨af,ag,rfl⟩:=xu (M.has 1 rfl);refine sda A λA=>?_;refine qa (ai _ _ (wrl (sdf A 10 jz λA=>?_)));refine sdl A M ke 2 λA=>?_;refine sdo (v:=pA bp1 (op1+1*11)) A (qk (k:=1) f9 (by kernel_rfl) rfl rfl rfl lp1 (by omega)) λA=>?_;refine sdo A (zp M Hp1 zv rfl rfl) λA=>?_;refine qt A M rfl rfl (qj rfl rfl rfl (by kernel_rfl) M 2 rfl rfl rfl) 2 rfl rfl rfl ?_;intro ay M;refine qa ?_;replace M:Mg w ay (.row 30 11 (.slice af ((xs++[p0]).length) ag) ((xs++[p0]).length) (cellsOf (xs++[p0]))::.obj g2 (.cells (p1.d.cells p1.ts.length).toArray 30)::[]):=by
   have h9:=M.sub (cN (cC (cC (.refl _))));exact h9
  refine au _ _ _ (by have:=qhi mp1; omega) ⟨p1,xs++[p0],af,ag,rfl,⟨rp1_,(qxh hps).2 _ mp1,zpc hxs rp0_,zej htl hps aa' ip0 ip1,by have:=qhi mp1; rw[fv]; simp only[fw,fx]; omega⟩,A.keep _ ⟨rfl,rfl,rfl,rfl,rfl,trivial⟩,M⟩
 ·have aa':=f6 aa;refine sdc A qe aa λA=>?_;refine qcf ae A ?_;refine wp_exit (ar _ _ (wsk fun _ aj=>wsr fun _ ah=>sdf A 0 xk λA=>?_));refine sdl A M o93 1 λA=>?_;rcases tf ((p.d.k != 1))with ab|ab
  ·have ab':=iy.1 ab;refine sdc A zh ab λA=>?_;refine qct ah A ?_;refine wsr fun _ ak=>?_;iterate 2 refine sda A λA=>?_
   refine qa (ak _ _ (wp_ret (hret _ _ (en2 A rfl (qf rfl) (qf rfl) ?_))));exact .inr ⟨rfl,qxj htl aa' ab',M.bel⟩
  ·have ab':=ie.1 ab;refine sdc A zh ab λA=>?_;refine qcf ah A ?_;refine wp_skip (aj _ _ (wsr fun _ am=>sdm A λA=>?_));iterate 2 refine sda A λA=>?_
   refine qa (am _ _ (wp_ret (hret _ _ (en2 A rfl (qf rfl) (qf rfl) ?_))));replace M:Mg w w6 (.row 30 11 (.slice so_ xs.length ca_) xs.length (cellsOf xs)::[]):=by
    have h9:=M.sub (cC (cN (.refl _)));exact h9
   exact .inl ⟨_,_,xs,rfl,⟨qxi htl hps ab',hxs,by omega⟩,M⟩
theorem zdd{w0 w:World}{t:Dt}(h0:Below w0.heap.size w0 w)(ht:t.rd w0)(hs:vi qh t.tr=true)(hb:t.tr.bulk≤1000000000)(h:(js t.tr).isSome=true):Calls Tryz.prog 148 #[.agg (t.d.cells t.ts.length).toArray] w fun e w'=>∃so' ca' xs,e=.returned (.tuple #[.slice so' (xs:List Dt).length ca',iV 0])∧(js t.tr=some (xs.map Dt.tr)∧(∀x∈xs,x.rd w0)∧xs.length≤t.tr.bulk)∧Mg w w' [.row 30 11 (.slice so' xs.length ca') xs.length (cellsOf xs)]:=by
 refine(qtf h0 ht hs hb).mono ?_;rintro e w' (h1|⟨_,h2,_⟩)
 ·exact h1
 ·rw[h2]at h; cases h
theorem zde{w0 w:World}{t:Dt}(h0:Below w0.heap.size w0 w)(ht:t.rd w0)(hs:vi qh t.tr=true)(hb:t.tr.bulk≤1000000000)(h:(js t.tr).isSome=false):Calls Tryz.prog 148 #[.agg (t.d.cells t.ts.length).toArray] w (RB w (.tuple #[.slice none 0 0,iV 10])):=by
 refine(qtf h0 ht hs hb).mono ?_;rintro e w' (⟨_,_,xs,_,h1,_⟩|⟨h1,_,h3⟩)
 ·rw[h1.1]at h; cases h
 ·exact⟨h1,h3⟩
section
variable {F:Fence} {m:Nat} {P:Program} {w0 w w':World} {L:List Ck} {l:List (Nat×Value)} {ops:List Oper} {Q:Exit→Act→World→Prop} {a:Act} {n:Nat} {o:Oper} {rest:List Oper} {d:Nat} {v:Value}
def Sd(a:Act)(n:Nat)(l:List (Nat×Value)):Prop:=Sl { a with defers:=[] } n l
theorem zki(hnd:∀c,o.op≠.defer c)(r:Option Nat)(ρ:Operand→Value):o.semAt r ρ=execOp ρ o:=by
 cases r with
 | none => rfl
 | some k => exact Oper.semAt_some k _ _ hnd
theorem qdb(hF:∀f,F.fn f)(H:Sd a n l)(hg:zf l ops o=true)(hdst:o.dst=some d)(hd:Nat.blt d n=true)(hnd:∀c,o.op≠.defer c)(he:Does P l o w v w')
  (hk:∀a',Sd a' n ((d,v)::l)→a'.defers=a.defers→wpListIn F m P ops.toArray Q rest a' w'):wpListIn F m P ops.toArray Q (o::rest) a w:=by
 unfold wpListIn;rw[gj (show Region.wanted o (yielded ops.toArray a.tmps)=true from H.wanted hg)];refine⟨fun f _=>hF f,?_⟩;rw[zki hnd,he a.eval (fun x u hx=>H.ev hx),Oper.uponIn_value,hdst];exact hk _ (H.put hd v) rfl
theorem joc(hF:∀f,F.fn f)(H:Sd a n l)(hg:zf l ops o=true)(hdst:o.dst=none)(hnd:∀c,o.op≠.defer c)(he:Sets P l o w w')
  (hk:wpListIn F m P ops.toArray Q rest a w'):wpListIn F m P ops.toArray Q (o::rest) a w:=by
 unfold wpListIn;rw[gj (show Region.wanted o (yielded ops.toArray a.tmps)=true from H.wanted hg)];refine⟨fun f _=>hF f,?_⟩;rw[zki hnd,he a.eval (fun x u hx=>H.ev hx),Oper.uponIn_skip,hdst];exact hk
theorem xgh(hF:∀f,F.fn f)(hd0:F.depth=none)(H:Sd a n l)(hg:zf l ops o=true)(hdst:o.dst=some d)(hd:Nat.blt d n=true)(hnd:∀c,o.op≠.defer c){f:FuncId}{vs:List Value}(he:Enters P l o w f vs){R:World→Prop}(hc:CallsIn F (m-1) P f vs.toArray w fun e w'=>e=.returned v∧R w')
  (hk:∀w',R w'→∀a',Sd a' n ((d,v)::l)→a'.defers=a.defers→wpListIn F m P ops.toArray Q rest a' w'):wpListIn F m P ops.toArray Q (o::rest) a w:=by
 unfold wpListIn;rw[gj (show Region.wanted o (yielded ops.toArray a.tmps)=true from H.wanted hg)];refine⟨fun f _=>hF f,?_⟩;rw[zki hnd,he a.eval (fun x u hx=>H.ev hx),Oper.uponIn_enter];refine⟨(fun h=>by rw[hd0]at h; cases h),hc.mono ?_⟩;rintro _ w' ⟨rfl,h⟩;rw[hdst];exact hk w' h _ (H.put hd v) rfl
theorem xgi{c:Code}(I:Nat→Act→World→Prop)(N:Nat)(h0:I N a w)(round:∀k a w,I k a w→c.wpIn F m P (Exit.then (fun a' w'=>∃j,k=j+1∧I j a' w') Q) a w):(Code.loop c).wpIn F m P Q a w:=by
 have key:∀k a w,I k a w→Code.roundsIn F m P c Q (k+1) a w:=by
  intro k
  induction k with
  | zero =>
   intro a w h;refine wpIn_mono (round 0 a w h) (fun e a' w' hq=>?_);cases e with
   | normal => obtain ⟨j, hj, _⟩ := hq; omega
   | _ => exact hq
  | succ k ih =>
   intro a w h;refine wpIn_mono (round (k+1) a w h) (fun e a' w' hq=>?_);cases e with
   | normal =>
    obtain⟨j,hj,hI⟩:=hq;obtain rfl:k=j:=(by omega);exact ih a' w' hI
   | _ => exact hq
 exact wpIn_loop_rounds (N+1) (key N a w h0)
theorem jzh(hF:∀f,F.fn f)(hd0:F.depth=none)(H:Sd a n l)(hg:zf l ops o=true)(hdst:o.dst=some d)(hd:Nat.blt d n=true)(hnd:∀c,o.op≠.defer c){k:Nat}{vs:List Value}(he:∀ρ:Operand→Value,(∀x u,ev l x=some u→ρ x=u)→(execOp ρ o).run P w=(Instr.yield k vs.toArray).run P w){R:Bool→World→Prop}(hy:YieldAt F (m-1) P k vs.toArray w fun e w'=>∃b,e=.returned (bV b)∧R b w')
  (hk:∀b w',R b w'→∀a',Sd a' n ((d,bV b)::l)→a'.defers=a.defers→wpListIn F m P ops.toArray Q rest a' w'):wpListIn F m P ops.toArray Q (o::rest) a w:=by
 obtain⟨fn,tmps,assign,body,h1,h2⟩:=hy;unfold wpListIn;rw[gj (show Region.wanted o (yielded ops.toArray a.tmps)=true from H.wanted hg)];refine⟨fun f _=>hF f,?_⟩;rw[zki hnd,he a.eval (fun x u hx=>H.ev hx),h1,Oper.uponIn_round];refine⟨(fun h=>by rw[hd0]at h; cases h),h2.mono ?_⟩;rintro _ w' ⟨b,rfl,h⟩;rw[hdst];exact hk b w' h _ (H.put hd (bV b)) rfl
theorem zqf{x:Operand}{k:Nat}{args:List Operand}{ts:Array TypeId}{vs:List Value}{dst:Option Tmp}{ty:TypeId}{pos:String}{after:Array Edge}{guard:Option (Nat×Bool)}(hx:ev l x=some (.func (.yield k) #[] #[]))(ha:evs l args=some vs):
  ∀ρ:Operand→Value,(∀x u,ev l x=some u→ρ x=u)→(execOp ρ ⟨dst,.call ⟨.value x,args.toArray,ts⟩,ty,pos,after,guard⟩).run P w=(Instr.yield k vs.toArray).run P w:=fun ρ h=>by
 have e:=zid h args vs ha;simp[execOp,resolve,invoke,h x _ hx,Deferred.ofValue,e]
theorem Sd.sl(h:Sd a n l)(hd:a.defers=[]):Sl a n l:=⟨h.size,h.holds,hd⟩
theorem Sd.ev(h:Sd a n l){x:Operand}{v:Value}(hx:Go.Proofs.YtmnlfahgklnpeaaGreatDoor.G.ev l x=some v):a.eval x=v:=Sl.ev h hx
theorem Sd.keep(h:Sd a n l)(l':List (Nat×Value))(hs:AllIn l l'):Sd a n l':=Sl.keep h l' hs
theorem xgj{f:FuncId}{fn:Func}{c:Code}{args:List Value}{Z:Ending→World→Prop}(hf:P.funcs[f]?=some fn)(hb:fn.body=some c)(hF:F.fn f)(hn:fn.ntmps=n)(hl:Nat.ble args.length n=true)(hs:(args.zipIdx.map fun p=>(p.2,p.1))=l)(hro:F.round=none)
  (h:∀Q:Exit→Act→World→Prop,(∀a w,bodyPost P fn Z .ret a w→Q .ret a w)→(∀a w,bodyPost P fn Z .ret a w→Q .normal a w)→∀a,Sd a n l→a.defers=[]→c.wpIn F m P Q a w):CallsIn F m P f args.toArray w Z:=by
 subst hs;refine callsIn_of_wp hf hb hF (h _ (fun _ _ h=>h) (fun _ _ h=>h) _ ?_ rfl) hro;rw[hn];exact Sl.enter (Nat.le_of_ble_eq_true hl)
theorem jzi{f:FuncId}{fn:Func}{c:Code}{args:List Value}{Z:Ending→World→Prop}(hf:P.funcs[f]?=some fn)(hb:fn.body=some c)(hF:F.fn f)(hn:fn.ntmps=n)(hl:Nat.ble args.length n=true)(hs:(args.zipIdx.map fun p=>(p.2,p.1))=l)(hro:F.round=none)
  (h:∀Q:Exit→Act→World→Prop,(∀a w,bodyPostM F m P fn Z .ret a w→Q .ret a w)→∀a,Sd a n l→a.defers=[]→c.wpIn F m P Q a w):CallsIn F m P f args.toArray w Z:=by
 subst hs;refine callsIn_of_wp_marks hf hb hF (h _ (fun _ _ h=>h) _ ?_ rfl) hro;rw[hn];exact Sl.enter (Nat.le_of_ble_eq_true hl)
theorem qpe{x y:Code}(h:∀K:Act→World→Prop,(∀a w,y.wpIn F m P Q a w→K a w)→x.wpIn F m P (Exit.then K Q) a w):(Code.seq x y).wpIn F m P Q a w:=wpIn_seq (h _ (fun _ _ h=>h))
theorem jod(hF:∀f,F.fn f)(H:Sd a n l)(M:Mg w0 w L)(hg:zf l ops o=true)(hdst:o.dst=some d)(hd:Nat.blt d n=true)(hnd:∀c,o.op≠.defer c){vs:List Value}{t:TypeId}(val:Nat→Value)(he:Does P l o w (val w.heap.size) (w.alloc (.cells vs.toArray t)))(ht:t≠BY)
  (hk:∀g w',Mg w0 w' (.obj g (.cells vs.toArray t)::L)→w.heap.size≤g→g<w'.heap.size→Below w.heap.size w w'→KeepsOthers w w'→∀a',Sd a' n ((d,val g)::l)→a'.defers=a.defers→wpListIn F m P ops.toArray Q rest a' w'):wpListIn F m P ops.toArray Q (o::rest) a w:=
 qdb hF H hg hdst hd hnd he (hk _ _ (M.addObj _ (kj ht)) (gm _) (by simp) ((Below.refl _ w).alloc (gm _) _) (KeepsOthers.alloc _ _))
end
theorem qhc(g:Nat):∀(cs:List Value) (w:World) (o:Nat),KeepsOthers w (w.setCells g o cs)
 | [], w, o => KeepsOthers.refl w
 | c :: cs, w, o => (KeepsOthers.setCell w ⟨g, o, none⟩ c).trans (qhc g cs _ _)
theorem qmg{B:Nat}(g:Nat)(hg:B≤g):∀(cs:List Value) (w:World) (o:Nat),Below B w (w.setCells g o cs)
 | [], w, o => Below.refl _ w
 | c :: cs, w, o => ((Below.refl B w).setCell (p := ⟨g, o, none⟩) hg c).trans (qmg g hg cs _ _)
theorem qre{w w':World}{row:Option Nat}(hg:w.grownBy w' row)(hr:∀r,row=some r→∃o:Obj,w.heap[r]?=some o∧o.isCells=false):Kept (fun _=>True) w w':=⟨hg.size,fun b i v _ hc=>by
 by_cases e:row=some b
 ·obtain⟨o,ho,hn⟩:=hr b e;unfold World.cell? at hc;simp only[ho]at hc;cases o<;>simp_all [Obj.isCells]
 ·exact hg.cell hc (fun k=>e k.symm)⟩
theorem Mg.calm{w0 w w':World}{L:List Ck}{row:Option Nat}(h:Mg w0 w L)(hg:w.grownBy w' row)(hr:∀r,row=some r→w0.heap.size≤r∧∃o:Obj,w.heap[r]?=some o∧o.isCells=false)(hL:∀c∈L,∃g vs t,c=.obj g (.cells vs t)):Mg w0 w' L:=by
 refine⟨h.bel.grown hg h.bel.size (fun k e=>(hr k e).1),fun c hc=>?_,h.dis⟩;obtain⟨g,vs,t,rfl⟩:=hL c hc;have h2:=h.all _ hc;refine⟨h2.1,(hg.block g (Array.getElem?_eq_some_iff.1 h2.2).1 (fun e=>?_)).trans h2.2⟩;obtain⟨_,o,ho,hn⟩:=hr g e.symm;rw[h2.2]at ho;cases ho
 cases hn
theorem Dt.at_true: ∀t:Dt,t.at_ (fun _=>True):=Dt.indT fun d ts ih=>Dt.at_iff.2 ⟨⟨fun _ _ _ _=>trivial,fun _ _ _ _=>trivial,fun _ _ _ _=>trivial,fun _ _ _ _=>trivial,fun _ _ _ _=>trivial⟩,fun _ _ _ _=>trivial,ih⟩
theorem Here.kept{w w':World}{b o:Nat}{cs:List Value}(h:Here w b o cs)(hk:Kept (fun _=>True) w w'):Here w' b o cs:=⟨j8 h.1 hk.1,fun j v hj=>hk.2 _ _ _ trivial (h.2 j v hj)⟩
theorem qzg: Is1 Tryz.prog 28:=⟨⟨_,f9,rfl⟩,by kernel_rfl⟩
theorem qfd: IsS Tryz.prog 30 11:=⟨⟨_,iu⟩,by kernel_rfl⟩
def Al(w:World):Type:={ x:Int×Dt // x.2.rd w }
def xkb{w:World}(x:Al w):Array Value:=#[iV x.1.1,.agg (x.1.2.d.cells x.1.2.ts.length).toArray]
def KpB(n₀ Bs:Nat)(W W':World):Prop:=Below n₀ W W'∧∀v,W.cell? ⟨Bs,0,none⟩=some v→W'.cell? ⟨Bs,0,none⟩=some v
theorem KpB.refl(n₀ Bs:Nat)(W:World):KpB n₀ Bs W W:=⟨Below.refl _ _,fun _ h=>h⟩
theorem KpB.trans{n₀ Bs:Nat}{A B C:World}(h:KpB n₀ Bs A B)(k:KpB n₀ Bs B C):KpB n₀ Bs A C:=⟨h.1.trans k.1,fun v hv=>k.2 v (h.2 v hv)⟩
theorem zxc{wA w0:World}{Bs:Nat}{so:Option Addr}{ca:Nat}{ts:List Dt}(hR:Rt wA so ts)(hD:∀t∈ts,t.rd wA)(hb:Below wA.heap.size wA w0)(hBs:w0.cell? ⟨Bs,0,none⟩=some (.slice so ts.length ca))(hBl:Bs<w0.heap.size)(hl:ts.length≤1000000000)(n:Nat):
  SeqStopsK Fence.wide n Tryz.prog 186 #[pA Bs 0] (xkb (w:=wA)) (KpB wA.heap.size Bs) (fun ys=>ys.map (fun x=>x.1.2)=ts.reverse) (fun _=>True) ts.length w0:=by
 intro l J Jx W hW hJ hJx hY h0;have hF:∀f,Fence.wide.fn f:=fun _=>trivial;rw[List.append_toArray];refine xgj (l:=[(0,.func (.yield l) #[] #[]),(1,pA Bs 0)]) Tryz.func186 rfl trivial rfl rfl rfl rfl ?_;intro Q hret hnorm a H hdf;have hc:W.cell? ⟨Bs,0,none⟩=some (.slice so ts.length ca):=(hW.cell (p:=⟨Bs,0,none⟩) hBl).trans hBs;refine qpe fun _ ab=>wpIn_region_lit ?_;refine qdb (v:=.slice so ts.length ca) hF H rfl rfl rfl (by intro c h; cases h) (ju rfl (vz qzg hc)) fun a H h2=>?_;refine qdb (v:=iV (ts.length:Nat)) hF H rfl rfl rfl (by intro c h; cases h) (qr f9 rfl) fun a H h3=>?_;refine qdb (v:=iV ((ts.length:Int)-1)) hF H rfl rfl rfl (by intro c h; cases h) (qb rfl rfl (ar_sub (in_i64 (by omega) (by omega)))) fun a H h4=>?_;refine qdb (v:=iV ((ts.length:Int)-1)) hF H rfl rfl rfl (by intro c h; cases h) (ji rfl) fun a H h5=>?_;refine wpListIn_nil (ab _ _ (wpIn_block ?_));refine xgi (fun k a W'=>k≤ts.length∧Sd a 19 [(0,.func (.yield l) #[] #[]),(1,pA Bs 0),(3,iV ((k:Int)-1))]∧a.defers=[]∧KpB wA.heap.size Bs W W'∧∃pre,J pre W'∧pre.map (fun x=>x.1.2)=(ts.drop k).reverse) ts.length ⟨gm _,H.keep _ ⟨rfl,rfl,rfl,trivial⟩,by rw[h5,h4,h3,h2,hdf],KpB.refl _ _ _,[],h0,by rw[List.drop_length]; rfl⟩ ?_;rintro k a W' ⟨hk,H,hd,hKp,pre,hJp,hpre⟩;have hc':=hKp.2 _ hc;refine qpe fun K2 aa=>qpe fun _ ac=>wpIn_region_lit ?_;refine qdb (v:=iV ((k:Int)-1)) hF H rfl rfl rfl (by intro c h; cases h) (zr rfl) fun a H h2=>?_;refine qdb (v:=bV (decide ((0:Int)≤(k:Int)-1))) hF H rfl rfl rfl (by intro c h; cases h) (qb rfl rfl zt) fun a H h3=>?_;refine wpListIn_nil (ac _ _ ?_);refine wpIn_cond_split (t:=decide ((0:Int)≤(k:Int)-1)) (H.ev rfl) (fun hq=>?_) (fun hq=>?_)
 ·have hq':=f5 hq;refine wpIn_skip (aa _ _ (qpe fun K4 ae=>wpIn_block (qpe fun _ af=>wpIn_region_lit ?_)));obtain⟨t1,b1,o1,it1,mt1,rt1,lt1,Ht1⟩:=que hR hD (i:=k-1) (by omega);refine qdb (v:=.func (.yield l) #[] #[]) hF H rfl rfl rfl (by intro c h; cases h) (zr rfl) fun a H h4=>?_;refine qdb (v:=iV ((k:Int)-1)) hF H rfl rfl rfl (by intro c h; cases h) (zr rfl) fun a H h5=>?_;refine qdb (v:=.slice so ts.length ca) hF H rfl rfl rfl (by intro c h; cases h) (ju rfl (vz qzg hc')) fun a H h6=>?_;refine qdb (v:=iV ((k:Int)-1)) hF H rfl rfl rfl (by intro c h; cases h) (zr rfl) fun a H h7=>?_;refine qdb (v:=pA b1 (o1+(k-1)*11)) hF H rfl rfl rfl (by intro c h; cases h) (qk (k:=k-1) f9 (by kernel_rfl) rfl rfl (by omega) lt1 (by omega)) fun a H h8=>?_;have hbW:Below wA.heap.size wA W':=(hb.trans (hW.mono hb.size)).trans hKp.1;refine qdb (v:=.agg (t1.d.cells t1.ts.length).toArray) hF H rfl rfl rfl (by intro c h; cases h) (ju rfl (vy qfd _ rfl (fun j v hj=>(hbW.cell Ht1.1).trans (Ht1.2 j v hj)))) fun a H h9=>?_;have hlen:pre.length<ts.length:=by
   have:=j9 List.length hpre;simp only[gy,lm,il]at this;omega
  refine jzh (k:=l) (vs:=[iV ((k:Int)-1),.agg (t1.d.cells t1.ts.length).toArray]) (R:=fun b W2=>(b=true∧J (pre++[⟨((k:Int)-1,t1),rt1⟩]) W2∧KpB wA.heap.size Bs W' W2)∨(b=false∧Jx (pre++[⟨((k:Int)-1,t1),rt1⟩]) W2)) hF rfl H rfl rfl rfl (by intro c h; cases h) (zqf rfl rfl) ?_ ?_
  ·have:=hY pre ⟨((k:Int)-1,t1),rt1⟩ W' hJp hlen;obtain⟨fn,tmps,assign,body,e1,e2⟩:=this;refine⟨fn,tmps,assign,body,e1,e2.mono ?_⟩;rintro e W2 (⟨rfl,h1,h2⟩|⟨rfl,h1⟩)
   ·exact⟨true,rfl,.inl ⟨rfl,h1,h2⟩⟩
   ·exact⟨false,rfl,.inr ⟨rfl,h1⟩⟩
  ·rintro b W2 hR2 a H h10;refine qdb (v:=bV (!b)) hF H rfl rfl rfl (by intro c h; cases h) (ya rfl qaf) fun a H h11=>?_;refine wpListIn_nil (af _ _ ?_);have hdd:a.defers=[]:=(by rw[h11,h10,h9,h8,h7,h6,h5,h4,h3,h2,hd]);rcases hR2 with⟨rfl,ag,aa'⟩|⟨rfl,hJx2⟩
   ·refine wpIn_cond_false (H.ev rfl) (wpIn_skip (ae _ _ (wpIn_region_lit ?_)));refine qdb (v:=iV ((k:Int)-1)) hF H rfl rfl rfl (by intro c h; cases h) (zr rfl) fun a H g1=>?_;refine qdb (v:=iV (((k-1:Nat):Int)-1)) hF H rfl rfl rfl (by intro c h; cases h) (qb rfl rfl (ar_sub ((in_i64 (by omega) (by omega)).trans (by omega)))) fun a H g2=>?_;refine qdb (v:=iV (((k-1:Nat):Int)-1)) hF H rfl rfl rfl (by intro c h; cases h) (ji rfl) fun a H g3=>?_;refine wpListIn_nil ?_;refine⟨k-1,by omega,by omega,H.keep _ ⟨rfl,rfl,rfl,trivial⟩,by rw[g3,g2,g1,hdd],hKp.trans aa',_,ag,?_⟩;rw[j6,hpre,List.drop_eq_getElem_cons (show k-1<ts.length by omega),List.reverse_cons,show k-1+1=k by omega]
    congr 1
    have:=(List.getElem?_eq_some_iff.1 it1).2;rw[this];rfl
   ·refine wpIn_cond_true (H.ev rfl) (wpIn_ret ?_);refine hret _ _ ?_;exact jq (rs:=[]) (vs:=[]) (v:=.tuple #[]) (H.sl hdd) rfl .nil rfl ⟨⟨_,rfl⟩,.inr ⟨_,trivial,hJx2⟩⟩
 ·have hq':=fy hq;refine wpIn_exit ?_;obtain rfl:k=0:=by omega
  refine hnorm _ _ ?_;exact jq (rs:=[]) (vs:=[]) (v:=.tuple #[]) (H.sl (by rw[h3,h2,hd])) rfl .nil rfl ⟨⟨_,rfl⟩,.inl ⟨pre,hpre,hJp⟩⟩
theorem joe{w:World}{so:Option Addr}{k ca:Nat}:Calls Tryz.prog 138 #[.slice so k ca] w fun e w'=>e=.returned (.func (.func 186) #[] #[pA w.heap.size 0])∧w'=w.alloc (.cells #[.slice so k ca] 28):=by
 refine wof Tryz.func138 Tryz.ntmps138 fun Q hret hnorm hP a A=>?_;refine wsr fun _ aa=>kh (v:=pA w.heap.size 0) (w':=w.alloc (.cells #[.slice so k ca] 28)) A rfl rfl rfl (qx (vs:=[.slice so k ca]) rfl rfl) λa A=>?_;refine sda A λA=>?_;refine qa (aa _ _ (wsk (fun _ ab=>wrl ?_)));refine sdo A (qld rfl) λA=>?_;refine sda A λA=>?_;refine qa (ab _ _ (wp_ret (hret _ _ ?_)));exact jq (rs:=[.tmp 2]) A rfl (.cons (qf rfl) .nil) rfl ⟨rfl,rfl⟩
def ZC: List Value:=[iV 0,iV 0,bV false,.slice none 0 0,.slice none 0 0,bV false,.slice none 0 0,.slice none 0 0,.string ⟨#[]⟩,.slice none 0 0,.slice none 0 0]
theorem zqg{g1 g2:Nat}{v1 v2:Array Value}{t:TypeId}:∀c∈[Ck.obj g1 (.cells v1 t),Ck.obj g2 (.cells v2 t)],∃g vs t,c=Ck.obj g (.cells vs t):=by
 intro c hc;simp only[ik,List.not_mem_nil,or_false]at hc;rcases hc with rfl|rfl
 ·exact⟨_,_,_,rfl⟩
 ·exact⟨_,_,_,rfl⟩
def LinkI(w:World)(g3 g4:Nat)(u:Tr)(pre:List (Al w))(W:World):Prop:=∃z:Dt,Mg w W [.obj g4 (.cells ZC.toArray 30),.obj g3 (.cells (z.d.cells z.ts.length).toArray 30)]∧z.rd W∧z.at_ (fun b=>b≠g3∧b≠g4)∧z.tr=zy ((pre.map (fun x=>x.1.2.tr)).reverse) u
theorem jha(w:World)(g3 g4:Nat)(u:Tr)(B:Nat)(hB:w.heap.size≤B):OwnFrom B (LinkI w g3 g4 u):=by
 rintro pre W W' row ⟨z,M,hr,ha,ht⟩ hg hrow;exact⟨z,M.calm hg (fun r e=>⟨gz hB (hrow r e).1,(hrow r e).2⟩) zqg,Dt.kept (qre hg (fun r e=>(hrow r e).2)) _ hr (Dt.at_true _),ha,ht⟩
theorem zxd{w:World}{so:Option Addr}{ca:Nat}{ts:List Dt}{u:Dt}(hR:Rt w so ts)(hD:∀t∈ts,t.rd w)(hu:u.rd w)(hl:ts.length≤1000000000):Calls Tryz.prog 92 #[.slice so ts.length ca,.agg (u.d.cells u.ts.length).toArray] w fun e w'=>∃t2:Dt,e=.returned (.agg (t2.d.cells t2.ts.length).toArray)∧(t2.rd w'∧t2.tr=zy (ts.map Dt.tr) u.tr)∧Below w.heap.size w w':=by
 refine(callsIn_wide (n:=5)).1 ?_;have hF:∀f,Fence.wide.fn f:=fun _=>trivial;refine jzi (l:=[(0,.slice so ts.length ca),(1,.agg (u.d.cells u.ts.length).toArray)]) Tryz.func92 rfl trivial rfl rfl rfl rfl ?_;intro Q hret a A hdf;have M:Mg w w []:=Mg.start w;refine qpe fun _ ak=>wpIn_region_lit ?_;refine jod (vs:=u.d.cells u.ts.length) (t:=30) hF A M rfl rfl rfl (by intro c h; cases h) pg (qx rfl rfl) (by decide) ?_;intro g3 W1 M hg3 hg3' hB1 _ a A h2;refine jod (vs:=ZC) (t:=30) hF A M rfl rfl rfl (by intro c h; cases h) pg (qm (z:=.agg ZC.toArray) (by kernel_rfl) rfl) (by decide) ?_;intro g4 W2 M hg4 hg4' hB2 _ a A h3;refine wpListIn_nil (ak _ _ (qpe fun _ am=>qpe fun _ ap=>wpIn_region_lit ?_));refine qdb (v:=.slice so ts.length ca) hF A rfl rfl rfl (by intro c h; cases h) (zr rfl) fun a A h4=>?_;refine xgh (R:=fun W3=>W3=W2.alloc (.cells #[.slice so ts.length ca] 28)) hF rfl A rfl rfl rfl (by intro c h; cases h) ec (callsIn_wide.2 joe) ?_;rintro W3 hW3 a A h5;refine wpListIn_nil (ap _ _ (wpIn_block ?_));have hB3:Below W2.heap.size W2 W3:=hW3▸(Below.refl _ W2).alloc (gm _) _;have hs3:W3.heap.size=W2.heap.size+1:=by rw[hW3]; simp
 have aq:W3.cell? ⟨W2.heap.size,0,none⟩=some (.slice so ts.length ca):=by
  rw[hW3,cell_of_row _ _ _ _ _ _ (heap_alloc_new W2 _)]; rfl
 replace M:=M.call hB3;have hw2:w.heap.size≤W2.heap.size:=by omega
 have hur:u.rd W3:=Dt.keep M.bel _ hu;have hua:u.at_ (fun b=>b≠g3∧b≠g4):=Dt.at_mono (fun b hb=>by constructor<;>omega) _ (Dt.at_lt _ hu);refine wpIn_rangeFunc_ownH (F:=Fence.wide) rfl (by decide) (gf:=186) (lb:=#[pA W2.heap.size 0]) (A.ev rfl) trivial (fun us w=>by kernel_rfl)
  (zxc hR hD M.bel aq (by omega) hl _) KpB.trans ?hkb (Below.refl _ _) (fun _=>rfl)
  (LinkI w g3 g4 u.tr) (fun _ _ _=>False) (jha w g3 g4 u.tr _ (by omega)) (fun _ _ _ _ _ hs _ _=>hs)
  ⟨u,M,hur,hua,rfl⟩
  (fun x a' W=>∃Bx,Sd a' 16 [(3,pA g3 0),(4,pA g4 0),(6,pA Bx 0)]∧Here W Bx 0 (x.1.2.d.cells x.1.2.ts.length))
  (fun x a' _ X Y row hs hg hr=>by obtain⟨Bx,h1,h2⟩:=hs; exact⟨Bx,h1,h2.kept (qre hg (fun r e=>(hr r e).2))⟩)
  ?assign ?body ?done ?stop
 case hkb=>
  intro W l o o' ar au _ _;refine⟨⟨rfl,rfl,rfl,(grownBy_putObj' W l o').size,fun k hk=>?_⟩,fun v hv=>?_⟩
  ·by_cases av:k<W.heap.size
   ·exact(grownBy_putObj' W l o').block k av (fun e=>by cases e; omega)
   ·have:=(Array.getElem?_eq_some_iff.1 au).1; omega
  ·exact(grownBy_putObj' W l o').cell hv (fun e=>by have e':W2.heap.size=l:=io e; omega)
 case assign=>
  rintro l pre x W K ⟨z,hMz,hrz,haz,htz⟩ hK;have hA1:Sd { tmps:=(a.tmps.setIfInBounds 9 (iV x.1.1)).setIfInBounds 10 (.agg (x.1.2.d.cells x.1.2.ts.length).toArray),defers:=[] } 16 _:=Sl.put (Sl.put A (d:=9) rfl (iV x.1.1)) (d:=10) rfl (.agg (x.1.2.d.cells x.1.2.ts.length).toArray);have hF2:∀f,(Fence.wide.inRound l).fn f:=fun _=>trivial;have hxr:x.1.2.rd W:=Dt.keep hMz.bel _ x.2;simp only[xkb,List.zip_toArray,List.zip_cons_cons,List.zip_nil_left,List.zip_nil_right,List.foldl_toArray',List.foldl_toArray,List.foldl_cons,List.foldl_nil];refine wpIn_region_lit ?_;refine jod (a:={ tmps:=(a.tmps.setIfInBounds 9 (iV x.1.1)).setIfInBounds 10 (.agg (x.1.2.d.cells x.1.2.ts.length).toArray),defers:=[] }) (vs:=ZC) (t:=30) hF2 hA1 hMz rfl rfl rfl (by intro c h; cases h) pg (qm (z:=.agg ZC.toArray) (by kernel_rfl) rfl) (by decide) ?_;intro Bx W6 ab hBx hBx' hB6 ah a6 hA6 _;refine joc (w':=W6.setCells Bx 0 (x.1.2.d.cells x.1.2.ts.length)) hF2 hA6 rfl rfl (by intro c h; cases h) (qj rfl rfl rfl (by kernel_rfl) ab 0 rfl rfl (qej x.1.2)) ?_;have ac:Mg w (W6.setCells Bx 0 (x.1.2.d.cells x.1.2.ts.length)) (.obj Bx (.cells (x.1.2.d.cells x.1.2.ts.length).toArray 30)::[.obj g4 (.cells ZC.toArray 30),.obj g3 (.cells (z.d.cells z.ts.length).toArray 30)]):=Mg.puts (x.1.2.d.cells x.1.2.ts.length) W6 _ ZC 0 ab 0 rfl;have hkp:Kept (· ≠ Bx) W6 (W6.setCells Bx 0 (x.1.2.d.cells x.1.2.ts.length)):=qei _ _ _ _;have hks:=ah.trans (qhc Bx (x.1.2.d.cells x.1.2.ts.length) W6 0);have hsW:=hMz.bel.size;have hbs:=(hB6.mono hsW).trans (qmg (B:=w.heap.size) Bx (by omega) (x.1.2.d.cells x.1.2.ts.length) W6 0);revert hkp ac hks hbs;generalize W6.setCells Bx 0 (x.1.2.d.cells x.1.2.ts.length)=W7;intro ac hkp hks hbs
  refine wpListIn_nil (hK _ _ (hks.from _) ⟨hbs,fun v hv=>hkp.2 _ _ _ (show W2.heap.size≠Bx by have:=cell_lt hv; omega) ((hB6.cell (p:=⟨W2.heap.size,0,none⟩) (cell_lt hv)).trans hv)⟩ ⟨z,ac.sub (cN (.refl _)),Dt.kept hkp _ (Dt.keep hB6 _ hrz) (Dt.at_mono (fun b hb=>by intro e; omega) _ (Dt.at_lt _ hrz)),haz,htz⟩ ⟨Bx,hA6.keep _ ⟨rfl,rfl,rfl,trivial⟩,(Array.getElem?_eq_some_iff.1 (ac.obj 0 rfl)).1,fun j v hj=>by rw[Nat.zero_add]; exact ac.cell 0 rfl j hj⟩)
 case body=>
  rintro l pre x a' W ar _ ⟨z,hMz,hrz,haz,htz⟩ ⟨Bx,A,hH⟩ _;have hF2:∀f,(Fence.wide.inRound l).fn f:=fun _=>trivial;have hxr:x.1.2.rd W:=Dt.keep hMz.bel _ x.2;refine wpIn_block (wpIn_region_lit ?_);refine qdb (v:=.agg (x.1.2.d.cells x.1.2.ts.length).toArray) hF2 A rfl rfl rfl (by intro c h; cases h) (ju rfl (vy qfd _ rfl (fun j v hj=>by have:=hH.2 j v hj; rwa [Nat.zero_add]at this ⊢))) fun a A h6=>?_;refine qdb (v:=.agg (z.d.cells z.ts.length).toArray) hF2 A rfl rfl rfl (by intro c h; cases h) (qz hMz qfd rfl 1 rfl (cs:=z.d.cells z.ts.length) rfl rfl) fun a A h7=>?_;refine qdb (v:=.slice (some ⟨W.heap.size,0,none⟩) 2 2) (w':=W.alloc (.cells (cellsOf [x.1.2,z]).toArray 30)) hF2 A rfl rfl rfl (by intro c h; cases h) (qg rfl (by kernel_rfl)) fun a A h8=>?_;obtain⟨z2,af⟩:∃z2:Dt,z2=yk W.heap.size x.1.2 z:=⟨_,rfl⟩;refine qdb (v:=.agg (z2.d.cells z2.ts.length).toArray) hF2 A rfl rfl rfl (by intro c h; cases h) (by rw[af,zpe]; exact qn rfl (fun w=>by kernel_rfl)) fun a A h9=>?_;have hB4:Below W.heap.size W (W.alloc (.cells (cellsOf [x.1.2,z]).toArray 30)):=(Below.refl _ W).alloc (gm _) _;have ag:=hMz.call hB4;have hnew:=heap_alloc_new W (.cells (cellsOf [x.1.2,z]).toArray 30);have ai:KeepsOthers W (W.alloc (.cells (cellsOf [x.1.2,z]).toArray 30)):=KeepsOthers.alloc _ _;have hs4:(W.alloc (.cells (cellsOf [x.1.2,z]).toArray 30)).heap.size=W.heap.size+1:=by simp
  have hg3W:g3<W.heap.size:=(Ck.lt (hMz.has 1 rfl) g3 rfl).2;have hg4W:g4<W.heap.size:=(Ck.lt (hMz.has 0 rfl) g4 rfl).2;have hsW:=hMz.bel.size;revert hB4 ag hnew ai hs4;generalize W.alloc (.cells (cellsOf [x.1.2,z]).toArray 30)=W4;intro hB4 ag hnew ai hs4;refine joc (w':=W4.setCells g3 0 (z2.d.cells z2.ts.length)) hF2 A rfl rfl (by intro c h; cases h) (qj rfl rfl rfl (by kernel_rfl) ag 1 rfl rfl (qej z2)) ?_;refine wpListIn_nil ?_;have hkp:Kept (· ≠ g3) W4 (W4.setCells g3 0 (z2.d.cells z2.ts.length)):=qei _ _ _ _;have aa:Mg w (W4.setCells g3 0 (z2.d.cells z2.ts.length)) [.obj g4 (.cells ZC.toArray 30),.obj g3 (.cells (z2.d.cells z2.ts.length).toArray 30)]:=Mg.puts (z2.d.cells z2.ts.length) W4 _ (z.d.cells z.ts.length) 0 ag 1 rfl;have aj:x.1.2.rd (W4.setCells g3 0 (z2.d.cells z2.ts.length)):=Dt.keep aa.bel _ x.2;have ae:z.rd (W4.setCells g3 0 (z2.d.cells z2.ts.length)):=Dt.kept hkp _ (Dt.keep hB4 _ hrz) (Dt.at_mono (fun b hb=>hb.1) _ haz);have hxa:x.1.2.at_ (fun b=>b≠g3∧b≠g4):=Dt.at_mono (fun b hb=>by constructor<;>omega) _ (Dt.at_lt _ x.2);have hks:=ai.trans (qhc g3 (z2.d.cells z2.ts.length) W4 0);have hbs:=(hB4.mono hsW).trans (qmg (B:=w.heap.size) g3 (by omega) (z2.d.cells z2.ts.length) W4 0);revert hkp aa aj ae hks hbs;generalize W4.setCells g3 0 (z2.d.cells z2.ts.length)=W5;intro hkp aa aj ae hks hbs;refine⟨hks.from _,⟨hbs,fun v hv=>hkp.2 _ _ _ (show W2.heap.size≠g3 by omega) ((hB4.cell (p:=⟨W2.heap.size,0,none⟩) (cell_lt hv)).trans hv)⟩,z2,aa,?_,?_,?_⟩
  ·rw[af];refine zpg (by have:=hkp.1; omega) (fun p v hp=>hkp.2 _ _ _ (show W.heap.size≠g3 by omega) ?_) aj ae;rw[cell_of_row _ _ _ _ _ _ hnew];simpa using hp
  ·rw[af];exact qya ⟨by omega,by omega⟩ hxa haz
  ·rw[af,zpf,j6,List.reverse_append];show Tr.mk 8 0 Q6.zero ⟨#[]⟩ [] [x.1.2.tr,z.tr]=zy (x.1.2.tr::_) u.tr;rw[htz];rfl
 case done=>
  rintro D xs W hD1 S ⟨z,hMz,hrz,haz,htz⟩ hDf;have hA2:Sd { a with defers:={ target:=.collected D,args:=#[] }::a.defers } 16 _:=A;revert hA2;generalize hae:({ a with defers:={ target:=.collected D,args:=#[] }::a.defers }:Act)=a2;intro hA2;have had:a2.defers=[{ target:=.collected D,args:=#[] }]:=by rw[←hae]; show _::a.defers=_; rw[h5,h4,h3,h2,hdf]
  refine am _ _ (qpe fun _ ah=>wpIn_region_lit ?_);refine qdb (v:=.agg (z.d.cells z.ts.length).toArray) hF hA2 rfl rfl rfl (by intro c h; cases h) (qz hMz qfd rfl 1 rfl (cs:=z.d.cells z.ts.length) rfl rfl) fun a3 hA3 h6=>?_;refine joc (w':=W.setCells g4 0 (z.d.cells z.ts.length)) hF hA3 rfl rfl (by intro c h; cases h) (qj rfl rfl rfl (by kernel_rfl) hMz 0 rfl rfl (qej z)) ?_;have aa:Mg w (W.setCells g4 0 (z.d.cells z.ts.length)) [.obj g4 (.cells (z.d.cells z.ts.length).toArray 30),.obj g3 (.cells (z.d.cells z.ts.length).toArray 30)]:=Mg.puts (z.d.cells z.ts.length) W _ ZC 0 hMz 0 rfl;have ae:z.rd (W.setCells g4 0 (z.d.cells z.ts.length)):=Dt.kept (qei _ _ _ _) _ hrz (Dt.at_mono (fun b hb=>hb.2) _ haz);have hD5:=(qhc g4 (z.d.cells z.ts.length) W 0).same D _ hDf rfl;have hgr:=grownBy_putObj' (W.setCells g4 0 (z.d.cells z.ts.length)) D (.deferred none);have ab:=aa.calm hgr (fun r e=>by cases e; exact⟨by omega,_,hD5,rfl⟩) zqg;have aw:=Dt.kept (qre hgr (fun r e=>by cases e; exact⟨_,hD5,rfl⟩)) _ ae (Dt.at_true _);refine wpListIn_nil (ah _ _ (wpIn_ret (hret _ _ ?_)));show LeavesInM _ _ _ _ _ _ a3.defers .returning _;rw[h6,had];refine⟨by simp,.inl ⟨D,_,rfl,run_takeDeferred hD5,?_⟩⟩;have hfin:(fun(e:Ending) (w':World)=>∃t2:Dt,e=.returned (.agg (t2.d.cells t2.ts.length).toArray)∧(t2.rd w'∧t2.tr=zy (ts.map Dt.tr) u.tr)∧Below w.heap.size w w') (.returned (.agg (z.d.cells z.ts.length).toArray)) ((W.setCells g4 0 (z.d.cells z.ts.length)).putObj D (.deferred none)):=by
   refine⟨z,rfl,⟨aw,?_⟩,ab.bel⟩;rw[htz];have e1:xs.map (fun x=>x.1.2.tr)=(xs.map (fun x=>x.1.2)).map Dt.tr:=(by rw[List.map_map]; rfl);rw[e1,show xs.map (fun x=>x.1.2)=ts.reverse from S,List.map_reverse,List.reverse_reverse]
  exact(jq (P:=Tryz.prog) (fn:=Tryz.f92) (Z:=(fun(e:Ending) (w':World)=>∃t2:Dt,e=.returned (.agg (t2.d.cells t2.ts.length).toArray)∧(t2.rd w'∧t2.tr=zy (ts.map Dt.tr) u.tr)∧Below w.heap.size w w')) (v:=.agg (z.d.cells z.ts.length).toArray) (rs:=[.cell 4 30]) (vs:=[.agg (z.d.cells z.ts.length).toArray]) hA3 rfl (.cons (zw ab qfd rfl 0 rfl (cs:=z.d.cells z.ts.length) rfl rfl) .nil) rfl hfin).2
 case stop=>
  rintro D c pre W _ _ h _;exact h.elim
theorem qmh{w:World}{so:Option Addr}{ca:Nat}{ts:List Dt}(hR:Rt w so ts)(hD:∀t∈ts,t.rd w)(hl:ts.length≤1000000000)(hT:Tabs8 w){b:Bool}(h:(ts.all fun t=>qs qh t.tr)=b):Calls Tryz.prog 147 #[.slice so ts.length ca] w (RB w (bV b)):=h▸zkd hR hD hl hT
theorem qpf{w:World}{so:Option Addr}{ca:Nat}{t:Dt}(hR:Rt w so [t])(ht:t.rd w)(hT:Tabs8 w){b:Bool}(h:qs qh t.tr=b):Calls Tryz.prog 147 #[.slice so 1 ca] w (RB w (bV b)):=
 qmh (ts:=[t]) hR (fun u hu=>by rw[iq.1 hu]; exact ht) (by simp) hT (by rw[List.all_cons,List.all_nil,Bool.and_true]; exact h)
theorem qmi{w0 w:World}{t:Dt}(h0:Below w0.heap.size w0 w)(ht0:t.rd w0){so:Option Addr}{ca:Nat}{ts:List Dt}(hR:Rt w so ts)(hD:∀t∈ts,t.rd w)(hl:ts.length≤1000000000)(hb:t.tr.bulk≤1000000000)(hT:Tabs8 w):Calls Tryz.prog 106 #[.agg (t.d.cells t.ts.length).toArray,.slice so ts.length ca] w fun e w'=>(∃so' ca' ys,e=.returned (.tuple #[.slice so' (ys:List Dt).length ca',iV 0])∧((qs qh t.tr&&(ts.all fun t=>qs qh t.tr))=true∧js t.tr=some (ys.map Dt.tr)∧(∀x∈ys,x.rd w0)∧ys.length≤t.tr.bulk)∧Mg w w' [.row 30 11 (.slice so' ys.length ca') ys.length (cellsOf ys)])∨(e=.returned (.tuple #[.slice none 0 0,iV 10])∧((qs qh t.tr&&(ts.all fun t=>qs qh t.tr))=true∧js t.tr=none)∧Below w.heap.size w w')∨(e=.returned (.tuple #[.slice none 0 0,iV 2])∧(qs qh t.tr&&(ts.all fun t=>qs qh t.tr))=false∧Below w.heap.size w w'):=by
 have ht:=Dt.keep h0 _ ht0;have M:=Mg.start w;refine wof Tryz.func106 Tryz.ntmps106 fun Q hret hnorm hP a A=>?_;refine wsr fun _ ai=>zj (vs:=(t.d.cells t.ts.length)) (t:=30) A M rfl rfl rfl pg (qx rfl rfl) (by decide) ?_;intro g2 _ M a A;iterate 2 refine sda A λA=>?_
 refine qa (ai _ _ (wsk fun K4 aj=>wsr fun _ af=>sdo A (qz M zv rfl 0 rfl (cs:=(t.d.cells t.ts.length)) rfl rfl) λA=>?_));refine jr (e:=30) (sz:=11) (m:=1) (vs:=cellsOf [t]) A M rfl rfl rfl (qg rfl (by kernel_rfl)) rfl rfl (.inl (by decide)) ?_;intro g6 _ M a A;rcases tf (qs qh t.tr)with ab|ab
 ·refine gcl A M ec (qpf (kv (M.has 0 rfl)).1 (Dt.keep M.bel _ ht) (hT.below M.bel) ab) fun _ _ M a A=>?_;refine sdu A λA=>?_;iterate 2 refine sdm A λA=>?_
  rcases tf ((ts.all fun t=>qs qh t.tr))with aa|aa
  ·refine gcl A M ec (qmh (hR.below M.bel) (fun t ht=>Dt.keep M.bel _ (hD t ht)) hl (hT.below M.bel) aa) fun _ _ M a A=>?_;refine sdu A λA=>?_;refine sdk (v:=bV false) A λA=>?_;refine qcf af A ?_;refine wp_skip (aj _ _ (wsr fun _ ae=>sdo A (qz M zv rfl 1 rfl (cs:=(t.d.cells t.ts.length)) rfl rfl) λA=>?_));rcases tf ((js t.tr).isSome)with ac|ac
   ·refine sct A ec (zdd (h0.trans (M.bel.mono h0.size)) ht0 (qkc ab) hb ac) ?_;rintro _ ak ⟨am,ap,ys,rfl,⟨hy1,hy2,hy3⟩,aq⟩;replace M:=(M.both aq (qi (by simp) (qi (by simp) (za zd))) (qi (by simp) (za zd)));refine⟨_,rfl,?_⟩;intro a A;iterate 2 refine sde A λA=>?_
    iterate 2 refine sda A λA=>?_
    refine qa (ae _ _ (wp_ret (hret _ _ (en2 A rfl (qf rfl) (qf rfl) ?_))));replace M:Mg w ak (.row 30 11 (.slice am ys.length ap) ys.length (cellsOf ys)::[]):=by
     have h9:=M.sub (cC (cN (cN (.refl _))));exact h9
    exact .inl ⟨_,_,ys,rfl,⟨(by rw[ab,aa]; rfl),hy1,hy2,hy3⟩,M⟩
   ·refine gcl A M ec (zde (h0.trans (M.bel.mono h0.size)) ht0 (qkc ab) hb ac) fun _ _ M a A=>?_;iterate 2 refine sde A λA=>?_
    iterate 2 refine sda A λA=>?_
    refine qa (ae _ _ (wp_ret (hret _ _ (en2 A rfl (qf rfl) (qf rfl) ?_))));exact .inr (.inl ⟨rfl,⟨(by rw[ab,aa]; rfl),Option.isSome_eq_false_iff.1 ac |> Option.isNone_iff_eq_none.1⟩,M.bel⟩)
  ·refine gcl A M ec (qmh (hR.below M.bel) (fun t ht=>Dt.keep M.bel _ (hD t ht)) hl (hT.below M.bel) aa) fun _ _ M a A=>?_;refine sdu A λA=>?_;refine sdk (v:=bV true) A λA=>?_;refine qct af A ?_;refine wsr fun _ ag=>?_;iterate 2 refine sda A λA=>?_
   refine qa (ag _ _ (wp_ret (hret _ _ (en2 A rfl (qf rfl) (qf rfl) ?_))));exact .inr (.inr ⟨rfl,by rw[ab,aa]; rfl,M.bel⟩)
 ·refine gcl A M ec (qpf (kv (M.has 0 rfl)).1 (Dt.keep M.bel _ ht) (hT.below M.bel) ab) fun _ _ M a A=>?_;refine sdu A λA=>?_;refine sdm A λA=>?_;iterate 3 refine sks A λA=>?_
  refine sdk (v:=bV true) A λA=>?_;refine qct af A ?_;refine wsr fun _ ah=>?_;iterate 2 refine sda A λA=>?_
  refine qa (ah _ _ (wp_ret (hret _ _ (en2 A rfl (qf rfl) (qf rfl) ?_))));exact .inr (.inr ⟨rfl,by rw[ab]; rfl,M.bel⟩)
theorem zxe{w0 w:World}{t:Dt}(h0:Below w0.heap.size w0 w)(ht:t.rd w0)(hb:t.tr.bulk≤1000000000)(hT:Tabs8 w)(hs:qs qh t.tr=true)(h:(js t.tr).isSome=true):Calls Tryz.prog 106 #[.agg (t.d.cells t.ts.length).toArray,.slice none 0 0] w fun e w'=>∃so' ca' ys,e=.returned (.tuple #[.slice so' (ys:List Dt).length ca',iV 0])∧(js t.tr=some (ys.map Dt.tr)∧(∀x∈ys,x.rd w0)∧ys.length≤t.tr.bulk)∧Mg w w' [.row 30 11 (.slice so' ys.length ca') ys.length (cellsOf ys)]:=by
 refine(qmi (ts:=[]) h0 ht (so:=none) (ca:=0) (fun k=>absurd rfl k) (fun t h=>by cases h) (by decide) hb hT).mono ?_;rintro e w' (⟨so',ca',ys,h1,h2,h3⟩|⟨_,h2,_⟩|⟨_,h2,_⟩)
 ·exact⟨so',ca',ys,h1,h2.2,h3⟩
 ·rw[h2.2]at h; cases h
 ·rw[hs]at h2; cases h2
theorem zxf{w0 w:World}{t:Dt}(h0:Below w0.heap.size w0 w)(ht:t.rd w0)(hb:t.tr.bulk≤1000000000)(hT:Tabs8 w)(hs:qs qh t.tr=true)(h:(js t.tr).isSome=false):Calls Tryz.prog 106 #[.agg (t.d.cells t.ts.length).toArray,.slice none 0 0] w (RB w (.tuple #[.slice none 0 0,iV 10])):=by
 refine(qmi (ts:=[]) h0 ht (so:=none) (ca:=0) (fun k=>absurd rfl k) (fun t h=>by cases h) (by decide) hb hT).mono ?_;rintro e w' (⟨so',ca',ys,h1,h2,h3⟩|⟨h1,h2,h3⟩|⟨_,h2,_⟩)
 ·rw[h2.2.1]at h; cases h
 ·exact⟨h1,h3⟩
 ·rw[hs]at h2; cases h2
theorem jhb{w0 w:World}{t:Dt}(h0:Below w0.heap.size w0 w)(ht:t.rd w0)(hb:t.tr.bulk≤1000000000)(hT:Tabs8 w)(hs:qs qh t.tr=false):Calls Tryz.prog 106 #[.agg (t.d.cells t.ts.length).toArray,.slice none 0 0] w (RB w (.tuple #[.slice none 0 0,iV 2])):=by
 refine(qmi (ts:=[]) h0 ht (so:=none) (ca:=0) (fun k=>absurd rfl k) (fun t h=>by cases h) (by decide) hb hT).mono ?_;rintro e w' (⟨so',ca',ys,h1,h2,h3⟩|⟨h1,h2,h3⟩|⟨h1,h2,h3⟩)
 ·rw[hs]at h2; cases h2.1
 ·rw[hs]at h2; cases h2.1
 ·exact⟨h1,h3⟩
theorem zqh{w:World}{so:Option Addr}{ca:Nat}{ts:List Dt}(hR:Rt w so ts)(hD:∀t∈ts,t.rd w){u:Dt}(hu:u.rd w)(hb:Tr.bulks (ts.map Dt.tr)+u.tr.bulk≤400000000)(hT:Tabs8 w):Calls Tryz.prog 57 #[.slice so ts.length ca,.agg (u.d.cells u.ts.length).toArray] w fun e w'=>∃(t2:Dt) (k:Int),e=.returned (.tuple #[.agg (t2.d.cells t2.ts.length).toArray,iV k])∧(t2.rd w'∧t2.at_ (w.heap.size≤·)∧(t2.tr,k)=fitS (ts.map Dt.tr) u.tr)∧Below w.heap.size w w':=by
 have hbl:=yj ts;have M:=Mg.start w;refine wof Tryz.func57 Tryz.ntmps57 fun Q hret hnorm hP a A=>?_;refine wsr fun _ av=>zj (vs:=(u.d.cells u.ts.length)) (t:=30) A M rfl rfl rfl pg (qx rfl rfl) (by decide) ?_;intro g2 _ M a A;refine zj (vs:=(zb.d.cells zb.ts.length)) (t:=30) A M rfl rfl rfl pg (qm (z:=.agg (zb.d.cells zb.ts.length).toArray) (by kernel_rfl) rfl) (by decide) ?_;intro g4 _ M a A;refine sda A λA=>?_;refine qwk av fun _ aw=>wsr fun _ au=>sdm A λA=>?_;refine sdo A (qr f9 rfl) λA=>?_;rcases tf (decide (20000<((ts.length:Nat):Int)))with ab|ab
 ·have ab':=f5 ab;refine sdc A jh ab λA=>?_;refine qct au A ?_;refine wsr fun _ ax=>sdo (v:=.agg (zb.d.cells zb.ts.length).toArray) A (qn rfl (fun w=>by kernel_rfl)) λA=>?_;refine qt A M rfl rfl (qj rfl rfl rfl (by kernel_rfl) M 0 rfl rfl rfl) 0 rfl rfl rfl ?_;intro _ M;refine sda A λA=>?_;refine qa (ax _ _ (wp_ret (hret _ _ (en2 A rfl (zw M zv rfl 0 rfl (cs:=zD) rfl rfl) (qf rfl) ?_))));exact⟨zb,4,rfl,⟨qxe _,zpa _,by rw[jgh (by rw[gy]; omega),qxd]⟩,M.bel⟩
 ·have ab':=fy ab;refine sdc A jh ab λA=>?_;refine qcf au A ?_;refine wp_skip (aw _ _ (wsr fun _ ag=>sdm A λA=>?_));refine sdo A (qz M zv rfl 1 rfl (cs:=(u.d.cells u.ts.length)) rfl rfl) λA=>?_;have _:=(Ck.lt (M.has 0 rfl) g4 rfl).2;have _:=(Ck.lt (M.has 1 rfl) g2 rfl).2;have hzt3:=M.bel.size;refine sct A ec (zxd (hR.below M.bel) (fun t ht=>Dt.keep M.bel _ (hD t ht)) (Dt.keep M.bel _ hu) (by omega)) ?_;rintro _ _ ⟨t3,rfl,⟨hrt3,htt3⟩,ah⟩;replace M:=M.call ah;refine⟨_,rfl,?_⟩;intro a A;refine zjb (vs:=(zb.d.cells zb.ts.length)) (t:=30) A M rfl rfl rfl pg (qm (z:=.agg (zb.d.cells zb.ts.length).toArray) (by kernel_rfl) rfl) (by decide) ?_;intro g16 _ M hg18 ai a A;have hnt3g16:=Dt.at_mono (q:=(· ≠ g16)) (fun b hb=>by intro e; omega) _ (Dt.at_lt _ hrt3);replace hrt3:=Dt.keep ai _ hrt3;refine ky A M rfl rfl (qj rfl rfl rfl (by kernel_rfl) M 0 rfl rfl rfl) 0 rfl rfl rfl ?_;intro _ M aj;replace hrt3:=Dt.kept aj _ hrt3 hnt3g16;refine qa (ag _ _ (wsk fun _ ak=>wsr fun _ ac=>sdo A (qz M zv rfl 0 rfl (cs:=(t3.d.cells t3.ts.length)) rfl rfl) λA=>?_));rcases tf (qs qh t3.tr)with aa|aa
  ·refine sct A ec ((aa▸sound_any (t:=t3) hrt3 (hT.below M.bel))) ?_;rintro _ _ ⟨rfl,ae⟩;replace hrt3:=Dt.keep ae _ hrt3;replace M:=M.call ae;refine⟨_,rfl,?_⟩;intro a A;refine sdu A λA=>?_;refine qcf ac A ?_;refine wp_skip (ak _ _ (wsr fun _ am=>sdo A (qz M zv rfl 0 rfl (cs:=(t3.d.cells t3.ts.length)) rfl rfl) λA=>?_));have _:=(Ck.lt (M.has 0 rfl) g16 rfl).2;have _:=(Ck.lt (M.has 1 rfl) g4 rfl).2;have _:=(Ck.lt (M.has 2 rfl) g2 rfl).2;have hzt2:=M.bel.size;refine sct A ec (qcj t3 hrt3 (by rw[htt3,qca,gy]; omega)) ?_;rintro _ _ ⟨t2,rfl,⟨hrt2,hat2,htt2⟩,ap⟩;replace M:=M.call ap;refine⟨_,rfl,?_⟩;intro a A;refine ky A M rfl rfl (qj rfl rfl rfl (by kernel_rfl) M 1 rfl rfl rfl) 1 rfl rfl rfl ?_;intro _ M aq;replace hrt2:=Dt.kept aq _ hrt2 (Dt.at_mono (fun b hb=>by rintro rfl; omega) _ hat2);refine sda A λA=>?_;refine qa (am _ _ (wp_ret (hret _ _ (en2 A rfl (zw M zv rfl 1 rfl (cs:=[iV t2.d.k,iV t2.d.n,bV t2.d.y.q.b1,.slice t2.d.y.o1 t2.d.y.q.t1.length t2.d.y.c1,.slice t2.d.y.o2 t2.d.y.q.q1.length t2.d.y.c2,bV t2.d.y.q.b2,.slice t2.d.y.o3 t2.d.y.q.t2.length t2.d.y.c3,.slice t2.d.y.o4 t2.d.y.q.q2.length t2.d.y.c4,.string t2.d.s,.slice t2.d.ro t2.d.rl.length t2.d.rc,.slice t2.d.lo t2.ts.length t2.d.lc]) rfl rfl) (qf rfl) ?_))));exact⟨t2,0,rfl,⟨hrt2,Dt.at_mono (fun b hb=>gz hzt2 hb) _ hat2,by rw[htt3]at aa; rw[qpc aa,htt2,htt3]⟩,M.bel⟩
  ·refine sct A ec ((aa▸sound_any (t:=t3) hrt3 (hT.below M.bel))) ?_;rintro _ _ ⟨rfl,af⟩;replace hrt3:=Dt.keep af _ hrt3;replace M:=M.call af;refine⟨_,rfl,?_⟩;intro a A;refine sdu A λA=>?_;refine qct ac A ?_;refine wsr fun _ ar=>sdo (v:=.agg (zb.d.cells zb.ts.length).toArray) A (qn rfl (fun w=>by kernel_rfl)) λA=>?_;refine ky A M rfl rfl (qj rfl rfl rfl (by kernel_rfl) M 1 rfl rfl rfl) 1 rfl rfl rfl ?_;intro _ M _;refine sda A λA=>?_;refine qa (ar _ _ (wp_ret (hret _ _ (en2 A rfl (zw M zv rfl 1 rfl (cs:=zD) rfl rfl) (qf rfl) ?_))));exact⟨zb,4,rfl,⟨qxe _,zpa _,by rw[htt3]at aa; rw[zkf aa,qxd]⟩,M.bel⟩
theorem jzj{α:Type}{x:Option α}(h:x.isSome=false):x=none:=Option.isNone_iff_eq_none.1 (Option.isSome_eq_false_iff.1 h)
theorem of_any{w:World}{so:Option Addr}{ca:Nat}{ts:List Dt}(hR:Rt w so ts)(hD:∀t∈ts,t.rd w)(hb:Tr.bulks (ts.map Dt.tr)≤300000000)(hT:Tabs8 w):Calls Tryz.prog 25 #[.slice so ts.length ca] w fun e w'=>∃t2:Dt,e=.returned (.agg (t2.d.cells t2.ts.length).toArray)∧(t2.rd w'∧t2.at_ (w.heap.size≤·)∧t2.tr=ofS (ts.map Dt.tr))∧Below w.heap.size w w':=by
 have hnb:qxc.tr.bulk=1:=by rw[qkb]; rfl
 have M:=Mg.start w;refine wof Tryz.func25 Tryz.ntmps25 fun Q hret hnorm hP a A=>?_;refine wsr fun _ af=>zj (vs:=(zb.d.cells zb.ts.length)) (t:=30) A M rfl rfl rfl pg (qm (z:=.agg (zb.d.cells zb.ts.length).toArray) (by kernel_rfl) rfl) (by decide) ?_;intro g2 _ M a A;refine qwr af fun K4 ag=>sdm A λA=>?_;refine gcl A M ec (jzg) fun _ _ M a A=>?_;have _:=(Ck.lt (M.has 0 rfl) g2 rfl).2;have hzt2:=M.bel.size;refine sct A ec (zqh (u:=qxc) (hR.below M.bel) (fun t ht=>Dt.keep M.bel _ (hD t ht)) (jci _) (by omega) (hT.below M.bel)) ?_;rintro _ _ ⟨t2,k2,rfl,⟨hrt2,hat2,htt2⟩,ah⟩;replace M:=M.call ah;refine⟨_,rfl,?_⟩;intro a A;refine sdm A λA=>?_;iterate 2 refine sde A λA=>?_
 refine zjb (vs:=(zb.d.cells zb.ts.length)) (t:=30) A M rfl rfl rfl pg (qm (z:=.agg (zb.d.cells zb.ts.length).toArray) (by kernel_rfl) rfl) (by decide) ?_;intro g10 _ M hg12 aa a A;have hnt2g10:=Dt.at_mono (q:=(· ≠ g10)) (fun b hb=>by intro e; omega) _ (Dt.at_lt _ hrt2);replace hrt2:=Dt.keep aa _ hrt2;refine ky A M rfl rfl (qj rfl rfl rfl (by kernel_rfl) M 0 rfl rfl rfl) 0 rfl rfl rfl ?_;intro _ M ab;replace hrt2:=Dt.kept ab _ hrt2 hnt2g10;refine sda A λA=>?_;refine qa (ag _ _ (wsr fun _ ac=>sdo A (qz M zv rfl 0 rfl (cs:=(t2.d.cells t2.ts.length)) rfl rfl) λA=>?_));refine ky A M rfl rfl (qj rfl rfl rfl (by kernel_rfl) M 1 rfl rfl rfl) 1 rfl rfl rfl ?_;intro _ M ae;replace hrt2:=Dt.kept ae _ hrt2 (Dt.at_mono (fun b hb=>by rintro rfl; omega) _ hat2);refine qa (ac _ _ (wp_ret (hret _ _ (en1 A rfl (zw M zv rfl 1 rfl (cs:=[iV t2.d.k,iV t2.d.n,bV t2.d.y.q.b1,.slice t2.d.y.o1 t2.d.y.q.t1.length t2.d.y.c1,.slice t2.d.y.o2 t2.d.y.q.q1.length t2.d.y.c2,bV t2.d.y.q.b2,.slice t2.d.y.o3 t2.d.y.q.t2.length t2.d.y.c3,.slice t2.d.y.o4 t2.d.y.q.q2.length t2.d.y.c4,.string t2.d.s,.slice t2.d.ro t2.d.rl.length t2.d.rc,.slice t2.d.lo t2.ts.length t2.d.lc]) rfl rfl) ?_))));exact⟨t2,rfl,⟨hrt2,Dt.at_mono (fun b hb=>gz hzt2 hb) _ hat2,by unfold ofS; rw[←qkb,←htt2]⟩,M.bel⟩
theorem kz{w:World}{k:Int}{t:Dt}:Calls Tryz.prog 28 #[iV k,.agg (t.d.cells t.ts.length).toArray] w fun e w'=>∃g,e=.returned (.agg (Sp.mk k (aO g) 1 [t]).c.toArray)∧Mg w w' [.row 30 11 (.slice (aO g) 1 1) 1 (cellsOf [t])]:=by
 have M:=Mg.start w;refine wof Tryz.func28 Tryz.ntmps28 fun Q hret hnorm hP a A=>?_;refine wsr fun _ aa=>zj (vs:=(t.d.cells t.ts.length)) (t:=30) A M rfl rfl rfl pg (qx rfl rfl) (by decide) ?_;intro g2 _ M a A;refine zj (vs:=ue.c) (t:=65) A M rfl rfl rfl pg (qm (z:=.agg ue.c.toArray) (by kernel_rfl) rfl) (by decide) ?_;intro g4 _ M a A;refine qwr aa fun _ ab=>sdm A λA=>?_;refine sdo A (qz M zv rfl 1 rfl (cs:=(t.d.cells t.ts.length)) rfl rfl) λA=>?_;refine jr (e:=30) (sz:=11) (m:=1) (vs:=cellsOf [t]) A M rfl rfl rfl (qg rfl (by kernel_rfl)) rfl rfl (.inl (by decide)) ?_;intro g7 _ M a A;refine sdo (v:=.agg #[iV k,.slice (aO g7) 1 1]) A (qn rfl (fun w=>by kernel_rfl)) λA=>?_;refine qt A M rfl rfl (qj rfl rfl rfl (by kernel_rfl) M 1 rfl rfl rfl) 1 rfl rfl rfl ?_;intro _ M;refine qa (ab _ _ (wp_ret (hret _ _ (en1 A rfl (zw M zwh rfl 1 rfl (cs:=[iV k,.slice (aO g7) 1 1]) rfl rfl) ?_))));replace M:=M.sub (cC (cN (cN (.refl _))));exact⟨g7,rfl,M⟩
theorem zxg(t:Dt):isF t.tr=(decide (t.d.k=2)&&decide (t.d.n=0)):=by cases t; rfl
theorem qtg{w:World}{t:Dt}:Calls Tryz.prog 27 #[.agg (t.d.cells t.ts.length).toArray] w (RB w (bV (isF t.tr))):=by
 have M:=Mg.start w;refine wof Tryz.func27 Tryz.ntmps27 fun Q hret hnorm hP a A=>?_;refine wsr fun _ ae=>zj (vs:=(t.d.cells t.ts.length)) (t:=30) A M rfl rfl rfl pg (qx rfl rfl) (by decide) ?_;intro g2 _ M a A;refine sda A λA=>?_;refine qa (ae _ _ (wsr fun K4 ac=>sdf A 0 xk λA=>?_));refine sdl A M o93 0 λA=>?_;rcases tf ((t.d.k==2))with aa|aa
 ·have aa':=gr aa;refine sdc A qe aa λA=>?_;refine sdm A λA=>?_;refine sdf A 1 vn λA=>?_;refine sdl A M o93 0 λA=>?_;rcases tf ((t.d.n==0))with ab|ab
  ·have ab':=gr ab;refine sdc A qe ab λA=>?_;refine sdk (v:=bV true) A λA=>?_;refine sda A λA=>?_;refine qr1 ac hret A ?_;exact⟨by rw[zxg,gv aa',gv ab']; rfl,M.bel⟩
  ·have ab':=f6 ab;refine sdc A qe ab λA=>?_;refine sdk (v:=bV false) A λA=>?_;refine sda A λA=>?_;refine qr1 ac hret A ?_;exact⟨by rw[zxg,gv aa',gn ab']; rfl,M.bel⟩
 ·have aa':=f6 aa;refine sdc A qe aa λA=>?_;refine sdm A λA=>?_;iterate 3 refine sks A λA=>?_
  refine sdk (v:=bV false) A λA=>?_;refine sda A λA=>?_;refine qr1 ac hret A ?_;exact⟨by rw[zxg,gn aa']; rfl,M.bel⟩
theorem zga{w:World}{da dm:Dt}(ha:da.rd w)(hm:dm.rd w){so2:Option Addr}{ca2:Nat}{is:List Dt}(hRi:Rt w so2 is)(hDi:∀t∈is,t.rd w)(hba:da.tr.bulk≤100000000)(hbm:dm.tr.bulk≤100000000)(hbi:Tr.bulks (is.map Dt.tr)≤300000000)(hT:Tabs8 w){v:Bool}:Calls Tryz.prog 5 #[.agg (da.d.cells da.ts.length).toArray,.agg (dm.d.cells dm.ts.length).toArray,.slice so2 is.length ca2,bV v] w fun e w'=>∃(so':Option Addr) (ca':Nat) (cs:List Sp) (ev:Int),e=.returned (.tuple #[.slice so' cs.length ca',iV ev])∧((cs.map Sp.k,ev)=erS da.tr dm.tr (is.map Dt.tr) v∧PR w' so' cs)∧Below w.heap.size w w':=by
 have M:=Mg.start w;refine wof Tryz.func5 Tryz.ntmps5 fun Q hret hnorm hP a A=>?_;refine wsr fun _ cq=>zj (vs:=(da.d.cells da.ts.length)) (t:=30) A M rfl rfl rfl pg (qx rfl rfl) (by decide) ?_;intro g2 _ M a A;refine zj (vs:=(dm.d.cells dm.ts.length)) (t:=30) A M rfl rfl rfl pg (qx rfl rfl) (by decide) ?_;intro g4 w5 M a A;iterate 2 refine sda A λA=>?_
 refine qwr cq fun _ cr=>sdm A λA=>?_;refine sct A ec (of_any (hRi.below M.bel) (fun t ht=>Dt.keep M.bel _ (hDi t ht)) hbi (hT.below M.bel)) ?_;rintro _ w8 ⟨dl,rfl,⟨hrl,hal,htl⟩,cw⟩;have hLdl:=qha hrl hal;replace M:Mg w w8 (.obj g4 (.cells (dm.d.cells dm.ts.length).toArray 30)::.obj g2 (.cells (da.d.cells da.ts.length).toArray 30)::(made w5 w8++[])):=M.freezeAt 2 (qi (by simp) (qi (by simp) (za zd))) cw;refine⟨_,rfl,?_⟩;intro a A;refine zj (vs:=(zb.d.cells zb.ts.length)) (t:=30) A M rfl rfl rfl pg (qm (z:=.agg (zb.d.cells zb.ts.length).toArray) (by kernel_rfl) rfl) (by decide) ?_;intro g9 _ M a A;refine qt A M rfl rfl (qj rfl rfl rfl (by kernel_rfl) M 0 rfl rfl rfl) 0 rfl rfl rfl ?_;intro _ M;refine qa (cr _ _ (wsk fun _ ax=>wsr fun _ ai=>sdo A (qz M zv rfl 2 rfl (cs:=(da.d.cells da.ts.length)) rfl rfl) λA=>?_));rcases tf (qs qh da.tr)with ae|ae
 ·refine gcl A M ec ((ae▸vh (t:=da) (Dt.keep M.bel _ ha) (hT.below M.bel))) fun _ _ M a A=>?_;refine sdm A λA=>?_;refine sdo A (qz M zv rfl 1 rfl (cs:=(dm.d.cells dm.ts.length)) rfl rfl) λA=>?_;rcases tf (qs qh dm.tr)with af|af
  ·refine gcl A M ec ((af▸vh (t:=dm) (Dt.keep M.bel _ hm) (hT.below M.bel))) fun _ _ M a A=>?_;refine sdk (v:=bV false) A λA=>?_;refine sdm A λA=>?_;refine sdo A (qz M zv rfl 0 rfl (cs:=(dl.d.cells dl.ts.length)) rfl rfl) λA=>?_;rcases tf (qs qh dl.tr)with ag|ag
   ·refine gcl A M ec ((ag▸vh (t:=dl) (hLdl _ _ ((M.dropn 3).sub (List.sublist_append_left _ _))) (hT.below M.bel))) fun _ _ M a A=>?_;refine sdk (v:=bV false) A λA=>?_;refine qcf ai A ?_;refine wp_skip (ax _ _ (wsr fun _ ay=>sdo (v:=.agg #[iV 4,.slice none 0 0]) A (qn rfl (fun w=>by kernel_rfl)) λA=>?_));refine jr (e:=65) (sz:=2) (m:=1) (vs:=jb Sp.c [(Sp.mk 4 none 0 [])]) A M rfl rfl rfl (qg rfl (by kernel_rfl)) rfl rfl (.inl (by decide)) ?_;intro g24 cx M a A;refine sda A λA=>?_;refine qwk ay fun cy az=>?_;have am:∀a w1,(Sl a 47 [(0,.agg (da.d.cells da.ts.length).toArray),(1,.agg (dm.d.cells dm.ts.length).toArray),(2,.slice so2 is.length ca2),(4,pA g2 0),(5,pA g4 0),(8,.slice none 0 0),(9,iV 0),(10,pA g9 0),(11,.slice (aO g24) 1 1),(12,.slice so2 is.length ca2),(13,.agg (dl.d.cells dl.ts.length).toArray),(14,.agg (da.d.cells da.ts.length).toArray),(15,bV false),(16,bV false),(17,.agg (dm.d.cells dm.ts.length).toArray),(18,bV false),(19,bV false),(20,bV false),(21,.agg (dl.d.cells dl.ts.length).toArray),(22,bV false),(23,bV false),(24,.agg #[iV 4,.slice none 0 0]),(25,.slice (aO g24) 1 1)]∧Mg w w1 (.row 65 2 (.slice (aO g24) 1 1) 1 (jb Sp.c [(Sp.mk (if v=true then 6 else 4) none 0 [])])::.obj g9 (.cells (dl.d.cells dl.ts.length).toArray 30)::.obj g4 (.cells (dm.d.cells dm.ts.length).toArray 30)::.obj g2 (.cells (da.d.cells da.ts.length).toArray 30)::(made w5 w8++[])))→cy a w1:=by
     clear A M;rintro a _ ⟨A,M⟩;refine az _ _ (wsk fun _ ap=>wsr fun _ aq=>sdo A (qz M zv rfl 3 rfl (cs:=(da.d.cells da.ts.length)) rfl rfl) λA=>?_);rcases tf (isF da.tr)with ah|ah
     ·refine gcl A M ec ((ah▸qtg)) fun bd _ M a A=>?_;refine sdu A λA=>?_;refine qcf aq A ?_;refine wp_skip (ap _ _ (wsk fun _ bf=>xg (S:=fun w1=>Mg w w1 (.obj g9 (.cells (dl.d.cells dl.ts.length).toArray 30)::.obj g4 (.cells (dm.d.cells dm.ts.length).toArray 30)::[])) (by kernel_rfl) ?_));replace M:=M.drew;refine atk A 0 rfl hP (M.sub (cN (cC (cC (cN ns))))) (λ_ M=>zr rfl) λA=>?_;refine atk A 1 rfl hP (M.sub (cN (cC (cC (cN ns))))) (λ_ M=>qz M zv rfl 1 rfl (cs:=(dm.d.cells dm.ts.length)) rfl rfl) λA=>?_;refine atk A 4 rfl hP (M.sub (cN (cC (cC (cN ns))))) (λ_ M=>qz M zv rfl 0 rfl (cs:=(dl.d.cells dl.ts.length)) rfl rfl) λA=>?_;refine zn (by kernel_rfl) (jc A 2 rfl rfl rfl rfl ec (qcj dm (Dt.keep M.bel _ hm) (by omega)) ?_);rintro _ au ⟨m2,rfl,⟨hrm2,ham2,htm2⟩,bg⟩;have hLm2:=qha hrm2 ham2;replace M:Mg w au (.row 65 2 (.slice (aO g24) 1 1) 1 (jb Sp.c [(Sp.mk (if v=true then 6 else 4) none 0 [])])::.obj g9 (.cells (dl.d.cells dl.ts.length).toArray 30)::.obj g4 (.cells (dm.d.cells dm.ts.length).toArray 30)::.obj g2 (.cells (da.d.cells da.ts.length).toArray 30)::(made bd.drew au++(made w5 w8++[]))):=M.freezeAt 4 (qi (by simp) (qi (by simp) (qi (by simp) (qi (by simp) (xe xp (za zd)))))) bg;refine⟨_,rfl,(M.sub (cN (cC (cC (cN ns))))),?_⟩;intro a A;refine zn (by kernel_rfl) (jc A 3 rfl rfl rfl rfl ec (kz) ?_);rintro _ _ ⟨ab,rfl,bh⟩;replace M:=(M.both bh (qi (by simp) (qi (by simp) (qi (by simp) (qi (by simp) (xe xp (xe xp (za zd))))))) (qi (by simp) (za zd)));refine⟨_,rfl,(M.sub (cN (cN (cC (cC (cN ns)))))),?_⟩;intro a A
      refine zn (by kernel_rfl) (jc A 5 rfl rfl rfl rfl ec (kz) ?_);rintro _ _ ⟨ac,rfl,bi⟩;replace M:=(M.both bi (qi (by simp) (qi (by simp) (qi (by simp) (qi (by simp) (qi (by simp) (xe xp (xe xp (za zd)))))))) (qi (by simp) (za zd)));refine⟨_,rfl,(M.sub (cN (cN (cN (cC (cC (cN ns))))))),?_⟩;intro a A;refine zn (by kernel_rfl) (xdg (e:=65) (sz:=2) (m:=2) (vs:=jb Sp.c [(Sp.mk 1 (aO ab) 1 [m2]),(Sp.mk 7 (aO ac) 1 [dl])]) A M 6 rfl rfl rfl rfl (qg rfl (by kernel_rfl)) rfl rfl (.inl (by decide)) ?_);intro g42 _ M;refine⟨(M.sub (cN (cN (cN (cN (cC (cC (cN ns)))))))),?_⟩;intro a A
      refine zn (by kernel_rfl) (zob (e:=65) (sz:=2) (k:=3) (q:=1) (m:=2) (xs:=jb Sp.c [(Sp.mk (if v=true then 6 else 4) none 0 [])]) (news:=jb Sp.c [(Sp.mk 1 (aO ab) 1 [m2]),(Sp.mk 7 (aO ac) 1 [dl])]) (L':=fun bj=>(.row 65 2 (.slice (aO g42) 2 2) 2 (jb Sp.c [(Sp.mk 1 (aO ab) 1 [m2]),(Sp.mk 7 (aO ac) 1 [dl])])::.row 30 11 (.slice (aO ac) 1 1) 1 (cellsOf [dl])::.row 30 11 (.slice (aO ab) 1 1) 1 (cellsOf [m2])::.row 65 2 (bj) (1+2) (jb Sp.c [(Sp.mk (if v=true then 6 else 4) none 0 [])]++jb Sp.c [(Sp.mk 1 (aO ab) 1 [m2]),(Sp.mk 7 (aO ac) 1 [dl])])::.obj g9 (.cells (dl.d.cells dl.ts.length).toArray 30)::.obj g4 (.cells (dm.d.cells dm.ts.length).toArray 30)::.obj g2 (.cells (da.d.cells da.ts.length).toArray 30)::(made bd.drew au++(made w5 w8++[])))) A 7 rfl rfl rfl rfl (yf (z:=.agg #[iV 0,.slice none 0 0]) (sz:=2) (by_:=32) ic (by kernel_rfl) rfl rfl rfl M 3 rfl rfl rfl rfl (vm (M.has 0 rfl)) (qig _) (by first|omega|(simp only[fv,fw,fx]; omega))) (fun _=>rfl) ?_);intro bj co M;replace M:Mg w co (.row 65 2 (.slice (aO g42) 2 2) 2 (jb Sp.c [(Sp.mk 1 (aO ab) 1 [m2]),(Sp.mk 7 (aO ac) 1 [dl])])::.row 30 11 (.slice (aO ac) 1 1) 1 (cellsOf [dl])::.row 30 11 (.slice (aO ab) 1 1) 1 (cellsOf [m2])::.row 65 2 (bj) (([(Sp.mk (if v=true then 6 else 4) none 0 [])]++[(Sp.mk 1 (aO ab) 1 [m2]),(Sp.mk 7 (aO ac) 1 [dl])]).length) (jb Sp.c ([(Sp.mk (if v=true then 6 else 4) none 0 [])]++[(Sp.mk 1 (aO ab) 1 [m2]),(Sp.mk 7 (aO ac) 1 [dl])]))::.obj g9 (.cells (dl.d.cells dl.ts.length).toArray 30)::.obj g4 (.cells (dm.d.cells dm.ts.length).toArray 30)::.obj g2 (.cells (da.d.cells da.ts.length).toArray 30)::(made bd.drew au++(made w5 w8++[]))):=by
       rw[vu,fv]; exact M
      obtain⟨bn,bp,rfl⟩:=xu (M.has 3 rfl);refine⟨(M.sub (cN (cN (cN (cN (cC (cC (cN ns)))))))),?_⟩;intro a A;refine atk A 8 rfl hP (M.sub (cN (cN (cN (cN (cC (cC (cN ns)))))))) (λ_ M=>ji rfl) λA=>?_;refine atk A 9 rfl hP (M.sub (cN (cN (cN (cN (cC (cC (cN ns)))))))) (λ_ M=>ji rfl) λA=>?_;refine jl (by kernel_rfl) ?_;refine bf _ _ (wp_ret (hret _ _ (en2 A rfl (qf rfl) (qf rfl) ?_)));have hps:∀p∈[(Sp.mk (if v=true then 6 else 4) none 0 []),(Sp.mk 1 (aO ab) 1 [m2]),(Sp.mk 7 (aO ac) 1 [dl])],SpR co p:=by
       intro p hp;simp only[ik,List.not_mem_nil,or_false]at hp;rcases hp with h9|h9|h9<;>subst h9
       ·exact⟨fun h=>absurd rfl h,fun t h=>by cases h⟩
       ·exact⟨(kv (M.has 2 rfl)).1,fun t ht=>by rw[iq.1 ht]; exact(hLm2 _ _ ((M.dropn 7).sub (List.sublist_append_left _ _)))⟩
       ·exact⟨(kv (M.has 1 rfl)).1,fun t ht=>by rw[iq.1 ht]; exact(hLdl _ _ ((M.dropn 7).sub ((List.sublist_append_left _ _).trans (List.sublist_append_right _ _))))⟩
      exact⟨bn,bp,[(Sp.mk (if v=true then 6 else 4) none 0 []),(Sp.mk 1 (aO ab) 1 [m2]),(Sp.mk 7 (aO ac) 1 [dl])],0,rfl,⟨by rw[xeb ae af (htl▸ag) ah,←htl,←htm2]; rcases v with _|_<;>rfl,⟨vm (M.has 3 rfl),hps⟩⟩,M.bel⟩
     ·refine gcl A M ec ((ah▸qtg)) fun ar _ M a A=>?_;refine sdu A λA=>?_;refine qct aq A ?_;refine wrl (sdm A λA=>?_);refine sdo A (qz M zv rfl 3 rfl (cs:=(da.d.cells da.ts.length)) rfl rfl) λA=>?_;refine sct A ec (qcj da (Dt.keep M.bel _ ha) (by omega)) ?_;rintro _ ak ⟨a2,rfl,⟨hra2,haa2,hta2⟩,bq⟩;have hLa2:=qha hra2 haa2;replace M:Mg w ak (.row 65 2 (.slice (aO g24) 1 1) 1 (jb Sp.c [(Sp.mk (if v=true then 6 else 4) none 0 [])])::.obj g9 (.cells (dl.d.cells dl.ts.length).toArray 30)::.obj g4 (.cells (dm.d.cells dm.ts.length).toArray 30)::.obj g2 (.cells (da.d.cells da.ts.length).toArray 30)::(made ar ak++(made w5 w8++[]))):=M.freezeAt 4 (qi (by simp) (qi (by simp) (qi (by simp) (qi (by simp) (xe xp (za zd)))))) bq;refine⟨_,rfl,?_⟩;intro a A;refine sct A ec (kz) ?_;rintro _ _ ⟨aa,rfl,br⟩;replace M:=(M.both br (qi (by simp) (qi (by simp) (qi (by simp) (qi (by simp) (xe xp (xe xp (za zd))))))) (qi (by simp) (za zd)));refine⟨_,rfl,?_⟩;intro a A;refine jr (e:=65) (sz:=2) (m:=1) (vs:=jb Sp.c [(Sp.mk 8 (aO aa) 1 [a2])]) A M rfl rfl rfl (qg rfl (by kernel_rfl)) rfl rfl (.inl (by decide)) ?_;intro g54 _ M a A;refine xd (e:=65) (sz:=2) (k:=2) (q:=1) (m:=1) (xs:=jb Sp.c [(Sp.mk (if v=true then 6 else 4) none 0 [])]) (news:=jb Sp.c [(Sp.mk 8 (aO aa) 1 [a2])]) A rfl rfl rfl (yf (z:=.agg #[iV 0,.slice none 0 0]) (sz:=2) (by_:=32) ic (by kernel_rfl) rfl rfl rfl M 2 rfl rfl rfl rfl (vm (M.has 0 rfl)) (qig [(Sp.mk 8 (aO aa) 1 [a2])]) (by first|omega|(simp only[fx]; omega))) (fun _=>rfl) ?_
      intro cz av M a A;replace M:Mg w av (.row 65 2 (.slice (aO g54) 1 1) 1 (jb Sp.c [(Sp.mk 8 (aO aa) 1 [a2])])::.row 30 11 (.slice (aO aa) 1 1) 1 (cellsOf [a2])::.row 65 2 (cz) (([(Sp.mk (if v=true then 6 else 4) none 0 [])]++[(Sp.mk 8 (aO aa) 1 [a2])]).length) (jb Sp.c ([(Sp.mk (if v=true then 6 else 4) none 0 [])]++[(Sp.mk 8 (aO aa) 1 [a2])]))::.obj g9 (.cells (dl.d.cells dl.ts.length).toArray 30)::.obj g4 (.cells (dm.d.cells dm.ts.length).toArray 30)::.obj g2 (.cells (da.d.cells da.ts.length).toArray 30)::(made ar ak++(made w5 w8++[]))):=by
       rw[vu,fv]; exact M
      obtain⟨bw,bz,rfl⟩:=xu (M.has 2 rfl);refine sda A λA=>?_;refine qwk ap fun _ cc=>xg (S:=fun w1=>Mg w w1 (.obj g9 (.cells (dl.d.cells dl.ts.length).toArray 30)::.obj g4 (.cells (dm.d.cells dm.ts.length).toArray 30)::[])) (by kernel_rfl) ?_;replace M:=M.drew;refine atk A 0 rfl hP (M.sub (cN (cN (cN (cC (cC (cN ns))))))) (λ_ M=>zr rfl) λA=>?_;refine atk A 1 rfl hP (M.sub (cN (cN (cN (cC (cC (cN ns))))))) (λ_ M=>qz M zv rfl 1 rfl (cs:=(dm.d.cells dm.ts.length)) rfl rfl) λA=>?_;refine atk A 4 rfl hP (M.sub (cN (cN (cN (cC (cC (cN ns))))))) (λ_ M=>qz M zv rfl 0 rfl (cs:=(dl.d.cells dl.ts.length)) rfl rfl) λA=>?_;refine zn (by kernel_rfl) (jc A 2 rfl rfl rfl rfl ec (qcj dm (Dt.keep M.bel _ hm) (by omega)) ?_);rintro _ aw ⟨m2,rfl,⟨hrm2,ham2,htm2⟩,cd⟩;have hLm2:=qha hrm2 ham2;replace M:Mg w aw (.row 65 2 (.slice (aO g54) 1 1) 1 (jb Sp.c [(Sp.mk 8 (aO aa) 1 [a2])])::.row 30 11 (.slice (aO aa) 1 1) 1 (cellsOf [a2])::.row 65 2 (.slice bw (([(Sp.mk (if v=true then 6 else 4) none 0 [])]++[(Sp.mk 8 (aO aa) 1 [a2])]).length) bz) (([(Sp.mk (if v=true then 6 else 4) none 0 [])]++[(Sp.mk 8 (aO aa) 1 [a2])]).length) (jb Sp.c ([(Sp.mk (if v=true then 6 else 4) none 0 [])]++[(Sp.mk 8 (aO aa) 1 [a2])]))::.obj g9 (.cells (dl.d.cells dl.ts.length).toArray 30)::.obj g4 (.cells (dm.d.cells dm.ts.length).toArray 30)::.obj g2 (.cells (da.d.cells da.ts.length).toArray 30)::(made av.drew aw++(made ar ak++(made w5 w8++[])))):=M.freezeAt 6 (qi (by simp) (qi (by simp) (qi (by simp) (qi (by simp) (qi (by simp) (qi (by simp) (xe xp (xe xp (za zd))))))))) cd;refine⟨_,rfl,(M.sub (cN (cN (cN (cC (cC (cN ns))))))),?_⟩;intro a A;refine zn (by kernel_rfl) (jc A 3 rfl rfl rfl rfl ec (kz) ?_);rintro _ _ ⟨ab,rfl,ce⟩
      replace M:=(M.both ce (qi (by simp) (qi (by simp) (qi (by simp) (qi (by simp) (qi (by simp) (qi (by simp) (xe xp (xe xp (xe xp (za zd)))))))))) (qi (by simp) (za zd)));refine⟨_,rfl,(M.sub (cN (cN (cN (cN (cC (cC (cN ns)))))))),?_⟩;intro a A;refine zn (by kernel_rfl) (jc A 5 rfl rfl rfl rfl ec (kz) ?_);rintro _ _ ⟨ac,rfl,cg⟩
      replace M:=(M.both cg (qi (by simp) (qi (by simp) (qi (by simp) (qi (by simp) (qi (by simp) (qi (by simp) (qi (by simp) (xe xp (xe xp (xe xp (za zd))))))))))) (qi (by simp) (za zd)));refine⟨_,rfl,(M.sub (cN (cN (cN (cN (cN (cC (cC (cN ns))))))))),?_⟩;intro a A;refine zn (by kernel_rfl) (xdg (e:=65) (sz:=2) (m:=2) (vs:=jb Sp.c [(Sp.mk 1 (aO ab) 1 [m2]),(Sp.mk 7 (aO ac) 1 [dl])]) A M 6 rfl rfl rfl rfl (qg rfl (by kernel_rfl)) rfl rfl (.inl (by decide)) ?_);intro g67 _ M;refine⟨(M.sub (cN (cN (cN (cN (cN (cN (cC (cC (cN ns)))))))))),?_⟩;intro a A
      refine zn (by kernel_rfl) (zob (e:=65) (sz:=2) (k:=5) (q:=([(Sp.mk (if v=true then 6 else 4) none 0 [])]++[(Sp.mk 8 (aO aa) 1 [a2])]).length) (m:=2) (xs:=jb Sp.c ([(Sp.mk (if v=true then 6 else 4) none 0 [])]++[(Sp.mk 8 (aO aa) 1 [a2])])) (news:=jb Sp.c [(Sp.mk 1 (aO ab) 1 [m2]),(Sp.mk 7 (aO ac) 1 [dl])]) (L':=fun ch=>(.row 65 2 (.slice (aO g67) 2 2) 2 (jb Sp.c [(Sp.mk 1 (aO ab) 1 [m2]),(Sp.mk 7 (aO ac) 1 [dl])])::.row 30 11 (.slice (aO ac) 1 1) 1 (cellsOf [dl])::.row 30 11 (.slice (aO ab) 1 1) 1 (cellsOf [m2])::.row 65 2 (.slice (aO g54) 1 1) 1 (jb Sp.c [(Sp.mk 8 (aO aa) 1 [a2])])::.row 30 11 (.slice (aO aa) 1 1) 1 (cellsOf [a2])::.row 65 2 (ch) (([(Sp.mk (if v=true then 6 else 4) none 0 [])]++[(Sp.mk 8 (aO aa) 1 [a2])]).length+2) (jb Sp.c ([(Sp.mk (if v=true then 6 else 4) none 0 [])]++[(Sp.mk 8 (aO aa) 1 [a2])])++jb Sp.c [(Sp.mk 1 (aO ab) 1 [m2]),(Sp.mk 7 (aO ac) 1 [dl])])::.obj g9 (.cells (dl.d.cells dl.ts.length).toArray 30)::.obj g4 (.cells (dm.d.cells dm.ts.length).toArray 30)::.obj g2 (.cells (da.d.cells da.ts.length).toArray 30)::(made av.drew aw++(made ar ak++(made w5 w8++[]))))) A 7 rfl rfl rfl rfl (yf (z:=.agg #[iV 0,.slice none 0 0]) (sz:=2) (by_:=32) ic (by kernel_rfl) rfl rfl rfl M 5 rfl rfl rfl rfl (vm (M.has 0 rfl)) (qig _) (by first|omega|(simp only[fv,fw,fx]; omega))) (fun _=>rfl) ?_);intro ch cp M
      replace M:Mg w cp (.row 65 2 (.slice (aO g67) 2 2) 2 (jb Sp.c [(Sp.mk 1 (aO ab) 1 [m2]),(Sp.mk 7 (aO ac) 1 [dl])])::.row 30 11 (.slice (aO ac) 1 1) 1 (cellsOf [dl])::.row 30 11 (.slice (aO ab) 1 1) 1 (cellsOf [m2])::.row 65 2 (.slice (aO g54) 1 1) 1 (jb Sp.c [(Sp.mk 8 (aO aa) 1 [a2])])::.row 30 11 (.slice (aO aa) 1 1) 1 (cellsOf [a2])::.row 65 2 (ch) ((([(Sp.mk (if v=true then 6 else 4) none 0 [])]++[(Sp.mk 8 (aO aa) 1 [a2])])++[(Sp.mk 1 (aO ab) 1 [m2]),(Sp.mk 7 (aO ac) 1 [dl])]).length) (jb Sp.c (([(Sp.mk (if v=true then 6 else 4) none 0 [])]++[(Sp.mk 8 (aO aa) 1 [a2])])++[(Sp.mk 1 (aO ab) 1 [m2]),(Sp.mk 7 (aO ac) 1 [dl])]))::.obj g9 (.cells (dl.d.cells dl.ts.length).toArray 30)::.obj g4 (.cells (dm.d.cells dm.ts.length).toArray 30)::.obj g2 (.cells (da.d.cells da.ts.length).toArray 30)::(made av.drew aw++(made ar ak++(made w5 w8++[])))):=by
       rw[vu,fv]; exact M
      obtain⟨ci,cj,rfl⟩:=xu (M.has 5 rfl);refine⟨(M.sub (cN (cN (cN (cN (cN (cN (cC (cC (cN ns)))))))))),?_⟩;intro a A;refine atk A 8 rfl hP (M.sub (cN (cN (cN (cN (cN (cN (cC (cC (cN ns)))))))))) (λ_ M=>ji rfl) λA=>?_;refine atk A 9 rfl hP (M.sub (cN (cN (cN (cN (cN (cN (cC (cC (cN ns)))))))))) (λ_ M=>ji rfl) λA=>?_;refine jl (by kernel_rfl) ?_;refine cc _ _ (wp_ret (hret _ _ (en2 A rfl (qf rfl) (qf rfl) ?_)));have hps:∀p∈[(Sp.mk (if v=true then 6 else 4) none 0 []),(Sp.mk 8 (aO aa) 1 [a2]),(Sp.mk 1 (aO ab) 1 [m2]),(Sp.mk 7 (aO ac) 1 [dl])],SpR cp p:=by
       intro p hp;simp only[ik,List.not_mem_nil,or_false]at hp;rcases hp with h9|h9|h9|h9<;>subst h9
       ·exact⟨fun h=>absurd rfl h,fun t h=>by cases h⟩
       ·exact⟨(kv (M.has 4 rfl)).1,fun t ht=>by rw[iq.1 ht]; exact(hLa2 _ _ ((M.dropn 9).sub ((List.sublist_append_left _ _).trans (List.sublist_append_right _ _))))⟩
       ·exact⟨(kv (M.has 2 rfl)).1,fun t ht=>by rw[iq.1 ht]; exact(hLm2 _ _ ((M.dropn 9).sub (List.sublist_append_left _ _)))⟩
       ·exact⟨(kv (M.has 1 rfl)).1,fun t ht=>by rw[iq.1 ht]; exact(hLdl _ _ ((M.dropn 9).sub (((List.sublist_append_left _ _).trans (List.sublist_append_right _ _)).trans (List.sublist_append_right _ _))))⟩
      exact⟨ci,cj,[(Sp.mk (if v=true then 6 else 4) none 0 []),(Sp.mk 8 (aO aa) 1 [a2]),(Sp.mk 1 (aO ab) 1 [m2]),(Sp.mk 7 (aO ac) 1 [dl])],0,rfl,⟨by rw[job ae af (htl▸ag) ah,←htl,←hta2,←htm2]; rcases v with _|_<;>rfl,⟨vm (M.has 5 rfl),hps⟩⟩,M.bel⟩
    refine wsr fun _ ck=>sdm A λA=>?_;refine qa (ck _ _ ?_);refine wp_cond_split (t:=v) (A.ev rfl) (fun aj=>?_) (fun aj=>?_)
    ·refine wrl (sdm A λA=>?_);refine sdo (v:=pA g24 0) A (qaa (k:=0) (sz:=2) ic (by kernel_rfl) rfl rfl rfl Nat.zero_lt_one) λA=>?_;refine sdf A 0 qch λA=>?_;refine zeh (cs:=[iV 6]) A M rfl rfl (zoc rfl rfl rfl (by kernel_rfl) M 0 rfl (by decide) rfl) 0 rfl rfl rfl ?_;intro db M _;refine qa ?_;replace M:Mg w db (.row 65 2 (.slice (aO g24) 1 1) 1 (jb Sp.c [(Sp.mk (if v=true then 6 else 4) none 0 [])])::.obj g9 (.cells (dl.d.cells dl.ts.length).toArray 30)::.obj g4 (.cells (dm.d.cells dm.ts.length).toArray 30)::.obj g2 (.cells (da.d.cells da.ts.length).toArray 30)::(made w5 w8++[])):=(by rw[gj aj]; exact M);exact am _ _ ⟨A.keep _ (by repeat' constructor),M⟩
    ·refine wp_skip ?_;replace M:Mg w cx (.row 65 2 (.slice (aO g24) 1 1) 1 (jb Sp.c [(Sp.mk (if v=true then 6 else 4) none 0 [])])::.obj g9 (.cells (dl.d.cells dl.ts.length).toArray 30)::.obj g4 (.cells (dm.d.cells dm.ts.length).toArray 30)::.obj g2 (.cells (da.d.cells da.ts.length).toArray 30)::(made w5 w8++[])):=(by rw[f7 (by rw[aj]; decide)]; exact M);exact am _ _ ⟨A.keep _ (by repeat' constructor),M⟩
   ·refine gcl A M ec ((ag▸vh (t:=dl) (hLdl _ _ ((M.dropn 3).sub (List.sublist_append_left _ _))) (hT.below M.bel))) fun _ _ M a A=>?_;refine sdk (v:=bV true) A λA=>?_;refine qct ai A ?_;refine wsr fun _ cl=>?_;iterate 2 refine sda A λA=>?_
    refine qa (cl _ _ (wp_ret (hret _ _ (en2 A rfl (qf rfl) (qf rfl) ?_))));exact⟨none,0,[],2,rfl,⟨(qrd (fun h=>by rw[←htl]at h; have h9:=h.2.2; rw[ag]at h9; cases h9)).symm,⟨fun h=>absurd rfl h,fun p h=>by cases h⟩⟩,M.bel⟩
  ·refine gcl A M ec ((af▸vh (t:=dm) (Dt.keep M.bel _ hm) (hT.below M.bel))) fun _ _ M a A=>?_;refine sdk (v:=bV true) A λA=>?_;refine sdm A λA=>?_;iterate 2 refine sks A λA=>?_
   refine sdk (v:=bV true) A λA=>?_;refine qct ai A ?_;refine wsr fun _ cm=>?_;iterate 2 refine sda A λA=>?_
   refine qa (cm _ _ (wp_ret (hret _ _ (en2 A rfl (qf rfl) (qf rfl) ?_))));exact⟨none,0,[],2,rfl,⟨(qrd (fun h=>by have h9:=h.2.1; rw[af]at h9; cases h9)).symm,⟨fun h=>absurd rfl h,fun p h=>by cases h⟩⟩,M.bel⟩
 ·refine gcl A M ec ((ae▸vh (t:=da) (Dt.keep M.bel _ ha) (hT.below M.bel))) fun _ _ M a A=>?_;refine sdm A λA=>?_;iterate 2 refine sks A λA=>?_
  refine sdk (v:=bV true) A λA=>?_;refine sdm A λA=>?_;iterate 2 refine sks A λA=>?_
  refine sdk (v:=bV true) A λA=>?_;refine qct ai A ?_;refine wsr fun _ cn=>?_;iterate 2 refine sda A λA=>?_
  refine qa (cn _ _ (wp_ret (hret _ _ (en2 A rfl (qf rfl) (qf rfl) ?_))));exact⟨none,0,[],2,rfl,⟨(qrd (fun h=>by have h9:=h.1; rw[ae]at h9; cases h9)).symm,⟨fun h=>absurd rfl h,fun p h=>by cases h⟩⟩,M.bel⟩
end Go.Proofs.YtmnlfahgklnpeaaGreatDoor.G
namespace Go.Proofs
open Go.Shelf
def Tryz.lays240_ren: Go.Shelf.Ren:=⟨fun|240=>68|276=>101|n=>n,fun|70=>69|0=>0|72=>71|4=>4|164=>145|37=>27|5=>5|9=>9|20=>20|n=>n,fun|n=>n⟩
theorem Tryz.lays240: Go.Proofs.Lays.n240 Tryz.prog Tryz.lays240_ren:={
  mixed:=by kernel_rfl
  f240:=Tryz.func68.trans (congrArg some (by kernel_rfl))
  f276:=Tryz.func101.trans (congrArg some (by kernel_rfl))
  t0:=Tryz.underlying0
  a0:=Tryz.isAgg0
  z0:=Tryz.sizeOf0
  v0:=Tryz.zeroValue0
  t4:=Tryz.underlying4
  a4:=Tryz.isAgg4
  z4:=Tryz.sizeOf4
  v4:=Tryz.zeroValue4
  t9:=Tryz.underlying9
  a9:=Tryz.isAgg9
  z9:=Tryz.sizeOf9
  v9:=Tryz.zeroValue9
  t20:=Tryz.underlying20
  a20:=Tryz.isAgg20
  z20:=Tryz.sizeOf20
  v20:=Tryz.zeroValue20
  t70:=Tryz.underlying69
  a70:=Tryz.isAgg69
  z70:=Tryz.sizeOf69
  v70:=Tryz.zeroValue69
  t72:=Tryz.underlying71
  a72:=Tryz.isAgg71
  z72:=Tryz.sizeOf71
  v72:=Tryz.zeroValue71
  t164:=Tryz.underlying145
  a164:=Tryz.isAgg145
  z164:=Tryz.sizeOf145
  v164:=Tryz.zeroValue145 }
theorem Tryz.Builder_X72_240: Builder.X72 Tryz.prog Tryz.lays240_ren:={
  sizeBuilder:=by kernel_rfl
  liesBuilder:=by kernel_rfl }
end Go.Proofs
namespace Go.Proofs.YtmnlfahgklnpeaaGreatDoor.G
open Go.RowKit Go.Shelf

theorem jeb{w:World}{gw:Nat}(h0:w.cell? ⟨gw,0,none⟩=some (.pointer (some ⟨gw,0,none⟩))):Calls Tryz.prog 68 #[.pointer (some ⟨gw,0,none⟩)] w fun e w'=>e=.returned (.tuple #[])∧w'=w:=
  Any.Builder_copyCheck_used Tryz.lays240 Tryz.Builder_X72_240 gw w h0
theorem jof{w:World}{gw:Nat}(h0:w.cell? ⟨gw,0,none⟩=some (.pointer none))(hsh:w.shape? gw=some (182,3))(hfz:w.frozen? ⟨gw,0,none⟩=false):Calls Tryz.prog 68 #[.pointer (some ⟨gw,0,none⟩)] w fun e w'=>e=.returned (.tuple #[])∧w'=w.setCell ⟨gw,0,none⟩ (.pointer (some ⟨gw,0,none⟩)):=by
  obtain⟨j,hj,hjs⟩:=Option.map_eq_some_iff.1 Tryz.Builder_X72_240.sizeBuilder
  go_enter Tryz.func68,Tryz.ntmps68
  go_wp2
  rw[Lib.run_to_unsafe w ⟨gw,0,none⟩ Tryz.underlying69 Tryz.underlying145 hj (by rw[hjs]; decide) hsh (Nat.zero_lt_succ 2)];simp only[Result.andThen];rw[Oper.upon_value]
  go_wp2
  rw[run_callFunc_extern Tryz.func101 (by kernel_rfl) (by kernel_rfl) (by kernel_rfl) (e:=Extern.AbiNoEscape.same) (by kernel_rfl)];rw[Lib.run_noEscape];simp only[Result.andThen];rw[Oper.upon_value]
  go_wp2
  rw[Lib.run_from_unsafe w ⟨gw,0,none⟩ Tryz.underlying145 Tryz.underlying69 hj hsh (by kernel_rfl)];simp only[Result.andThen];rw[Oper.upon_value]
  go_wp2
  go_end0
  exact⟨rfl,rfl⟩
theorem zxh{w0 w:World}{gw:Nat}{p v:Value}{pl:Bool}{L:List Ck}(hp:p=.pointer none∨p=.pointer (some ⟨gw,0,none⟩))(hM:Mg w0 w (.obj gw (.cells #[p,v,.bool pl] 182)::L)):Calls Tryz.prog 68 #[.pointer (some ⟨gw,0,none⟩)] w fun e w'=>e=.returned (.tuple #[])∧Mg w0 w' (.obj gw (.cells #[.pointer (some ⟨gw,0,none⟩),v,.bool pl] 182)::L):=by
  have hc:=hM.cell 0 (vs:=[p,v,.bool pl]) rfl 0 rfl;rcases hp with rfl|rfl
  · have hb:=hM.obj 0 rfl;refine(jof hc (by simp[World.shape?,hb]) (hM.froz 0 (vs:=[_,_,_]) rfl 0)).mono ?_;rintro e w' ⟨rfl,rfl⟩;exact⟨rfl,hM.put 0 (vs:=[_,v,.bool pl]) rfl 0 _⟩
  · refine(jeb hc).mono ?_;rintro e w' ⟨rfl,rfl⟩;exact⟨rfl,hM⟩
theorem qth{B:Nat}{w0 w:World}(h:Below B w0 w){g:Nat}(hg:B≤g)(n:Nat):Below B w0 (w.freeze ⟨g,0,none⟩ n):=Lib.below_freeze h (p:=⟨g,0,none⟩) hg n
theorem xaa{w:World}{B gw g cap:Nat}{p q:Value}{l:List UInt8}{cur:Array Value}(h0:l≠[])(hbk:w.heap[gw]?=some (.cells #[p,.slice (some ⟨g,0,none⟩) l.length cap,q] 182 (0,0)))(hg:w.heap[g]?=some (.cells cur 5 (0,0)))(hcap:l.length≤cap)(hmax:l.length≤9223372036854775807)(hB:B≤g)
    (hcs:∀j x,l[j]?=some x→w.cell? ⟨g,j,none⟩=some (.int .u8 ((x:UInt8).toNat:Nat))) (hsz:l.length≤cur.size):Calls Tryz.prog 39 #[.pointer (some ⟨gw,0,none⟩)] w fun e w'=>e=.returned (.string ⟨l.toArray⟩)∧Below B w w':=by
  have _:l.length≠0:=by simpa using h0
  have mixed:Tryz.prog.follows .mixedOrders=true:=by kernel_rfl
  have c1:w.drew.cell? ⟨gw,1,none⟩=some (.slice (some ⟨g,0,none⟩) l.length cap):=by
    have:w.drew.heap[gw]?=some (.cells #[p,.slice (some ⟨g,0,none⟩) l.length cap,q] 182 (0,0)):=hbk;rw[Lib.cell_of_heap this]; rfl
  have hSD:(Builtin.unsafeSliceData_ #[27] 124 #[.slice (some ⟨g,0,none⟩) l.length cap]).run Tryz.prog w.drew=.ok (.pointer (some ⟨g,0,none⟩)) w.drew:=
    Lib.run_unsafeSliceData_row _ _ _ _ _ _ (by omega)
  have hUS:(Builtin.unsafeString_ #[124,3] 9 #[.pointer (some ⟨g,0,none⟩),.int .i64 l.length]).run Tryz.prog w.drew=.ok (.string ⟨l.toArray⟩) (w.drew.freeze ⟨g,0,none⟩ l.length):=
    Lib.run_unsafeString_row w.drew 124 3 9 5 Tryz.underlying124 (by kernel_rfl) g cur.size (by have hg':w.drew.heap[g]?=some (.cells cur 5 (0,0)):=hg; simp[World.shape?,hg']) l h0 (by omega) (by omega) (fun j x hx=>by rw[jt,Nat.zero_add]; exact hcs j x hx)
  go_enter Tryz.func39,Tryz.ntmps39
  go_wp2
  go_region_o
  all_goals (go_wp2; go_ret; exact⟨rfl,qth (Below.drew (Below.refl B w)) hB _⟩)
theorem zqi{P:Program}(w:World)(base:Nat)(t u ty e:TypeId)(i:TypeInfo)(ht:P.underlying t=some (.slice e))(hu:P.underlying u=some .string)(hi:P.info? e=some i)(hz:i.zero=some (.int .u8 0))(hsize:i.size=1)(hby:i.bytes=1)
    (v:Value) (n:Nat) (xs:List Value) (hown:w.ownsRow base e 1 v n xs) (s:ByteArray) (h63:n+s.size≤140737488355328) (hbase:base≤w.heap.size) :
    ∃v' w',(Builtin.append_ #[t,u] ty #[v,.string s]).run P w=.ok v' w'∧w'.ownsRow base e 1 v' (n+s.size) (xs++Lib.strCells s)∧w.grownBy w' v.ownBlock∧(v'.ownBlock=v.ownBlock∨v'.ownBlock=some w.heap.size):=by
  obtain⟨v',w',hr,h2,h3,h4⟩:=Lib.run_append_own_string (P:=P) w base t u ty e i ht hu hi hz hsize hby v n xs hown s (by unfold maxLen; omega) h63 hbase;refine⟨v',w',hr,h2,h3,?_⟩;rcases hown.2 with⟨rfl,rfl⟩|⟨g,cap,cur,rfl,hbg,hg,hnc,hcm,hcs,htake⟩
  · by_cases hm:s.size=0
    · left; rw[h4.2 ⟨rfl,hm⟩]
    · right;have hr2:=run_append_nil_string (P:=P) w t u ty e i (.int .u8 0) ht hu hi hz s (by omega) (by omega) (by rw[hby]; omega);rw[hr]at hr2;injection hr2 with e1 _;rw[e1]; rfl
  · by_cases hroom:n+s.size≤cap
    · left;have hr2:=Lib.run_append_room_string (P:=P) w t u ty e i ht hu hi hsize g n cap cur hg s hroom (by simp at hcs; omega);rw[hr]at hr2;injection hr2 with e1 _;rw[e1]; rfl
    · right;have hxl:xs.length=n:=(by simpa using hown.1);have hr2:=Lib.run_append_grow_string (P:=P) w t u ty e i (.int .u8 0) ht hu hi hz ⟨g,0,none⟩ n cap xs (by rw[hsize]; simpa using hxl) (hown.cells (g:=g) rfl) s (by omega) (by omega) (by rw[hby]; exact growslice_fits (by omega) (by omega));rw[hr]at hr2;injection hr2 with e1 _;rw[e1]; rfl
section
variable {P:Program} {w0 w:World} {L:List Ck} {l:List (Nat×Value)} {dst:Option Tmp} {ty:TypeId} {pos:String} {after:Array Edge} {guard:Option (Nat×Bool)} {v:Value}
theorem xab{w:World}{B:Nat}{e:TypeId}{v v':Value}{n n':Nat}{xs xs':List Value}{d:Ck}(hd:d.holds B w)(hat:v'.ownBlock=v.ownBlock∨v'.ownBlock=some w.heap.size)(ha:Ap (.row e 1 v n xs) d):Ap (.row e 1 v' n' xs') d:=by
  have hl:=Ck.lt hd;have key:∀z,d.at_=some z→v.ownBlock≠some z→v'.ownBlock≠some z:=fun z hz hne e=>by
    rcases hat with h|h
    · exact hne (h▸e)
    · rw[h]at e;have:=(hl z hz).2;have e2:w.heap.size=z:=io e;omega
  cases d with
  | obj g' o' => exact key g' rfl ha
  | row e' sz' v2 n2 xs2 =>
    by_cases hz:v2.ownBlock=none
    · by_cases hv:v'.ownBlock=none
      · exact .inl hv
      · exact .inr (fun e=>hv (e.trans hz))
    · obtain⟨z,hz⟩:=Option.ne_none_iff_exists'.1 hz;right;rw[hz];refine key z hz ?_;rcases ha with ha|ha
      · rw[ha]; simp
      · exact fun e=>ha (e.trans hz.symm)
  | bld b' bs' => exact ⟨ha.1, key b' rfl ha.2⟩
theorem qti{t u:TypeId}{x y:Operand}(ht:P.underlying t=some (.slice BY))(hu:P.underlying u=some .string)(hinfo:(P.info? BY).map (fun i=>(i.zero,i.size,i.bytes))=some (some (.int .u8 0),1,1))(hM:Mg w0 w L)(k:Nat){q:Nat}{xs:List Value}(hk:L[k]?=some (.row BY 1 v q xs))(hx:ev l x=some v){s:ByteArray}(hy:ev l y=some (.string s))(hlen:q+s.size≤140737488355328):
    ∃v' w',Does P l ⟨dst,.call ⟨.builtin .append,#[x,y],#[t,u]⟩,ty,pos,after,guard⟩ w v' w'∧Mg w0 w' (L.set k (.row BY 1 v' (q+s.size) (xs++Lib.strCells s))):=by
  obtain⟨i,hi,hzz⟩:=Option.map_eq_some_iff.1 hinfo;simp only[Prod.mk.injEq]at hzz;obtain⟨hz,hs,hb⟩:=hzz;obtain⟨v',w',hr,hown,hgr,hat⟩:=zqi (P:=P) w w0.heap.size t u ty BY i ht hu hi hz hs hb v q xs (hM.has k hk) s hlen hM.bel.size;refine⟨v',w',fun ρ h=>?_,hM.turn k hk (by simp) hgr hown (fun d hd ha=>xab (hM.all d hd) hat ha)⟩;simp[execOp,resolve,invoke,builtin,h x _ hx,h y _ hy,hr]
end
theorem jhc{w:World}{gw:Nat}(h0:w.cell? ⟨gw,0,none⟩=some (.pointer none))(hsh:w.shape? gw=some (71,2))(hfz:w.frozen? ⟨gw,0,none⟩=false):Calls Tryz.prog 68 #[.pointer (some ⟨gw,0,none⟩)] w fun e w'=>e=.returned (.tuple #[])∧w'=w.setCell ⟨gw,0,none⟩ (.pointer (some ⟨gw,0,none⟩)):=by
  obtain⟨j,hj,hjs⟩:=Option.map_eq_some_iff.1 Tryz.Builder_X72_240.sizeBuilder
  go_enter Tryz.func68,Tryz.ntmps68
  go_wp2
  rw[Lib.run_to_unsafe w ⟨gw,0,none⟩ Tryz.underlying69 Tryz.underlying145 hj (by rw[hjs]; decide) hsh (Nat.zero_lt_succ 1)];simp only[Result.andThen];rw[Oper.upon_value]
  go_wp2
  rw[run_callFunc_extern Tryz.func101 (by kernel_rfl) (by kernel_rfl) (by kernel_rfl) (e:=Extern.AbiNoEscape.same) (by kernel_rfl)];rw[Lib.run_noEscape];simp only[Result.andThen];rw[Oper.upon_value]
  go_wp2
  rw[Lib.run_from_unsafe w ⟨gw,0,none⟩ Tryz.underlying145 Tryz.underlying69 hj hsh (by kernel_rfl)];simp only[Result.andThen];rw[Oper.upon_value]
  go_wp2
  go_end0
  exact⟨rfl,rfl⟩
theorem xac{w0 w:World}{gw:Nat}{p v:Value}{L:List Ck}(hp:p=.pointer none∨p=.pointer (some ⟨gw,0,none⟩))(hM:Mg w0 w (.obj gw (.cells #[p,v] 71)::L)):Calls Tryz.prog 68 #[.pointer (some ⟨gw,0,none⟩)] w fun e w'=>e=.returned (.tuple #[])∧Mg w0 w' (.obj gw (.cells #[.pointer (some ⟨gw,0,none⟩),v] 71)::L):=by
  have hc:=hM.cell 0 (vs:=[p,v]) rfl 0 rfl;rcases hp with rfl|rfl
  · have hb:=hM.obj 0 rfl;refine(jhc hc (by simp[World.shape?,hb]) (hM.froz 0 (vs:=[_,_]) rfl 0)).mono ?_;rintro e w' ⟨rfl,rfl⟩;exact⟨rfl,hM.put 0 (vs:=[_,v]) rfl 0 _⟩
  · refine(jeb hc).mono ?_;rintro e w' ⟨rfl,rfl⟩;exact⟨rfl,hM⟩
theorem jog{w:World}{B gw g cap:Nat}{p:Value}{l:List UInt8}{cur:Array Value}(h0:l≠[])(hbk:w.heap[gw]?=some (.cells #[p,.slice (some ⟨g,0,none⟩) l.length cap] 71 (0,0)))(hg:w.heap[g]?=some (.cells cur 5 (0,0)))(hcap:l.length≤cap)(hmax:l.length≤9223372036854775807)(hB:B≤g)
    (hcs:∀j x,l[j]?=some x→w.cell? ⟨g,j,none⟩=some (.int .u8 ((x:UInt8).toNat:Nat))) (hsz:l.length≤cur.size):Calls Tryz.prog 39 #[.pointer (some ⟨gw,0,none⟩)] w fun e w'=>e=.returned (.string ⟨l.toArray⟩)∧Below B w w':=by
  have _:l.length≠0:=by simpa using h0
  have mixed:Tryz.prog.follows .mixedOrders=true:=by kernel_rfl
  have c1:w.drew.cell? ⟨gw,1,none⟩=some (.slice (some ⟨g,0,none⟩) l.length cap):=by
    have:w.drew.heap[gw]?=some (.cells #[p,.slice (some ⟨g,0,none⟩) l.length cap] 71 (0,0)):=hbk;rw[Lib.cell_of_heap this]; rfl
  have hSD:(Builtin.unsafeSliceData_ #[27] 124 #[.slice (some ⟨g,0,none⟩) l.length cap]).run Tryz.prog w.drew=.ok (.pointer (some ⟨g,0,none⟩)) w.drew:=
    Lib.run_unsafeSliceData_row _ _ _ _ _ _ (by omega)
  have hUS:(Builtin.unsafeString_ #[124,3] 9 #[.pointer (some ⟨g,0,none⟩),.int .i64 l.length]).run Tryz.prog w.drew=.ok (.string ⟨l.toArray⟩) (w.drew.freeze ⟨g,0,none⟩ l.length):=
    Lib.run_unsafeString_row w.drew 124 3 9 5 Tryz.underlying124 (by kernel_rfl) g cur.size (by have hg':w.drew.heap[g]?=some (.cells cur 5 (0,0)):=hg; simp[World.shape?,hg']) l h0 (by omega) (by omega) (fun j x hx=>by rw[jt,Nat.zero_add]; exact hcs j x hx)
  go_enter Tryz.func39,Tryz.ntmps39
  go_wp2
  go_region_o
  all_goals (go_wp2; go_ret; exact⟨rfl,qth (Below.drew (Below.refl B w)) hB _⟩)
theorem yy{P:Program}{t:TypeId}{x y:Operand}{a b:List UInt8}(hm:a.length+b.length≤9223372036854775807):∀w,(do eqGuard .add t x y (.string ⟨a.toArray⟩) (.string ⟨b.toArray⟩); binOp .add t (.string ⟨a.toArray⟩) (.string ⟨b.toArray⟩):Sem Value).run P w=.ok (.string ⟨(a++b).toArray⟩) w:=fun w=>by
  have e:(⟨a.toArray⟩++⟨b.toArray⟩:ByteArray)=⟨(a++b).toArray⟩:=by
    apply ByteArray.ext;simp
  rw[jlb (P:=P) (a:=⟨a.toArray⟩) (b:=⟨b.toArray⟩) (by show a.toArray.size+b.toArray.size≤_; simpa using hm) w,e]
open Go.RowKit
theorem TwA_is1_27: Is1 Tryz.prog 27:=⟨⟨_,ib,rfl⟩,by kernel_rfl⟩
theorem TwA_fld_71_1: FieldAt Tryz.prog 71 1 1:=⟨_,_,Tryz.underlying71,rfl,rfl,by kernel_rfl⟩
theorem toW{w0 w:World}{a b:Ck}{X T:List Ck}(h:Mg w0 w (X++a::b::T)):Mg w0 w (a::b::(X++T)):=h.perm (List.perm_middle.trans (.cons _ List.perm_middle))
theorem zi{w0 w:World}{a b:Ck}{X T:List Ck}(h:Mg w0 w (a::b::(X++T))):Mg w0 w (X++a::b::T):=h.perm ((List.perm_middle.trans (.cons _ List.perm_middle)).symm)
theorem zgb(s:ByteArray):Lib.strCells s=Lib.byteCells s.data.toList:=rfl
theorem jec{bs:List UInt8}{s:ByteArray}:bs.length+s.size=(bs++s.data.toList).length:=by rw[fv,zm]
theorem jo{w0 w:World}{gw:Nat}{p v:Value}{pl:Bool}{bs:List UInt8}{T:List Ck}(hp:p=.pointer none∨p=(pA gw 0))(hM0:Mg w0 w (.obj gw (.cells #[p,v,bV pl] 182)::.row BY 1 v bs.length (Lib.byteCells bs)::T)){s:ByteArray}(hroom:bs.length+s.size≤140737488355328):Calls Tryz.prog 33 #[pA gw 0,.string s] w fun e w'=>e=.returned (.tuple #[iV ((s.size:Nat):Int),.nilIface])∧∃v',Mg w0 w' (.obj gw (.cells #[pA gw 0,v',bV pl] 182)::.row BY 1 v' (bs++s.data.toList).length (Lib.byteCells (bs++s.data.toList))::T):=by
 have M:Mg w0 w (.obj gw (.cells #[p,v,bV pl] 182)::.row BY 1 (v) bs.length ((Lib.byteCells bs))::T):=hM0;refine wof Tryz.func33 Tryz.ntmps33 fun Q hret hnorm hP a A=>?_;refine wsr fun _ ab=>?_;iterate 2 refine sda A λA=>?_
 refine qwr ab fun _ ac=>sdm A λA=>?_;refine sct A ec (zxh hp M) ?_;rintro _ _ ⟨rfl,hMc⟩;replace M:=hMc;refine⟨_,rfl,?_⟩;intro a A;refine qwr ac fun K4 ae=>?_;iterate 2 refine sdm A λA=>?_
 refine sdn A λA=>?_;refine sdf A 1 TwA_fld_71_1 λA=>?_;refine sdl A M TwA_is1_27 0 λA=>?_;refine sdm A λA=>?_;refine qwi (k:=1) (q:=bs.length) (m:=s.size) (xs:=Lib.byteCells bs) (news:=Lib.strCells s) A rfl rfl rfl (qti ib gi (by kernel_rfl) M 1 rfl rfl rfl hroom) (fun _=>rfl) ?_;intro _ _ M a A;obtain⟨af,ag,rfl⟩:=yd (M.has 1 rfl);refine sdn A λA=>?_;refine sdf A 1 TwA_fld_71_1 λA=>?_;refine qt A M rfl rfl (qj rfl rfl rfl (by kernel_rfl) M 0 rfl rfl rfl) 0 rfl rfl rfl ?_;intro _ M;refine qwr ae fun _ aa=>sdm A λA=>?_;refine sdo (v:=iV (((s.size:Nat):Int))) A (qgd rfl (jbj gi)) λA=>?_;iterate 2 refine sda A λA=>?_
 refine qa (aa _ _ (wp_ret (hret _ _ (en2 A rfl (qf rfl) (qf rfl) ?_))));refine⟨rfl,.slice af (bs.length+s.size) ag,?_⟩;rw[←jec,Lib.byteCells_append,←zgb];exact M
theorem qkf{w0 w:World}{gb:Nat}{p v:Value}{bs:List UInt8}{T:List Ck}(hp:p=.pointer none∨p=(pA gb 0))(hM0:Mg w0 w (.obj gb (.cells #[p,v] 71)::.row BY 1 v bs.length (Lib.byteCells bs)::T)){s:ByteArray}(hroom:bs.length+s.size≤140737488355328):Calls Tryz.prog 33 #[pA gb 0,.string s] w fun e w'=>e=.returned (.tuple #[iV ((s.size:Nat):Int),.nilIface])∧∃v',Mg w0 w' (.obj gb (.cells #[pA gb 0,v'] 71)::.row BY 1 v' (bs++s.data.toList).length (Lib.byteCells (bs++s.data.toList))::T):=by
 have M:Mg w0 w (.obj gb (.cells #[p,v] 71)::.row BY 1 (v) bs.length ((Lib.byteCells bs))::T):=hM0;refine wof Tryz.func33 Tryz.ntmps33 fun Q hret hnorm hP a A=>?_;refine wsr fun _ ab=>?_;iterate 2 refine sda A λA=>?_
 refine qwr ab fun _ ac=>sdm A λA=>?_;refine sct A ec (xac hp M) ?_;rintro _ _ ⟨rfl,hMc⟩;replace M:=hMc;refine⟨_,rfl,?_⟩;intro a A;refine qwr ac fun K4 ae=>?_;iterate 2 refine sdm A λA=>?_
 refine sdn A λA=>?_;refine sdf A 1 jnd λA=>?_;refine sdl A M quf 0 λA=>?_;refine sdm A λA=>?_;refine qwi (k:=1) (q:=bs.length) (m:=s.size) (xs:=Lib.byteCells bs) (news:=Lib.strCells s) A rfl rfl rfl (qti ib gi (by kernel_rfl) M 1 rfl rfl rfl hroom) (fun _=>rfl) ?_;intro _ _ M a A;obtain⟨af,ag,rfl⟩:=yd (M.has 1 rfl);refine sdn A λA=>?_;refine sdf A 1 jnd λA=>?_;refine qt A M rfl rfl (qj rfl rfl rfl (by kernel_rfl) M 0 rfl rfl rfl) 0 rfl rfl rfl ?_;intro _ M;refine qwr ae fun _ aa=>sdm A λA=>?_;refine sdo (v:=iV (((s.size:Nat):Int))) A (qgd rfl (jbj gi)) λA=>?_;iterate 2 refine sda A λA=>?_
 refine qa (aa _ _ (wp_ret (hret _ _ (en2 A rfl (qf rfl) (qf rfl) ?_))));refine⟨rfl,.slice af (bs.length+s.size) ag,?_⟩;rw[←jec,Lib.byteCells_append,←zgb];exact M
theorem zqj{w0 w:World}{gb:Nat}{p v:Value}{bs:List UInt8}{T:List Ck}(M:Mg w0 w (.obj gb (.cells #[p,v] 71)::.row BY 1 v bs.length (Lib.byteCells bs)::T))(h0:bs≠[])(hmax:bs.length≤9223372036854775807):Calls Tryz.prog 39 #[pA gb 0] w fun e w'=>e=.returned (.string ⟨bs.toArray⟩)∧Below w0.heap.size w w':=by
 have hown:=M.has 1 rfl;have hb:=M.obj 0 rfl;have aa:bs.length≠0:=by simpa using h0
 rcases hown.2 with⟨_,hz⟩|⟨g,cap,cur,rfl,hbg,hg,hnc,hcm,hcs,htake⟩
 ·exact absurd hz aa
 ·exact jog h0 hb hg hnc hmax hbg (fun j x hx=>by
   have h9:=hown.cells (g:=g) rfl j (.int .u8 x.toNat) (by simp[Lib.byteCells,hx]);rw[jt,Nat.zero_add]at h9;exact h9) (by simp at hcs; omega)
theorem zxi{w:World}{so:Option Addr}{ca:Nat}{ps:List Sp}(hPs:PR w so ps)(hl:ps.length≤1000000000)(hck:ckC (ps.map Sp.k)=0):Calls Tryz.prog 34 #[.slice so ps.length ca] w (RB w (.string (kat (hdT (ps.map Sp.k))).nm)):=by
 have M:=Mg.start w;refine wof Tryz.func34 Tryz.ntmps34 fun Q hret hnorm hP a A=>?_;refine wsr fun _ ak=>sda A λA=>?_;refine qwr ak fun _ am=>sda A λA=>?_;refine qwk am fun _ ai=>wsr fun K4 aj=>sdm A λA=>?_;rcases tf (decide (0≤fdI (ps.map Sp.k) 3))with aa|aa
 ·have aa':=f5 aa;refine sct A ec (zfg (hPs.below M.bel) hl (qpa hck) aa) ?_;rintro _ _ ⟨x9,rfl,⟨ix9,mx9,rx9⟩,ap⟩;replace rx9:=hPs.own _ mx9;replace M:=M.call ap;refine⟨_,rfl,?_⟩;intro a A;refine sdm A λA=>?_;iterate 2 refine sde A λA=>?_
  refine zj (vs:=ue.c) (t:=65) A M rfl rfl rfl pg (qm (z:=.agg ue.c.toArray) (by kernel_rfl) rfl) (by decide) ?_;intro g8 _ M a A;refine qt A M rfl rfl (qj rfl rfl rfl (by kernel_rfl) M 0 rfl rfl rfl) 0 rfl rfl rfl ?_;intro _ M;refine sda A λA=>?_;refine qwr aj fun _ ab=>sdm A λA=>?_;refine qct ab A ?_;refine wrl (sdf A 0 qch λA=>?_);refine sdl A M o93 0 λA=>?_;refine sda A λA=>?_;refine qwr ai fun _ ac=>sdm A λA=>?_;refine gcl A M ec (qih (qpa hck _ mx9)) fun _ _ M a A=>?_;refine sdm A λA=>?_;iterate 2 refine sde A λA=>?_
  refine zj (vs:=xx.c) (t:=120) A M rfl rfl rfl pg (qm (z:=.agg xx.c.toArray) (by kernel_rfl) rfl) (by decide) ?_;intro g15 _ M a A;refine qt A M rfl rfl (qj rfl rfl rfl (by kernel_rfl) M 0 rfl rfl rfl) 0 rfl rfl rfl ?_;intro _ M;refine sda A λA=>?_;refine qa (ac _ _ (wsr fun _ ae=>sdf A 0 jdg λA=>?_));refine sdl A M o99 0 λA=>?_;refine sda A λA=>?_;refine qr1 ae hret A ?_;exact⟨by rw[jea (f5 aa) (yg ix9)]<;>rfl,M.bel⟩
 ·have aa':=fy aa;refine gcl A M ec (zqd (hPs.below M.bel) hl (qpa hck) aa) fun _ _ M a A=>?_;refine sdm A λA=>?_;iterate 2 refine sde A λA=>?_
  refine zj (vs:=ue.c) (t:=65) A M rfl rfl rfl pg (qm (z:=.agg ue.c.toArray) (by kernel_rfl) rfl) (by decide) ?_;intro g21 _ M a A;refine qt A M rfl rfl (qj rfl rfl rfl (by kernel_rfl) M 0 rfl rfl rfl) 0 rfl rfl rfl ?_;intro _ M;refine sda A λA=>?_;refine qwr aj fun _ af=>sdm A λA=>?_;refine qcf af A ?_;refine wp_skip (ai _ _ (wsr fun _ ag=>sdm A λA=>?_));refine gcl A M ec (qih (t:=0) rfl) fun _ _ M a A=>?_;refine sdm A λA=>?_;iterate 2 refine sde A λA=>?_
  refine zj (vs:=xx.c) (t:=120) A M rfl rfl rfl pg (qm (z:=.agg xx.c.toArray) (by kernel_rfl) rfl) (by decide) ?_;intro g28 _ M a A;refine qt A M rfl rfl (qj rfl rfl rfl (by kernel_rfl) M 0 rfl rfl rfl) 0 rfl rfl rfl ?_;intro _ M;refine sda A λA=>?_;refine qa (ag _ _ (wsr fun _ ah=>sdf A 0 jdg λA=>?_));refine sdl A M o99 0 λA=>?_;refine sda A λA=>?_;refine qr1 ah hret A ?_;exact⟨by rw[joa (fy aa)]<;>rfl,M.bel⟩
theorem xha{ps:List Sp}{t:Int}{x:Sp}(h:0≤fdI (ps.map Sp.k) t)(hx:ps[(fdI (ps.map Sp.k) t).toNat]?=some x):yn x.ty t=true:=by
 unfold fdI at h hx;obtain⟨s,h1,h2⟩:=jmg h;rw[yg hx]at h1;rw[←io h1]at h2;exact h2
theorem zkj{ps:List Sp}(hck:ckC (ps.map Sp.k)=0){t:Int}(ht:t=1∨t=7∨t=8){x:Sp}(h:0≤fdI (ps.map Sp.k) t)(hx:ps[(fdI (ps.map Sp.k) t).toNat]?=some x)(hm:x∈ps):x.vs.length=1:=by
 have h1:=zka ((zjj hck).2 _ (j5 hm));have h2:un x.ty=1:=xgd h1.1 ht (xha h hx);have h3:=h1.2.1;rw[show x.k.2.length=x.vs.length from gy _,show x.k.1=x.ty from rfl,h2]at h3;omega
theorem qzh{w:World}{so:Option Addr}{ca:Nat}{ps:List Sp}(hPs:PR w so ps)(hl:ps.length≤1000000000)(hck:ckC (ps.map Sp.k)=0){t:Int}(ht1:t=1∨t=7∨t=8):Calls Tryz.prog 35 #[.slice so ps.length ca,iV t] w fun e w'=>(∃d1:Dt,0≤fdI (ps.map Sp.k) t∧flT (ps.map Sp.k) t=some d1.tr∧d1.rd w∧(∃p∈ps,d1∈p.vs)∧e=.returned (.tuple #[.agg (d1.d.cells d1.ts.length).toArray,bV true])∧Below w.heap.size w w')∨(¬0≤fdI (ps.map Sp.k) t∧e=.returned (.tuple #[.agg (zb.d.cells zb.ts.length).toArray,bV false])∧Below w.heap.size w w'):=by
 have M:=Mg.start w;refine wof Tryz.func35 Tryz.ntmps35 fun Q hret hnorm hP a A=>?_;refine wsr fun _ ai=>zj (vs:=(zb.d.cells zb.ts.length)) (t:=30) A M rfl rfl rfl pg (qm (z:=.agg (zb.d.cells zb.ts.length).toArray) (by kernel_rfl) rfl) (by decide) ?_;intro g2 _ M a A;refine sda A λA=>?_;refine qwr ai fun K4 ah=>?_;iterate 2 refine sdm A λA=>?_
 rcases tf (decide (0≤fdI (ps.map Sp.k) t))with aa|aa
 ·have aa':=f5 aa;refine sct A ec (zfg (hPs.below M.bel) hl (qpa hck) aa) ?_;rintro _ _ ⟨x9,rfl,⟨ix9,mx9,rx9⟩,aj⟩;replace rx9:=hPs.own _ mx9;replace M:=M.call aj;refine⟨_,rfl,?_⟩;intro a A;refine sdm A λA=>?_;iterate 2 refine sde A λA=>?_
  refine zj (vs:=ue.c) (t:=65) A M rfl rfl rfl pg (qm (z:=.agg ue.c.toArray) (by kernel_rfl) rfl) (by decide) ?_;intro g8 _ M a A;refine qt A M rfl rfl (qj rfl rfl rfl (by kernel_rfl) M 0 rfl rfl rfl) 0 rfl rfl rfl ?_;intro _ M;refine sda A λA=>?_;refine qwk ah fun _ ab=>wsr fun _ ac=>sdm A λA=>?_;refine sdu A λA=>?_;refine qcf ac A ?_;refine wp_skip (ab _ _ (wsk fun _ ae=>?_));have hone:=zkj hck ht1 (f5 aa) ix9 mx9;refine wrl (sdf A 1 qci λA=>?_);refine sdl A M ke 0 λA=>?_;obtain⟨tk14,btk14,otk14,itk14,mtk14,rtk14_,ltk14,Htk14⟩:=que rx9.v rx9.d (i:=0) (by omega);refine sdo (v:=pA btk14 (otk14+0*11)) A (qk (k:=0) f9 (by kernel_rfl) rfl rfl (by first|rfl|omega) ltk14 (by omega)) λA=>?_;refine sdo A (zp M Htk14 zv rfl rfl) λA=>?_;refine qt A M rfl rfl (qj rfl rfl rfl (by kernel_rfl) M 1 rfl rfl rfl) 1 rfl rfl rfl ?_;intro _ M;refine sda A λA=>?_;refine qa (ae _ _ (wp_ret (hret _ _ (en2 A rfl (zw M zv rfl 1 rfl (cs:=[iV tk14.d.k,iV tk14.d.n,bV tk14.d.y.q.b1,.slice tk14.d.y.o1 tk14.d.y.q.t1.length tk14.d.y.c1,.slice tk14.d.y.o2 tk14.d.y.q.q1.length tk14.d.y.c2,bV tk14.d.y.q.b2,.slice tk14.d.y.o3 tk14.d.y.q.t2.length tk14.d.y.c3,.slice tk14.d.y.o4 tk14.d.y.q.q2.length tk14.d.y.c4,.string tk14.d.s,.slice tk14.d.ro tk14.d.rl.length tk14.d.rc,.slice tk14.d.lo tk14.ts.length tk14.d.lc]) rfl rfl) (qf rfl) ?_))));exact .inl ⟨tk14,f5 aa,qvh (f5 aa) (yg ix9) (show(x9.vs.map Dt.tr)[0]?=some tk14.tr by rw[List.getElem?_map,itk14]; rfl),rtk14_,⟨x9,mx9,mtk14⟩,rfl,M.bel⟩
 ·have aa':=fy aa;refine gcl A M ec (zqd (hPs.below M.bel) hl (qpa hck) aa) fun _ _ M a A=>?_;refine sdm A λA=>?_;iterate 2 refine sde A λA=>?_
  refine zj (vs:=ue.c) (t:=65) A M rfl rfl rfl pg (qm (z:=.agg ue.c.toArray) (by kernel_rfl) rfl) (by decide) ?_;intro g18 _ M a A;refine qt A M rfl rfl (qj rfl rfl rfl (by kernel_rfl) M 0 rfl rfl rfl) 0 rfl rfl rfl ?_;intro _ M;refine sda A λA=>?_;refine qwk ah fun _ _=>wsr fun _ af=>sdm A λA=>?_;refine sdu A λA=>?_;refine qct af A ?_;refine wsr fun _ ag=>sdo (v:=.agg (zb.d.cells zb.ts.length).toArray) A (qn rfl (fun w=>by kernel_rfl)) λA=>?_;refine qt A M rfl rfl (qj rfl rfl rfl (by kernel_rfl) M 1 rfl rfl rfl) 1 rfl rfl rfl ?_;intro _ M;refine sda A λA=>?_;refine qa (ag _ _ (wp_ret (hret _ _ (en2 A rfl (zw M zv rfl 1 rfl (cs:=zD) rfl rfl) (qf rfl) ?_))));exact .inr ⟨fy aa,rfl,M.bel⟩
theorem qja{w:World}{so:Option Addr}{ca:Nat}{ps:List Sp}(hPs:PR w so ps)(hl:ps.length≤1000000000)(hck:ckC (ps.map Sp.k)=0){t:Int}(ht1:t=1∨t=7∨t=8)(h:decide (0≤fdI (ps.map Sp.k) t)=true):Calls Tryz.prog 35 #[.slice so ps.length ca,iV t] w fun e w'=>∃d1:Dt,e=.returned (.tuple #[.agg (d1.d.cells d1.ts.length).toArray,bV true])∧(flT (ps.map Sp.k) t=some d1.tr∧d1.rd w∧∃p∈ps,d1∈p.vs)∧Below w.heap.size w w':=by
 refine(qzh hPs hl hck ht1).mono ?_;rintro e w' (⟨d1,_,h2,h3,h4,h5,h6⟩|⟨h0,_⟩)
 ·exact⟨d1,h5,⟨h2,h3,h4⟩,h6⟩
 ·exact absurd (f5 h) h0
theorem qmj{w:World}{so:Option Addr}{ca:Nat}{ps:List Sp}(hPs:PR w so ps)(hl:ps.length≤1000000000)(hck:ckC (ps.map Sp.k)=0){t:Int}(ht1:t=1∨t=7∨t=8)(h:decide (0≤fdI (ps.map Sp.k) t)=false):Calls Tryz.prog 35 #[.slice so ps.length ca,iV t] w (RB w (.tuple #[.agg (zb.d.cells zb.ts.length).toArray,bV false])):=by
 refine(qzh hPs hl hck ht1).mono ?_;rintro e w' (⟨d1,h0,_⟩|⟨_,h1,h2⟩)
 ·exact absurd h0 (fy h)
 ·exact⟨h1,h2⟩
theorem zxj{w:World}{t:Dt}(ht:t.rd w)(hb:t.tr.bulk≤300000000)(hT:Tabs8 w):Calls Tryz.prog 72 #[.agg (t.d.cells t.ts.length).toArray] w fun e w'=>∃so' ca' ys k,e=.returned (.tuple #[.slice so' (ys:List Dt).length ca',iV k])∧((ys.map Dt.tr,k)=qfc t.tr∧Rt w' so' ys∧In (w.heap.size≤·) so' ys∧(∀x∈ys,x.rd w'∧x.at_ (w.heap.size≤·)))∧Below w.heap.size w w':=by
 have M:=Mg.start w;refine wof Tryz.func72 Tryz.ntmps72 fun Q hret hnorm hP a A=>?_;refine wsr fun _ aq=>zj (vs:=(t.d.cells t.ts.length)) (t:=30) A M rfl rfl rfl pg (qx rfl rfl) (by decide) ?_;intro g2 _ M a A;iterate 2 refine sda A λA=>?_
 refine qa (aq _ _ (wsr fun K4 ae=>sdo A (qz M zv rfl 0 rfl (cs:=(t.d.cells t.ts.length)) rfl rfl) λA=>?_));rcases tf (qs qh t.tr)with aa|aa
 ·rcases tf ((js t.tr).isSome)with ab|ab
  ·refine sct A ec (zxe M.bel ht (by omega) (hT.below M.bel) aa ab) ?_;rintro _ _ ⟨_,_,ys,rfl,⟨hy1,hy2,hy3⟩,ar⟩;have hyb:=qij hy1;replace M:=(M.both ar (qi (by simp) (za zd)) (qi (by simp) (za zd)));refine⟨_,rfl,?_⟩;intro a A;refine sdm A λA=>?_;iterate 2 refine sde A λA=>?_
   iterate 2 refine sda A λA=>?_
   refine qwk ae fun _ af=>wsr fun _ ag=>sdm A λA=>?_;refine sdo (v:=bV false) A dbK λA=>?_;refine qcf ag A ?_;refine wp_skip (af _ _ (wsr fun _ ah=>sdm A λA=>?_));refine sct A ec (zfd (fun t _=>qcj t) (kv (M.has 0 rfl)).1 (fun t ht=>Dt.keep M.bel _ (hy2 t ht)) (by omega)) ?_;rintro _ _ ⟨_,us,rfl,⟨hu1,hu2⟩,ac⟩;obtain⟨au,av,rfl⟩:=xu (ac.has 0 rfl);have hR8:=(kv (ac.has 0 rfl)).1;have hI8:=zja (ac.has 0 rfl) us;have ap:=M.bel.size;replace M:=M.call ac.bel;refine⟨_,rfl,?_⟩;intro a A;iterate 2 refine sda A λA=>?_
   refine qa (ah _ _ (wp_ret (hret _ _ (en2 A rfl (qf rfl) (qf rfl) ?_))));exact⟨au,av,us,0,rfl,⟨by rw[qhb aa hy1,hu1],hR8,hI8.mono (fun b hb=>gz ap hb),fun x hx=>⟨(hu2 x hx).1,Dt.at_mono (fun b hb=>gz ap hb.1) _ (hu2 x hx).2⟩⟩,M.bel⟩
  ·refine gcl A M ec (zxf M.bel ht (by omega) (hT.below M.bel) aa ab) fun _ _ M a A=>?_;refine sdm A λA=>?_;iterate 2 refine sde A λA=>?_
   iterate 2 refine sda A λA=>?_
   refine qwk ae fun _ _=>wsr fun _ ai=>sdm A λA=>?_;refine sdo (v:=bV true) A dbK λA=>?_;refine qct ai A ?_;refine wsr fun _ aj=>sdm A λA=>?_;iterate 2 refine sda A λA=>?_
   refine qa (aj _ _ (wp_ret (hret _ _ (en2 A rfl (qf rfl) (qf rfl) ?_))));exact⟨none,0,[],10,rfl,⟨(qmf aa (jzj ab)).symm,(fun h=>absurd rfl h),(fun h=>absurd rfl h),(fun x h=>by cases h)⟩,M.bel⟩
 ·refine gcl A M ec (jhb M.bel ht (by omega) (hT.below M.bel) aa) fun _ _ M a A=>?_;refine sdm A λA=>?_;iterate 2 refine sde A λA=>?_
  iterate 2 refine sda A λA=>?_
  refine qwk ae fun _ _=>wsr fun _ ak=>sdm A λA=>?_;refine sdo (v:=bV true) A dbK λA=>?_;refine qct ak A ?_;refine wsr fun _ am=>sdm A λA=>?_;iterate 2 refine sda A λA=>?_
  refine qa (am _ _ (wp_ret (hret _ _ (en2 A rfl (qf rfl) (qf rfl) ?_))));exact⟨none,0,[],2,rfl,⟨(qrb aa).symm,(fun h=>absurd rfl h),(fun h=>absurd rfl h),(fun x h=>by cases h)⟩,M.bel⟩
theorem qug{w:World}{so:Option Addr}{ca:Nat}{ps:List Sp}(hPs:PR w so ps)(hl:ps.length≤1000000000)(hck:ckC (ps.map Sp.k)=0)(hB:PB ps)(hT:Tabs8 w):Calls Tryz.prog 37 #[.slice so ps.length ca] w fun e w'=>∃so' ca' ys,e=.returned (.slice so' (ys:List Dt).length ca')∧(ys.map Dt.tr=irT (ps.map Sp.k)∧Rt w' so' ys∧In (w.heap.size≤·) so' ys∧(∀x∈ys,x.rd w'∧x.at_ (w.heap.size≤·)))∧Below w.heap.size w w':=by
 have M:=Mg.start w;refine wof Tryz.func37 Tryz.ntmps37 fun Q hret hnorm hP a A=>?_;refine wsr fun _ ak=>sda A λA=>?_;refine qwr ak fun _ ai=>sdm A λA=>?_;rcases tf (decide (0≤fdI (ps.map Sp.k) 7))with aa|aa
 ·have aa':=f5 aa;refine sct A ec (qja (hPs.below M.bel) hl hck (.inr (.inl rfl)) aa) ?_;rintro _ _ ⟨d1,rfl,⟨hfd1,-,hqd1⟩,am⟩;have hrd1:d1.rd w:=(by obtain⟨p9,hp9,hd9⟩:=hqd1; exact(hPs.own p9 hp9).d _ hd9);replace M:=M.call am;refine⟨_,rfl,?_⟩;intro a A;refine sdm A λA=>?_;iterate 2 refine sde A λA=>?_
  refine zj (vs:=(zb.d.cells zb.ts.length)) (t:=30) A M rfl rfl rfl pg (qm (z:=.agg (zb.d.cells zb.ts.length).toArray) (by kernel_rfl) rfl) (by decide) ?_;intro g6 _ M a A;refine qt A M rfl rfl (qj rfl rfl rfl (by kernel_rfl) M 0 rfl rfl rfl) 0 rfl rfl rfl ?_;intro _ M;refine sda A λA=>?_;refine qwk ai fun _ ap=>wsr fun _ ab=>sdm A λA=>?_;refine sdu A λA=>?_;refine qcf ab A ?_;refine wp_skip (ap _ _ (wsr fun _ ac=>sdo A (qz M zv rfl 0 rfl (cs:=(d1.d.cells d1.ts.length)) rfl rfl) λA=>?_));have aj:=M.bel.size;refine sct A ec (zxj (Dt.keep M.bel _ hrd1) (by obtain⟨p9,hp9,hd9⟩:=hqd1; have:=qdh hd9; have:=hB p9 hp9; omega) (hT.below M.bel)) ?_;rintro _ _ ⟨aq,ar,ys,k8,rfl,⟨au,hR8,hI8,hD8⟩,ae⟩;replace M:=M.call ae;refine⟨_,rfl,?_⟩;intro a A;refine sdm A λA=>?_;iterate 2 refine sde A λA=>?_
  iterate 2 refine sda A λA=>?_
  refine qwr ac fun _ af=>sdm A λA=>?_;refine sda A λA=>?_;refine qr1 af hret A ?_;exact⟨aq,ar,ys,rfl,⟨by unfold irT; rw[hfd1]; exact j9 Prod.fst au,hR8,hI8.mono (fun b hb=>gz aj hb),fun x hx=>⟨(hD8 x hx).1,Dt.at_mono (fun b hb=>gz aj hb) _ (hD8 x hx).2⟩⟩,M.bel⟩
 ·have aa':=fy aa;refine gcl A M ec (qmj (hPs.below M.bel) hl hck (.inr (.inl rfl)) aa) fun _ _ M a A=>?_;refine sdm A λA=>?_;iterate 2 refine sde A λA=>?_
  refine zj (vs:=(zb.d.cells zb.ts.length)) (t:=30) A M rfl rfl rfl pg (qm (z:=.agg (zb.d.cells zb.ts.length).toArray) (by kernel_rfl) rfl) (by decide) ?_;intro g17 _ M a A;refine qt A M rfl rfl (qj rfl rfl rfl (by kernel_rfl) M 0 rfl rfl rfl) 0 rfl rfl rfl ?_;intro _ M;refine sda A λA=>?_;refine qwk ai fun _ _=>wsr fun _ ag=>sdm A λA=>?_;refine sdu A λA=>?_;refine qct ag A ?_;refine wsr fun _ ah=>sda A λA=>?_;refine qr1 ah hret A ?_;exact⟨none,0,[],rfl,⟨by unfold irT; rw[qrc (fy aa)]; rfl,(fun h=>absurd rfl h),(fun h=>absurd rfl h),(fun x h=>by cases h)⟩,M.bel⟩
theorem zgc{w:World}{t:Dt}{s:List UInt8}(hd:∀w1,Below w.heap.size w w1→Calls Tryz.prog 71 #[.agg (t.d.cells t.ts.length).toArray] w1 fun e w2=>e=.returned (.tuple #[.string ⟨s.toArray⟩,iV 0])∧Below w1.heap.size w1 w2):Calls Tryz.prog 36 #[.agg (t.d.cells t.ts.length).toArray] w (RB w (.string ⟨s.toArray⟩)):=by
 have M:=Mg.start w;refine wof Tryz.func36 Tryz.ntmps36 fun Q hret hnorm hP a A=>?_;refine wsr fun _ aa=>zj (vs:=(t.d.cells t.ts.length)) (t:=30) A M rfl rfl rfl pg (qx rfl rfl) (by decide) ?_;intro g2 _ M a A;refine sda A λA=>?_;refine qa (aa _ _ (wsr fun K4 ab=>sdo A (qz M zv rfl 0 rfl (cs:=(t.d.cells t.ts.length)) rfl rfl) λA=>?_));refine gcl A M ec (hd _ M.bel) fun _ hbt M a A=>?_;refine sdm A λA=>?_;iterate 2 refine sde A λA=>?_
 iterate 2 refine sda A λA=>?_
 refine qwr ab fun _ ac=>sdm A λA=>?_;refine sda A λA=>?_;refine qr1 ac hret A ?_;exact⟨rfl,M.bel⟩
theorem zra{w:World}{t:Dt}{s:List UInt8}(hd:∀w1,Below w.heap.size w w1→Calls Tryz.prog 73 #[.agg (t.d.cells t.ts.length).toArray] w1 fun e w2=>e=.returned (.tuple #[.string ⟨s.toArray⟩,iV 0])∧Below w1.heap.size w1 w2):Calls Tryz.prog 38 #[.agg (t.d.cells t.ts.length).toArray] w (RB w (.string ⟨s.toArray⟩)):=by
 have M:=Mg.start w;refine wof Tryz.func38 Tryz.ntmps38 fun Q hret hnorm hP a A=>?_;refine wsr fun _ aa=>zj (vs:=(t.d.cells t.ts.length)) (t:=30) A M rfl rfl rfl pg (qx rfl rfl) (by decide) ?_;intro g2 _ M a A;refine sda A λA=>?_;refine qa (aa _ _ (wsr fun K4 ab=>sdo A (qz M zv rfl 0 rfl (cs:=(t.d.cells t.ts.length)) rfl rfl) λA=>?_));refine gcl A M ec (hd _ M.bel) fun _ hbt M a A=>?_;refine sdm A λA=>?_;iterate 2 refine sde A λA=>?_
 iterate 2 refine sda A λA=>?_
 refine qwr ab fun _ ac=>sdm A λA=>?_;refine sda A λA=>?_;refine qr1 ac hret A ?_;exact⟨rfl,M.bel⟩
theorem zla{bs l:List UInt8}(h1:bs.length≤1000000000)(h2:l.length≤2000000000):bs.length+l.length≤140737488355328:=by omega
theorem zya{g:Tr→List UInt8}:∀l:List Tr,l.length≤(l.flatMap fun t=>[32]++g t).length
 | [] => gm _
 | x :: xs => by
  have:=zya (g:=g) xs;simp only[ij,fv,fw,fx];omega
theorem jed{g:Tr→List UInt8}{l:List Tr}{j:Nat}{t:Tr}(h:l[j]?=some t):(l.drop j).flatMap (fun t=>[32]++g t)=([32]++g t)++(l.drop (j+1)).flatMap (fun t=>[32]++g t):=by
 obtain⟨hi,rfl⟩:=List.getElem?_eq_some_iff.1 h;rw[List.drop_eq_getElem_cons hi,ij]
theorem zgd{ps:List Sp}(hck:ckC (ps.map Sp.k)=0):okT 20 (hdT (ps.map Sp.k))=true:=by
 unfold hdT;cases e:(ps.map Sp.k)[(fdI (ps.map Sp.k) 3).toNat]? with
 | none => rfl
 | some k =>
  show okT 20 (if _ then k.1 else 0)=true
  split
  ·exact(zka ((zjj hck).2 _ (List.mem_of_getElem? e))).1
  ·rfl
theorem xkc{ps:List Sp}{f g:Tr→List UInt8}(hck:ckC (ps.map Sp.k)=0):tlS f g (ps.map Sp.k)≠[]:=by
 have:=xgf (zgd hck);unfold tlS;intro e;simp only[List.append_eq_nil_iff]at e;exact this e.1.1.1
theorem zlb{o:Option Tr}{f:Tr→List UInt8}{t:Tr}(h:o=some t):opT o f=f t:=by rw[h]; rfl
theorem joh{g:Tr→List UInt8}{l:List Tr}{j:Nat}{t:Tr}(h:l[j]?=some t):(g t).length≤(l.flatMap fun t=>[32]++g t).length:=by
 have hm:=List.mem_of_getElem? h;obtain⟨a,b,rfl⟩:=List.append_of_mem hm;simp only[ll,ij,fv];omega
theorem jee{w:World}{so:Option Addr}{ca:Nat}{ps:List Sp}(hPs:PR w so ps)(hl:ps.length≤1000000000)(hck:ckC (ps.map Sp.k)=0)(hB:PB ps)(hT:Tabs8 w){f g:Tr→List UInt8}(hDi:∀(d:Dt) (w1:World),d.rd w→(∃p∈ps,d∈p.vs)→(flT (ps.map Sp.k) 8=some d.tr∨flT (ps.map Sp.k) 1=some d.tr)→Below w.heap.size w w1→Calls Tryz.prog 71 #[.agg (d.d.cells d.ts.length).toArray] w1 fun e w2=>e=.returned (.tuple #[.string ⟨(f d.tr).toArray⟩,iV 0])∧Below w1.heap.size w1 w2)(hWr:∀(d:Dt) (w1:World),d.rd w1→d.tr∈irT (ps.map Sp.k)→Below w.heap.size w w1→Calls Tryz.prog 73 #[.agg (d.d.cells d.ts.length).toArray] w1 fun e w2=>e=.returned (.tuple #[.string ⟨(g d.tr).toArray⟩,iV 0])∧Below w1.heap.size w1 w2)(hlen:(tlS f g (ps.map Sp.k)).length≤1000000000):Calls Tryz.prog 7 #[.slice so ps.length ca] w (RB w (.tuple #[.string ⟨(tlS f g (ps.map Sp.k)).toArray⟩,iV 0])):=by
 have ck:(nmL (hdT (ps.map Sp.k))).length≤100:=by unfold nmL; rw[zm]; exact qpd (zgd hck)
 have hr0:([]:List UInt8).length+(kat (hdT (ps.map Sp.k))).nm.size≤140737488355328:=by have:=qpd (zgd hck); simp only[fx]; omega
 have ae:(nmL (hdT (ps.map Sp.k))++opT (flT (ps.map Sp.k) 8) fun t=>[32,105,110,32]++f t).length≤1000000000:=by
  have h9:=hlen;unfold tlS at h9;rw[fv,fv]at h9;omega
 have hfull:(tlS f g (ps.map Sp.k)).length≤1000000000:=hlen;have hparts:(tlS f g (ps.map Sp.k)).length=(nmL (hdT (ps.map Sp.k))).length+(opT (flT (ps.map Sp.k) 8) fun t=>[32,105,110,32]++f t).length+(opT (flT (ps.map Sp.k) 1) fun t=>[58,32]++f t).length+((irT (ps.map Sp.k)).flatMap fun t=>[32]++g t).length:=by unfold tlS; simp only[fv]
 have flen8:∀t,flT (ps.map Sp.k) 8=some t→4+(f t).length=(opT (flT (ps.map Sp.k) 8) fun t=>[32,105,110,32]++f t).length:=fun t h=>by rw[zlb h,fv]; rfl
 have flen1:∀t,flT (ps.map Sp.k) 1=some t→2+(f t).length=(opT (flT (ps.map Sp.k) 1) fun t=>[58,32]++f t).length:=fun t h=>by rw[zlb h,fv]; rfl
 have glen:∀{j:Nat} {t:Tr},(irT (ps.map Sp.k))[j]?=some t→(g t).length≤1000000000:=fun h=>by have:=joh (g:=g) h; omega
 have M:=Mg.start w;refine wof Tryz.func7 Tryz.ntmps7 fun Q hret hnorm hP a A=>?_;refine wsr fun _ cl=>?_;iterate 2 refine sda A λA=>?_
 refine qwk cl fun _ cm=>wsr fun _ cn=>sdm A λA=>?_;refine gcl A M ec ((hck▸zff (hPs.below M.bel) hB hl (hT.below M.bel))) fun _ hbc M a A=>?_;refine sda A λA=>?_;refine qwr cn fun _ co=>sdm A λA=>?_;refine sdo (v:=bV false) A dbK λA=>?_;refine qcf co A ?_;refine wp_skip (cm _ _ (wsr fun _ cp=>zj (vs:=[.pointer none,.slice none 0 0]) (t:=71) A M rfl rfl rfl pg (qm (z:=.agg #[.pointer none,.slice none 0 0]) (by kernel_rfl) rfl) (by decide) ?_));intro gb _ M a A;replace M:=(Mg.addNil M (qi (by simp) (za zd)));replace M:=M.perm (.swap _ _ _);refine qwr cp fun _ cq=>sdm A λA=>?_;refine gcl A M ec (zxi (hPs.below M.bel) hl hck) fun _ hbh M a A=>?_;refine sct A ec (qkf (bs:=[]) (s:=(kat (hdT (ps.map Sp.k))).nm) (.inl rfl) M (hr0)) ?_;rintro _ _ ⟨rfl,av,aw⟩;replace M:=aw;refine⟨_,rfl,?_⟩;intro a A;refine qwk cq fun cr ax=>?_;have ah:∀a w1,(∃(vb:Value),Sl a 53 [(0,.slice so ps.length ca),(2,.string (⟨#[]⟩)),(3,iV 0),(4,iV 0),(5,pA gb 0),(12,.slice so ps.length ca),(13,iV 0),(14,iV 0),(15,bV false),(17,.slice so ps.length ca),(18,.string ((kat (hdT (ps.map Sp.k))).nm))]∧Mg w w1 (.obj gb (.cells #[pA gb 0,vb] 71)::.row BY 1 (vb) (((nmL (hdT (ps.map Sp.k))++opT (flT (ps.map Sp.k) 8) fun t=>[32,105,110,32]++f t)).length) ((Lib.byteCells ((nmL (hdT (ps.map Sp.k))++opT (flT (ps.map Sp.k) 8) fun t=>[32,105,110,32]++f t))))::[]))→cr a w1:=by
  clear A M;rintro a _ ⟨vb,A,M⟩;refine ax _ _ (wsk fun cw ay=>?_);have ai:∀a w1,(∃(vb:Value),Sl a 53 [(0,.slice so ps.length ca),(2,.string (⟨#[]⟩)),(3,iV 0),(4,iV 0),(5,pA gb 0),(12,.slice so ps.length ca),(13,iV 0),(14,iV 0),(15,bV false),(17,.slice so ps.length ca),(18,.string ((kat (hdT (ps.map Sp.k))).nm))]∧Mg w w1 (.obj gb (.cells #[pA gb 0,vb] 71)::.row BY 1 (vb) ((((nmL (hdT (ps.map Sp.k))++opT (flT (ps.map Sp.k) 8) fun t=>[32,105,110,32]++f t)++opT (flT (ps.map Sp.k) 1) fun t=>[58,32]++f t)).length) ((Lib.byteCells (((nmL (hdT (ps.map Sp.k))++opT (flT (ps.map Sp.k) 8) fun t=>[32,105,110,32]++f t)++opT (flT (ps.map Sp.k) 1) fun t=>[58,32]++f t))))::[]))→cw a w1:=by
   clear A M;rintro a az ⟨vb,A,M⟩;refine ay _ _ (wsk fun _ bd=>wsr fun _ bf=>sdm A λA=>?_);refine sct A ec (qug (hPs.below M.bel) hl hck hB (hT.below M.bel)) ?_;rintro _ au ⟨cj,cx,ys,rfl,⟨bg,hR8,hI8,hD8⟩,bh⟩;have hL8:∀u1 u2,Mg u1 u2 (made az au)→Rt u2 cj ys∧∀x∈ys,x.rd u2:=fun u1 u2 h9=>⟨hR8.seen hI8 (zfc h9),fun x hx=>Dt.seen (zfc h9) _ (hD8 x hx).1 (hD8 x hx).2⟩;have hyl:ys.length=(irT (ps.map Sp.k)).length:=(by rw[←bg,gy]);have hyb:=zya (g:=g) (irT (ps.map Sp.k));replace M:Mg w au (.obj gb (.cells #[pA gb 0,vb] 71)::.row BY 1 (vb) ((((nmL (hdT (ps.map Sp.k))++opT (flT (ps.map Sp.k) 8) fun t=>[32,105,110,32]++f t)++opT (flT (ps.map Sp.k) 1) fun t=>[58,32]++f t)).length) ((Lib.byteCells (((nmL (hdT (ps.map Sp.k))++opT (flT (ps.map Sp.k) 8) fun t=>[32,105,110,32]++f t)++opT (flT (ps.map Sp.k) 1) fun t=>[58,32]++f t))))::(made az au++[])):=M.freezeAt 2 (qi (by simp) (qi (by simp) (za zd))) bh;refine⟨_,rfl,?_⟩;intro a A;refine sdo A (qr f9 rfl) λA=>?_;refine sdm A λA=>?_
   refine qa (bf _ _ (wp_block (zg (fun m_ a w1=>∃(j:Nat) (acc:List UInt8) (vb2:Value),m_=1+(ys.length-j)∧(j≤ys.length∧acc++((irT (ps.map Sp.k)).drop j).flatMap (fun t=>[32]++g t)=(tlS f g (ps.map Sp.k)))∧Sl a 53 [(0,.slice so ps.length ca),(2,.string (⟨#[]⟩)),(3,iV 0),(4,iV 0),(5,pA gb 0),(12,.slice so ps.length ca),(13,iV 0),(14,iV 0),(15,bV false),(17,.slice so ps.length ca),(18,.string ((kat (hdT (ps.map Sp.k))).nm)),(40,.slice so ps.length ca),(41,.slice cj ys.length cx),(42,iV (((ys.length:Nat):Int))),(43,iV (((j:Nat):Int)))]∧Mg w w1 (.obj gb (.cells #[pA gb 0,vb2] 71)::.row BY 1 (vb2) acc.length ((Lib.byteCells acc))::(made az au++[]))) _ ⟨0,((nmL (hdT (ps.map Sp.k))++opT (flT (ps.map Sp.k) 8) fun t=>[32,105,110,32]++f t)++opT (flT (ps.map Sp.k) 1) fun t=>[58,32]++f t),vb,rfl,⟨ii _,rfl⟩,A.keep _ (by repeat' constructor),M⟩ ?_)));clear M A;rintro m_ a _ ⟨j,acc,vb2,rfl,af,A,M⟩ _ bi;obtain⟨hj0,ag⟩:=af;have hal:acc.length≤1000000000:=(by have:=j9 List.length ag; rw[fv]at this; omega);refine wsr fun _ aj=>?_;rcases tf (decide (((j:Nat):Int)<((ys.length:Nat):Int)))with ac|ac
   ·have ac':=f5 ac;refine sdc A qy ac λA=>?_;refine qa (aj _ _ (wsk fun _ bj=>wp_cond_true (A.ev rfl) ?_));refine wp_skip (bj _ _ (wsk fun _ bn=>wp_block (wsr fun _ bp=>?_)));obtain⟨tk,btk,otk,itk,mtk,rtk_,ltk,Htk⟩:=que (hL8 _ _ ((M.dropn 2).sub (List.sublist_append_left _ _))).1 (hL8 _ _ ((M.dropn 2).sub (List.sublist_append_left _ _))).2 (i:=j) (by omega);refine sdo (v:=pA btk (otk+j*11)) A (qk (k:=j) f9 (by kernel_rfl) rfl rfl rfl ltk (by omega)) λA=>?_;refine sdo A (jgb Htk zv rfl rfl) λA=>?_;refine zj (vs:=(zb.d.cells zb.ts.length)) (t:=30) A M rfl rfl rfl pg (qm (z:=.agg (zb.d.cells zb.ts.length).toArray) (by kernel_rfl) rfl) (by decide) ?_;intro g34 _ M a A;refine qt A M rfl rfl (qj rfl rfl rfl (by kernel_rfl) M 0 rfl rfl rfl) 0 rfl rfl rfl ?_;intro _ M;refine qa (bp _ _ (wrl (sdo A (qz M zv rfl 0 rfl (cs:=(tk.d.cells tk.ts.length)) rfl rfl) λA=>?_)));have hmi:tk.tr∈irT (ps.map Sp.k):=bg▸j5 mtk;have hit:(irT (ps.map Sp.k))[j]?=some tk.tr:=(by rw[←bg,List.getElem?_map,itk]; rfl);have hgl:=glen hit;refine gcl A M ec (zra (fun w1 ae=>hWr tk w1 (Dt.keep ae _ ((hL8 _ _ ((M.dropn 3).sub (List.sublist_append_left _ _))).2 _ mtk)) hmi (M.bel.trans (ae.mono M.bel.size)))) fun _ _ M a A=>?_;obtain⟨sx39,hsx40⟩:∃s:ByteArray,(⟨([32]++(g tk.tr)).toArray⟩:ByteArray)=s:=⟨_,rfl⟩;have hlx41:sx39.data.toList=[32]++(g tk.tr):=(by rw[←hsx40]);have hzx42:sx39.size=([32]++(g tk.tr)).length:=(by rw[←zm,hlx41]);refine sdo (v:=.string sx39) A (qb rfl rfl (fun w=>(yy (a:=[32]) (b:=(g tk.tr)) (by simp only[fw,fx]; omega) w).trans (by rw[hsx40]))) λA=>?_
    replace M:=(M.bring 2 rfl rfl).bring 2 rfl rfl;refine sct A ec (qkf (bs:=acc) (s:=sx39) (.inr rfl) M (by rw[hzx42]; exact zla hal (by rw[fv]; simp only[fw,fx]; omega))) ?_;rintro _ _ ⟨rfl,cy,ak⟩;rw[hlx41]at ak;replace M:=ak;refine⟨_,rfl,?_⟩;intro a A;refine qa (bn _ _ (wrl (sdo (v:=iV (((j+1:Nat):Int))) A (qb rfl rfl (fun w=>(zq (jk (by omega) (by omega)) w).trans (by rw[show(((j:Nat):Int)+1:Int)=((j+1:Nat):Int)from by omega]))) λA=>?_)));refine sdm A λA=>?_;refine qa ?_;replace M:=M.sub (cC (cC (cN (.refl _))));refine bi _ _ _ (by omega) ⟨j+1,(acc++([32]++g tk.tr)),cy,rfl,⟨by omega,by rw[←ag,jed hit,f4]⟩,A.keep _ (by repeat' constructor),M⟩
   ·have ac':=fy ac;refine sdc A qy ac λA=>?_;refine qa (aj _ _ (wsk fun _ _=>wp_cond_false (A.ev rfl) ?_));refine wp_exit (bd _ _ (wsr fun _ bq=>?_));have e9:acc=(tlS f g (ps.map Sp.k)):=(by rw[←ag,i7 (by omega)]; simp);refine sct A ec (zqj (bs:=acc) M (by rw[e9]; exact xkc hck) (by rw[e9]; omega)) ?_;rintro _ cz ⟨rfl,br⟩;replace M:Mg w cz ([]):=⟨M.bel.trans br,by simp,.nil⟩;refine⟨_,rfl,?_⟩;intro a A;iterate 2 refine sda A λA=>?_
    refine qa (bq _ _ (wp_ret (hret _ _ (en2 A rfl (qf rfl) (qf rfl) ?_))));exact⟨by rw[e9],M.bel⟩
  refine wsr fun _ am=>sdm A λA=>?_;rcases tf (decide (0≤fdI (ps.map Sp.k) 1))with aa|aa
  ·have aa':=f5 aa;refine sct A ec (qja (hPs.below M.bel) hl hck (by decide) aa) ?_;rintro _ _ ⟨d1,rfl,⟨hfd1,-,hqd1⟩,bw⟩;have hrd1:d1.rd w:=(by obtain⟨p9,hp9,hd9⟩:=hqd1; exact(hPs.own p9 hp9).d _ hd9);replace M:=M.call bw;refine⟨_,rfl,?_⟩;intro a A;refine sdm A λA=>?_;iterate 2 refine sde A λA=>?_
   refine zj (vs:=(zb.d.cells zb.ts.length)) (t:=30) A M rfl rfl rfl pg (qm (z:=.agg (zb.d.cells zb.ts.length).toArray) (by kernel_rfl) rfl) (by decide) ?_;intro g54 _ M a A;refine qt A M rfl rfl (qj rfl rfl rfl (by kernel_rfl) M 0 rfl rfl rfl) 0 rfl rfl rfl ?_;intro _ M;refine sda A λA=>?_;refine qwr am fun _ bz=>sdm A λA=>?_;refine qct bz A ?_;refine wrl (sdo A (qz M zv rfl 0 rfl (cs:=(d1.d.cells d1.ts.length)) rfl rfl) λA=>?_);refine gcl A M ec (zgc (fun w1 ae=>hDi d1 w1 hrd1 hqd1 (.inr hfd1) (M.bel.trans (ae.mono M.bel.size)))) fun _ _ M a A=>?_;obtain⟨sx60,hsx61⟩:∃s:ByteArray,(⟨([58,32]++(f d1.tr)).toArray⟩:ByteArray)=s:=⟨_,rfl⟩;have hlx62:sx60.data.toList=[58,32]++(f d1.tr):=(by rw[←hsx61]);have hzx63:sx60.size=([58,32]++(f d1.tr)).length:=(by rw[←zm,hlx62]);refine sdo (v:=.string sx60) A (qb rfl rfl (fun w=>(yy (a:=[58,32]) (b:=(f d1.tr)) (by have:=flen1 d1.tr hfd1; simp only[fw,fx]; omega) w).trans (by rw[hsx61]))) λA=>?_;replace M:=(M.bring 2 rfl rfl).bring 2 rfl rfl;refine sct A ec (qkf (bs:=(nmL (hdT (ps.map Sp.k))++opT (flT (ps.map Sp.k) 8) fun t=>[32,105,110,32]++f t)) (s:=sx60) (.inr rfl) M (by rw[hzx63]; exact zla ae (by have:=flen1 d1.tr hfd1; rw[fv]; simp only[fw,fx]; omega))) ?_;rintro _ db ⟨rfl,cc,ap⟩;rw[hlx62]at ap
   replace M:=ap;refine⟨_,rfl,?_⟩;intro a A;refine qa ?_;replace M:=((M.bring 1 rfl rfl).bring 1 rfl rfl).sub (cC (cC (cN (.refl _))));replace M:Mg w db (.obj gb (.cells #[pA gb 0,cc] 71)::.row BY 1 (cc) ((((nmL (hdT (ps.map Sp.k))++opT (flT (ps.map Sp.k) 8) fun t=>[32,105,110,32]++f t)++opT (flT (ps.map Sp.k) 1) fun t=>[58,32]++f t)).length) ((Lib.byteCells (((nmL (hdT (ps.map Sp.k))++opT (flT (ps.map Sp.k) 8) fun t=>[32,105,110,32]++f t)++opT (flT (ps.map Sp.k) 1) fun t=>[58,32]++f t))))::[]):=(by rw[show flT (ps.map Sp.k) 1=some d1.tr from hfd1]; exact M);exact ai _ _ ⟨cc,A.keep _ (by repeat' constructor),M⟩
  ·have aa':=fy aa;refine gcl A M ec (qmj (hPs.below M.bel) hl hck (by decide) aa) fun _ _ M a A=>?_;refine sdm A λA=>?_;iterate 2 refine sde A λA=>?_
   refine zj (vs:=(zb.d.cells zb.ts.length)) (t:=30) A M rfl rfl rfl pg (qm (z:=.agg (zb.d.cells zb.ts.length).toArray) (by kernel_rfl) rfl) (by decide) ?_;intro g69 _ M a A;refine qt A M rfl rfl (qj rfl rfl rfl (by kernel_rfl) M 0 rfl rfl rfl) 0 rfl rfl rfl ?_;intro dd M;refine sda A λA=>?_;refine qwr am fun _ cd=>sdm A λA=>?_;refine qcf cd A ?_;refine wp_skip ?_;replace M:=((M.bring 2 rfl rfl).bring 2 rfl rfl).sub (cC (cC (cN (.refl _))));replace M:Mg w dd (.obj gb (.cells #[pA gb 0,vb] 71)::.row BY 1 (vb) ((((nmL (hdT (ps.map Sp.k))++opT (flT (ps.map Sp.k) 8) fun t=>[32,105,110,32]++f t)++opT (flT (ps.map Sp.k) 1) fun t=>[58,32]++f t)).length) ((Lib.byteCells (((nmL (hdT (ps.map Sp.k))++opT (flT (ps.map Sp.k) 8) fun t=>[32,105,110,32]++f t)++opT (flT (ps.map Sp.k) 1) fun t=>[58,32]++f t))))::[]):=(by rw[qrc (fy aa)]; rw[show ∀q:Tr→List UInt8,opT none q=[]from fun _=>rfl,gh]; exact M);exact ai _ _ ⟨vb,A.keep _ (by repeat' constructor),M⟩
 refine wsr fun _ aq=>sdm A λA=>?_;rcases tf (decide (0≤fdI (ps.map Sp.k) 8))with ab|ab
 ·have ab':=f5 ab;refine sct A ec (qja (hPs.below M.bel) hl hck (by decide) ab) ?_;rintro _ _ ⟨d8,rfl,⟨hfd8,-,hqd8⟩,ce⟩;have hrd8:d8.rd w:=(by obtain⟨p9,hp9,hd9⟩:=hqd8; exact(hPs.own p9 hp9).d _ hd9);replace M:=M.call ce;refine⟨_,rfl,?_⟩;intro a A;refine sdm A λA=>?_;iterate 2 refine sde A λA=>?_
  refine zj (vs:=(zb.d.cells zb.ts.length)) (t:=30) A M rfl rfl rfl pg (qm (z:=.agg (zb.d.cells zb.ts.length).toArray) (by kernel_rfl) rfl) (by decide) ?_;intro g77 _ M a A;refine qt A M rfl rfl (qj rfl rfl rfl (by kernel_rfl) M 0 rfl rfl rfl) 0 rfl rfl rfl ?_;intro _ M;refine sda A λA=>?_;refine qwr aq fun _ cg=>sdm A λA=>?_;refine qct cg A ?_;refine wrl (sdo A (qz M zv rfl 0 rfl (cs:=(d8.d.cells d8.ts.length)) rfl rfl) λA=>?_);refine gcl A M ec (zgc (fun w1 ae=>hDi d8 w1 hrd8 hqd8 (.inl hfd8) (M.bel.trans (ae.mono M.bel.size)))) fun _ _ M a A=>?_;obtain⟨sx83,hsx84⟩:∃s:ByteArray,(⟨([32,105,110,32]++(f d8.tr)).toArray⟩:ByteArray)=s:=⟨_,rfl⟩;have hlx85:sx83.data.toList=[32,105,110,32]++(f d8.tr):=by rw[←hsx84]
  have hzx86:sx83.size=([32,105,110,32]++(f d8.tr)).length:=by rw[←zm,hlx85]
  refine sdo (v:=.string sx83) A (qb rfl rfl (fun w=>(yy (a:=[32,105,110,32]) (b:=(f d8.tr)) (by have:=flen8 d8.tr hfd8; simp only[fw,fx]; omega) w).trans (by rw[hsx84]))) λA=>?_;replace M:=(M.bring 2 rfl rfl).bring 2 rfl rfl;refine sct A ec (qkf (bs:=(nmL (hdT (ps.map Sp.k)))) (s:=sx83) (.inr rfl) M (by rw[hzx86]; exact zla (gz ck (by decide)) (by have:=flen8 d8.tr hfd8; rw[fv]; simp only[fw,fx]; omega))) ?_;rintro _ de ⟨rfl,ch,ar⟩;rw[hlx85]at ar;replace M:=ar;refine⟨_,rfl,?_⟩;intro a A;refine qa ?_;replace M:=((M.bring 1 rfl rfl).bring 1 rfl rfl).sub (cC (cC (cN (.refl _))));replace M:Mg w de (.obj gb (.cells #[pA gb 0,ch] 71)::.row BY 1 (ch) (((nmL (hdT (ps.map Sp.k))++opT (flT (ps.map Sp.k) 8) fun t=>[32,105,110,32]++f t)).length) ((Lib.byteCells ((nmL (hdT (ps.map Sp.k))++opT (flT (ps.map Sp.k) 8) fun t=>[32,105,110,32]++f t))))::[]):=by rw[show flT (ps.map Sp.k) 8=some d8.tr from hfd8]; exact M
  exact ah _ _ ⟨ch,A.keep _ (by repeat' constructor),M⟩
 ·have ab':=fy ab;refine gcl A M ec (qmj (hPs.below M.bel) hl hck (by decide) ab) fun _ _ M a A=>?_;refine sdm A λA=>?_;iterate 2 refine sde A λA=>?_
  refine zj (vs:=(zb.d.cells zb.ts.length)) (t:=30) A M rfl rfl rfl pg (qm (z:=.agg (zb.d.cells zb.ts.length).toArray) (by kernel_rfl) rfl) (by decide) ?_;intro g92 _ M a A;refine qt A M rfl rfl (qj rfl rfl rfl (by kernel_rfl) M 0 rfl rfl rfl) 0 rfl rfl rfl ?_;intro df M;refine sda A λA=>?_;refine qwr aq fun _ ci=>sdm A λA=>?_;refine qcf ci A ?_;refine wp_skip ?_;replace M:=((M.bring 2 rfl rfl).bring 2 rfl rfl).sub (cC (cC (cN (.refl _))));replace M:Mg w df (.obj gb (.cells #[pA gb 0,av] 71)::.row BY 1 (av) (((nmL (hdT (ps.map Sp.k))++opT (flT (ps.map Sp.k) 8) fun t=>[32,105,110,32]++f t)).length) ((Lib.byteCells ((nmL (hdT (ps.map Sp.k))++opT (flT (ps.map Sp.k) 8) fun t=>[32,105,110,32]++f t))))::[]):=by rw[qrc (fy ab)]; rw[show ∀q:Tr→List UInt8,opT none q=[]from fun _=>rfl,gh]; exact M
  exact ah _ _ ⟨av,A.keep _ (by repeat' constructor),M⟩
theorem joi{w:World}{so:Option Addr}{ca:Nat}{ps:List Sp}(hPs:PR w so ps)(hl:ps.length≤1000000000)(hck:ckC (ps.map Sp.k)≠0)(hB:PB ps)(hT:Tabs8 w):Calls Tryz.prog 7 #[.slice so ps.length ca] w (RB w (.tuple #[.string ⟨#[]⟩,iV (ckC (ps.map Sp.k))])):=by
 have M:=Mg.start w;refine wof Tryz.func7 Tryz.ntmps7 fun Q hret hnorm hP a A=>?_;refine wsr fun _ aa=>?_;iterate 2 refine sda A λA=>?_
 refine qwk aa fun _ _=>wsr fun _ ab=>sdm A λA=>?_;refine gcl A M ec (zff (hPs.below M.bel) hB hl (hT.below M.bel)) fun _ hbc M a A=>?_;refine sda A λA=>?_;refine qwr ab fun _ ac=>sdm A λA=>?_;refine sdo (v:=bV true) A (qb rfl rfl (fun w=>(zh w).trans (by rw[show((ckC (ps.map Sp.k) != 0))=true from(iy.2 hck)]))) λA=>?_;refine qct ac A ?_;refine wsr fun _ ae=>sdm A λA=>?_;iterate 2 refine sda A λA=>?_
 refine qa (ae _ _ (wp_ret (hret _ _ (en2 A rfl (qf rfl) (qf rfl) ?_))));exact⟨rfl,M.bel⟩
def txD(k:Int)(s:ByteArray):Dt:=.mk ⟨k,0,⟨Q6.zero,none,0,none,0,none,0,none,0⟩,s,none,0,[],none,0⟩ []
def txT(k:Int)(s:ByteArray):Tr:=.mk k 0 Q6.zero s [] []
theorem joj(k:Int)(s:ByteArray):(txD k s).tr=txT k s:=by unfold txD txT; rw[Dt.tr_mk]; rfl
def jhd: Dt:=txD 6 ⟨#[99,97,114]⟩
def noD: Dt:=txD 5 ⟨#[110,111]⟩
def zrb: Tr:=txT 6 ⟨#[99,97,114]⟩
def noT: Tr:=txT 5 ⟨#[110,111]⟩
theorem jef: jhd.tr=zrb:=joj _ _
theorem jpa: noD.tr=noT:=joj _ _
theorem jpb(w:World){k:Int}{s:ByteArray}(h0:-9223372036854775808≤k)(h1:k≤9223372036854775807)(h2:s.size≤1000):(txD k s).rd w:=
  Dt.rd_iff.2 ⟨⟨⟨Sc.none w,Sc.none w,Sc.none w,Sc.none w⟩,qqi,⟨fun h=>absurd rfl h⟩,gm _,by show(0:Nat)≤_; omega,h0,h1,by show(-9223372036854775808:Int)≤0; decide,by show(0:Int)≤_; decide,by show s.size≤_; omega⟩,gm _,by show(0:Nat)≤_; omega,fun h=>absurd rfl h,fun t h=>by cases h⟩
theorem xad(w:World):jhd.rd w:=jpb w (by decide) (by decide) (by decide)
theorem xhb(w:World):noD.rd w:=jpb w (by decide) (by decide) (by decide)
theorem xec: qs qh zrb=true:=by decide +kernel
theorem xkd: qs qh noT=true:=by decide +kernel
theorem jpc: qs qh nilT=true:=by decide +kernel
theorem jpd: ofS []=nilT:=by
  unfold ofS;rw[qpc (by rw[show zy [] nilT=nilT from rfl]; exact jpc)];rfl
theorem jpe: js nilT=some []:=qie []
def K4: List (Int×List Tr):=[(6,[]),(8,[zrb]),(1,[noT]),(7,[nilT])]
theorem xhc: erS zrb noT [] true=(K4,0):=by
  rw[job xec xkd (by rw[jpd]; exact jpc) (by decide),jpd];rfl
theorem xke: ckC K4=0:=by decide +kernel
theorem jpf: flT K4 8=some zrb:=by rfl
theorem jpg: flT K4 1=some noT:=by rfl
theorem xhd: flT K4 7=some nilT:=by rfl
theorem xed: irT K4=[]:=by
  unfold irT;rw[xhd];show(qfc nilT).1=[];rw[qhb jpc jpe]
def awB: List UInt8:=[97,115,115,101,114,116,105,111,110,32,105,110,32,99,97,114,58,32,110,111]
def awF(t:Tr):List UInt8:=t.s.data.toList
def awG(_:Tr):List UInt8:=[]
theorem jeg: tlS awF awG K4=awB:=by
  unfold tlS;rw[xed,jpf,jpg];decide +kernel
theorem xae: ∀k∈K4,Tr.bulks k.2≤100000000:=by
  intro k hk;simp only[K4,ik,List.not_mem_nil,or_false]at hk;rcases hk with rfl|rfl|rfl|rfl<;>decide
theorem jph: zrb.bulk≤100000000:=by decide
theorem xaf: noT.bulk≤100000000:=by decide
def rpF(t:Int):Int:=if t=0 then -1 else if t≤3∨t=7∨t=8 then 0 else if t≤5 then 3 else if t≤13 then 5 else if t=14 then 4 else if t≤17 then 14 else 17
theorem xhe: ∀i,i<20→rpF ((i:Nat):Int)=(kds.getD i xx).par:=by decide
theorem qna{t:Int}(h:okT 20 t=true):rpF t=(kat t).par:=by
  have h1:=qba h;have:=xhe t.toNat (by omega)
  rwa [show((t.toNat:Nat):Int)=t by omega,←qra h]at this
theorem zrc{t o:Int}(h:okT 20 t=true):yn t o=((o==t)||yn (kat t).par o):=by
  unfold yn;rw[qyh h,List.any_cons]
theorem xag(o:Int):yn (-1) o=false:=by unfold yn; rw[zjh]; rfl
theorem xhf{t:Int}(h:okT 20 t=true):(kds.map Kd.nm)[t.toNat]?=some (kat t).nm:=by rw[List.getElem?_map,jmh h]; rfl
theorem xhg{w:World}(hT:Tabs8 w):Calls Tryz.prog 5 #[.agg (jhd.d.cells jhd.ts.length).toArray,.agg (noD.d.cells noD.ts.length).toArray,.slice none 0 0,bV true] w fun e w'=>∃(so':Option Addr) (ca':Nat) (cs:List Sp),e=.returned (.tuple #[.slice so' cs.length ca',iV 0])∧(cs.map Sp.k=K4∧PR w' so' cs)∧Below w.heap.size w w':=by
 refine(zga (xad w) (xhb w) (is:=[]) (so2:=none) (ca2:=0) (v:=true) (fun h=>absurd rfl h) (fun t h=>by cases h) (by rw[jef]; exact jph) (by rw[jpa]; exact xaf) (by show 0≤_; decide) hT).mono ?_;rintro e w' ⟨so',ca',cs,ev,rfl,⟨h1,h2⟩,hb⟩;rw[jef,jpa,lg,xhc]at h1;have h3:=j9 Prod.fst h1;have h4:=j9 Prod.snd h1;simp only at h3 h4;subst h4;exact⟨so',ca',cs,rfl,⟨h3,h2⟩,hb⟩
theorem xkf: decide ((⟨#[97,115,115,101,114,116,105,111,110,32,105,110,32,99,97,114,58,32,110,111]⟩:ByteArray)=⟨#[97,115,115,101,114,116,105,111,110,32,105,110,32,99,97,114,58,32,110,111]⟩)=true:=gv rfl
theorem qrf{w:World}{t:Int}:Calls Tryz.prog 42 #[iV t] w (RB w (.string (kat t).nm)):=by
 have M:=Mg.start w;refine wof Tryz.func42 Tryz.ntmps42 fun Q hret hnorm hP a A=>?_;refine wsr fun _ ag=>sda A λA=>?_;refine qa (ag _ _ (wsr fun _ ah=>jr (e:=9) (sz:=1) (m:=20) (vs:=E.strC (kds.map Kd.nm)) A M rfl rfl rfl (qg rfl (by kernel_rfl)) rfl rfl (.inl (by decide)) ?_));intro g3 _ M a A;refine sda A λA=>?_;refine qwk ah fun _ ai=>wsr fun _ ac=>sdm A λA=>?_;rcases tf (decide (t<0))with aa|aa
 ·have aa':=f5 aa;refine sdc A qy aa λA=>?_;refine sdm A λA=>?_;iterate 4 refine sks A λA=>?_
  refine sdk (v:=bV true) A λA=>?_;refine qct ac A ?_;refine wsr fun _ aj=>sda A λA=>?_;refine qr1 aj hret A ?_;have hno:okT 20 t=false:=(by first|exact zjf (by omega)|exact zjg (by omega));exact⟨by rw[qyg hno]<;>rfl,M.bel⟩
 ·have aa':=fy aa;refine sdc A qy aa λA=>?_;iterate 3 refine sdm A λA=>?_
  refine sdo A (qr lw rfl) λA=>?_;rcases tf (decide (20≤t))with ab|ab
  ·have ab':=f5 ab;refine sdc A zt ab λA=>?_;refine sdk (v:=bV true) A λA=>?_;refine qct ac A ?_;refine wsr fun _ ae=>sda A λA=>?_;refine qr1 ae hret A ?_;have hno:okT 20 t=false:=(by first|exact zjf (by omega)|exact zjg (by omega));exact⟨by rw[qyg hno]<;>rfl,M.bel⟩
  ·have ab':=fy ab;refine sdc A zt ab λA=>?_;refine sdk (v:=bV false) A λA=>?_;refine qcf ac A ?_;refine wp_skip (ai _ _ (wsr fun _ af=>?_));iterate 2 refine sdm A λA=>?_
   have hok:okT 20 t=true:=qah (by omega) (by omega);obtain⟨bx,ox,sx,hs,hc,hi⟩:=E.Rs.at_ (vm (M.has 0 rfl)) (i:=t.toNat) (by show t.toNat<20; omega);obtain rfl:sx=(kat t).nm:=io (hi.symm.trans (xhf hok));refine sdo (v:=pA bx (ox+t.toNat)) A (ja (k:=t.toNat) lw (by kernel_rfl) rfl rfl (by omega) hs (by omega)) λA=>?_;refine sdo A (qvf hc o99 rfl) λA=>?_;refine sda A λA=>?_;refine qr1 af hret A ?_;exact⟨rfl,M.bel⟩
theorem xah{w:World}{t:Int}(h:okT 20 t=false):Calls Tryz.prog 42 #[iV t] w (RB w (.string ⟨#[]⟩)):=by
 have:=qrf (w:=w) (t:=t)
 rwa [qyg h]at this
theorem km{w:World}{t:Int}:Calls Tryz.prog 107 #[iV t] w (RB w (iV (rpF t))):=by
 have M:=Mg.start w;refine wof Tryz.func107 Tryz.ntmps107 fun Q hret hnorm hP a A=>?_;refine wsr fun _ bf=>sda A λA=>?_;refine qwk bf fun _ bg=>wp_block (wsr fun _ bd=>sdm A λA=>?_);rcases tf ((t==0))with ag|ag
 ·have ag':=gr ag;refine sdc A qe ag λA=>?_;refine sda A λA=>?_;refine qct bd A ?_;refine wsr fun _ bh=>sda A λA=>?_;refine qr1 bh hret A ?_;exact⟨by rw[show rpF t=-1 from by unfold rpF; repeat (first|rfl|rw[gj (by omega)]|rw[f7 (by omega)])],M.bel⟩
 ·have ag':=f6 ag;refine sdc A qe ag λA=>?_;refine sda A λA=>?_;refine qcf bd A ?_;refine wsr fun _ aq=>sdm A λA=>?_;rcases tf (decide (t≤3))with ah|ah
  ·have ah':=f5 ah;refine sdc A xi ah λA=>?_;refine sdm A λA=>?_;iterate 2 refine sks A λA=>?_
   refine sdk (v:=bV true) A λA=>?_;refine sdm A λA=>?_;iterate 2 refine sks A λA=>?_
   refine sdk (v:=bV true) A λA=>?_;refine sda A λA=>?_;refine qct aq A ?_;refine wsr fun _ bi=>sda A λA=>?_;refine qr1 bi hret A ?_;exact⟨by rw[show rpF t=0 from by unfold rpF; repeat (first|rfl|rw[gj (by omega)]|rw[f7 (by omega)])],M.bel⟩
  ·have ah':=fy ah;refine sdc A xi ah λA=>?_;iterate 2 refine sdm A λA=>?_
   rcases tf ((t==7))with ai|ai
   ·have ai':=gr ai;refine sdc A qe ai λA=>?_;refine sdk (v:=bV true) A λA=>?_;refine sdm A λA=>?_;iterate 2 refine sks A λA=>?_
    refine sdk (v:=bV true) A λA=>?_;refine sda A λA=>?_;refine qct aq A ?_;refine wsr fun _ ar=>sda A λA=>?_;refine qr1 ar hret A ?_;exact⟨by rw[show rpF t=0 from by unfold rpF; repeat (first|rfl|rw[gj (by omega)]|rw[f7 (by omega)])],M.bel⟩
   ·have ai':=f6 ai;refine sdc A qe ai λA=>?_;refine sdk (v:=bV false) A λA=>?_;iterate 2 refine sdm A λA=>?_
    rcases tf ((t==8))with aa|aa
    ·have aa':=gr aa;refine sdc A qe aa λA=>?_;refine sdk (v:=bV true) A λA=>?_;refine sda A λA=>?_;refine qct aq A ?_;refine wsr fun _ au=>sda A λA=>?_;refine qr1 au hret A ?_;exact⟨by rw[show rpF t=0 from by unfold rpF; repeat (first|rfl|rw[gj (by omega)]|rw[f7 (by omega)])],M.bel⟩
    ·have aa':=f6 aa;refine sdc A qe aa λA=>?_;refine sdk (v:=bV false) A λA=>?_;refine sda A λA=>?_;refine qcf aq A ?_;refine wsr fun _ aj=>sdm A λA=>?_;rcases tf (decide (t≤5))with ab|ab
     ·have ab':=f5 ab;refine sdc A xi ab λA=>?_;refine sda A λA=>?_;refine qct aj A ?_;refine wsr fun _ av=>sda A λA=>?_;refine qr1 av hret A ?_;exact⟨by rw[show rpF t=3 from by unfold rpF; repeat (first|rfl|rw[gj (by omega)]|rw[f7 (by omega)])],M.bel⟩
     ·have ab':=fy ab;refine sdc A xi ab λA=>?_;refine sda A λA=>?_;refine qcf aj A ?_;refine wsr fun _ ak=>sdm A λA=>?_;rcases tf (decide (t≤13))with ac|ac
      ·have ac':=f5 ac;refine sdc A xi ac λA=>?_;refine sda A λA=>?_;refine qct ak A ?_;refine wsr fun _ aw=>sda A λA=>?_;refine qr1 aw hret A ?_;exact⟨by rw[show rpF t=5 from by unfold rpF; repeat (first|rfl|rw[gj (by omega)]|rw[f7 (by omega)])],M.bel⟩
      ·have ac':=fy ac;refine sdc A xi ac λA=>?_;refine sda A λA=>?_;refine qcf ak A ?_;refine wsr fun _ am=>sdm A λA=>?_;rcases tf ((t==14))with ae|ae
       ·have ae':=gr ae;refine sdc A qe ae λA=>?_;refine sda A λA=>?_;refine qct am A ?_;refine wsr fun _ ax=>sda A λA=>?_;refine qr1 ax hret A ?_;exact⟨by rw[show rpF t=4 from by unfold rpF; repeat (first|rfl|rw[gj (by omega)]|rw[f7 (by omega)])],M.bel⟩
       ·have ae':=f6 ae;refine sdc A qe ae λA=>?_;refine sda A λA=>?_;refine qcf am A ?_;refine wsr fun _ ap=>sdm A λA=>?_;rcases tf (decide (t≤17))with af|af
        ·have af':=f5 af;refine sdc A xi af λA=>?_;refine sda A λA=>?_;refine qct ap A ?_;refine wsr fun _ ay=>sda A λA=>?_;refine qr1 ay hret A ?_;exact⟨by rw[show rpF t=14 from by unfold rpF; repeat (first|rfl|rw[gj (by omega)]|rw[f7 (by omega)])],M.bel⟩
        ·have af':=fy af;refine sdc A xi af λA=>?_;refine sda A λA=>?_;refine qcf ap A ?_;refine wp_skip (bg _ _ (wsr fun _ az=>sda A λA=>?_));refine qr1 az hret A ?_;exact⟨by rw[show rpF t=17 from by unfold rpF; repeat (first|rfl|rw[gj (by omega)]|rw[f7 (by omega)])],M.bel⟩
theorem qzi{w:World}{t o:Int}(ht:okT 20 t=true):Calls Tryz.prog 75 #[iV t,iV o] w (RB w (bV (yn t o))):=by
 have ht9:=qba ht;have M:=Mg.start w;refine wof Tryz.func75 Tryz.ntmps75 fun Q hret hnorm hP a A=>?_;refine wsr fun _ ak=>sda A λA=>?_;refine qa (ak _ _ (wsk fun _ am=>wp_block (zg (fun m_ a w1=>∃(x:Int),m_=(x+1).toNat∧(-1≤x∧x≤t∧yn x o=yn t o)∧Sl a 12 [(0,iV x),(1,iV o)]∧Mg w w1 ([])) _ ⟨t,rfl,⟨by omega,by omega,rfl⟩,A.keep _ ⟨rfl,rfl,trivial⟩,M⟩ ?_)));clear M A;rintro m_ a _ ⟨x,rfl,ae,A,M⟩ K4 ap;obtain⟨_,ai,ab⟩:=ae;refine wsk fun _ aq=>wsr fun _ aj=>sdm A λA=>?_;rcases tf (decide (0≤x))with ac|ac
 ·have ac':=f5 ac;refine sdc A zt ac λA=>?_;refine qct aj A ?_;refine wp_skip (aq _ _ (wp_block (wsk fun _ ar=>wsr fun _ af=>?_)));iterate 2 refine sdm A λA=>?_
  rcases tf ((x==o))with aa|aa
  ·have aa':=gr aa;refine sdc A qe aa λA=>?_;refine qct af A ?_;refine wsr fun _ ag=>sda A λA=>?_;refine qr1 ag hret A ?_;have hx:okT 20 x=true:=qah (by omega) (by omega);exact⟨by rw[←ab,zrc hx,show(o==x)=true from beq_iff_eq.2 aa'.symm]<;>rfl,M.bel⟩
  ·have aa':=f6 aa;refine sdc A qe aa λA=>?_;refine qcf af A ?_;refine wp_skip (ar _ _ (wrl (sdm A λA=>?_)));have hx:okT 20 x=true:=qah (by omega) (by omega);have hpr:=qdi hx;refine gcl A M ec ((qna hx▸km)) fun au hbp M a A=>?_;refine sda A λA=>?_;refine qa ?_;replace M:Mg w au ([]):=by
    have h9:=M.sub (.refl _);exact h9
   refine ap _ _ _ (by omega) ⟨(kat x).par,rfl,⟨by omega,by omega,by rw[←ab,zrc hx,show(o==x)=false from beq_eq_false_iff_ne.2 (fun e=>aa' e.symm),Bool.false_or]⟩,A.keep _ ⟨rfl,rfl,trivial⟩,M⟩
 ·have ac':=fy ac;refine sdc A zt ac λA=>?_;refine qcf aj A ?_;refine wp_exit (am _ _ (wsr fun _ ah=>sda A λA=>?_));refine qr1 ah hret A ?_;have ai:x=-1:=by omega
  subst ai;exact⟨by rw[←ab,xag],M.bel⟩
end Go.Proofs.YtmnlfahgklnpeaaGreatDoor.G
namespace Go.Proofs.YtmnlfahgklnpeaaGreatDoor
open Go.RowKit
theorem EqO_fld_26_0: FieldAt Tryz.prog 26 0 0:=⟨_,_,j7,rfl,rfl,by kernel_rfl⟩
theorem EqO_fld_26_1: FieldAt Tryz.prog 26 1 3:=⟨_,_,j7,rfl,rfl,by kernel_rfl⟩
theorem EqO_isS_24: IsS Tryz.prog 24 3:=⟨⟨_,iv⟩,by kernel_rfl⟩
theorem zyc{w:World}{p q:Q6}{a1 a2 a3 a4:Option Addr}{ac1 ac2 ac3 ac4:Nat}(ha:Nm w p a1 ac1 a2 ac2 a3 ac3 a4 ac4)(hl:LenQ p){u1 u2 u3 u4:Option Addr}{uc1 uc2 uc3 uc4:Nat}(hu:Nm w q u1 uc1 u2 uc2 u3 uc3 u4 uc4)(hm:LenQ q){r:Bool}(hr:(xn p.b1 p.t1 p.q1 q.b1 q.t1 q.q1&&xn p.b2 p.t2 p.q2 q.b2 q.t2 q.q2)=r):Calls Tryz.prog 51 #[zic p a1 ac1 a2 ac2 a3 ac3 a4 ac4,zic q u1 uc1 u2 uc2 u3 uc3 u4 uc4] w fun e w'=>e=.returned (bV r)∧Below w.heap.size w w':=by
 have S:St w w [] [(u4,q.q2),(u3,q.t2),(u2,q.q1),(u1,q.t1),(a4,p.q2),(a3,p.t2),(a2,p.q1),(a1,p.t1)] []:=((((((((St.start w).addR ha.s1.rd).addR ha.s2.rd).addR ha.s3.rd).addR ha.s4.rd).addR hu.s1.rd).addR hu.s2.rd).addR hu.s3.rd).addR hu.s4.rd;refine wof Tryz.func51 Tryz.ntmps51 fun Q hret hnorm hP a A=>?_;refine wsr fun _ ae=>jy A S rfl rfl rfl pg (qx rfl rfl) rfl ?_;intro g2 _ S a A;refine jy A S rfl rfl rfl pg (qx rfl rfl) rfl ?_;intro g4 _ S a A;refine sda A λA=>?_;refine qa (ae _ _ (wsr fun _ ac=>sdf A 0 EqO_fld_26_0 λA=>?_));refine sdo A (zl S EqO_isS_24 rfl 1 rfl (cs:=[bV p.b1,.slice a1 p.t1.length ac1,.slice a2 p.q1.length ac2]) rfl rfl) λA=>?_;refine sdf A 0 EqO_fld_26_0 λA=>?_;refine sdo A (zl S EqO_isS_24 rfl 0 rfl (cs:=[bV q.b1,.slice u1 q.t1.length uc1,.slice u2 q.q1.length uc2]) rfl rfl) λA=>?_;rcases tf (xn p.b1 p.t1 p.q1 q.b1 q.t1 q.q1)with ab|ab
 ·refine vcl A S ec (xf ⟨(S.rd 7 rfl),ha.s1.nil,ha.s1.cap⟩ ⟨(S.rd 6 rfl),ha.s2.nil,ha.s2.cap⟩ ⟨(S.rd 3 rfl),hu.s1.nil,hu.s1.cap⟩ ⟨(S.rd 2 rfl),hu.s2.nil,hu.s2.cap⟩ hl.l1 hl.l2 hm.l1 hm.l2 ab) fun _ _ S a A=>?_;refine sdm A λA=>?_;refine sdf A 3 EqO_fld_26_1 λA=>?_;refine sdo A (zl S EqO_isS_24 rfl 1 rfl (cs:=[bV p.b2,.slice a3 p.t2.length ac3,.slice a4 p.q2.length ac4]) rfl rfl) λA=>?_;refine sdf A 3 EqO_fld_26_1 λA=>?_;refine sdo A (zl S EqO_isS_24 rfl 0 rfl (cs:=[bV q.b2,.slice u3 q.t2.length uc3,.slice u4 q.q2.length uc4]) rfl rfl) λA=>?_;rcases tf (xn p.b2 p.t2 p.q2 q.b2 q.t2 q.q2)with aa|aa
  ·refine vcl A S ec (xf ⟨(S.rd 5 rfl),ha.s3.nil,ha.s3.cap⟩ ⟨(S.rd 4 rfl),ha.s4.nil,ha.s4.cap⟩ ⟨(S.rd 1 rfl),hu.s3.nil,hu.s3.cap⟩ ⟨(S.rd 0 rfl),hu.s4.nil,hu.s4.cap⟩ hl.l3 hl.l4 hm.l3 hm.l4 aa) fun _ _ S a A=>?_;refine sdk (v:=bV true) A λA=>?_;refine sda A λA=>?_;refine qr1 ac hret A ?_;subst hr;exact⟨by rw[ab,aa]; try rfl,S.bel⟩
  ·refine vcl A S ec (xf ⟨(S.rd 5 rfl),ha.s3.nil,ha.s3.cap⟩ ⟨(S.rd 4 rfl),ha.s4.nil,ha.s4.cap⟩ ⟨(S.rd 1 rfl),hu.s3.nil,hu.s3.cap⟩ ⟨(S.rd 0 rfl),hu.s4.nil,hu.s4.cap⟩ hl.l3 hl.l4 hm.l3 hm.l4 aa) fun _ _ S a A=>?_;refine sdk (v:=bV false) A λA=>?_;refine sda A λA=>?_;refine qr1 ac hret A ?_;subst hr;exact⟨by rw[ab,aa]; try rfl,S.bel⟩
 ·refine vcl A S ec (xf ⟨(S.rd 7 rfl),ha.s1.nil,ha.s1.cap⟩ ⟨(S.rd 6 rfl),ha.s2.nil,ha.s2.cap⟩ ⟨(S.rd 3 rfl),hu.s1.nil,hu.s1.cap⟩ ⟨(S.rd 2 rfl),hu.s2.nil,hu.s2.cap⟩ hl.l1 hl.l2 hm.l1 hm.l2 ab) fun _ _ S a A=>?_;refine sdm A λA=>?_;iterate 5 refine sks A λA=>?_
  refine sdk (v:=bV false) A λA=>?_;refine sda A λA=>?_;refine qr1 ac hret A ?_;subst hr;exact⟨by rw[ab]; try rfl,S.bel⟩

end Go.Proofs.YtmnlfahgklnpeaaGreatDoor
namespace Go.Proofs.YtmnlfahgklnpeaaGreatDoor.G
open Go.RowKit
mutual
def qfe: Tr→Tr→Bool
  | .mk k n q s rl ts, u => (decide (k = u.k) && (decide (n = u.n) && (decide (s = u.s) && (decide (rl = u.rl) && (xn q.b1 q.t1 q.q1 u.q.b1 u.q.t1 u.q.q1 && xn q.b2 q.t2 q.q2 u.q.b2 u.q.t2 u.q.q2))))) && (decide (ts.length = u.ts.length) && qbb ts u.ts)
def qbb: List Tr→List Tr→Bool
  | [], _ => true
  | _ :: _, [] => true
  | t :: ts, u :: us => qfe t u && qbb ts us
end
theorem jhf{b b':Bool}{t q t' q':List Nat}:xn b t q b' t' q'=true↔b=b'∧t=t'∧q=q':=by
  unfold xn;simp
theorem zrd(k n:Int)(q:Q6)(s:ByteArray)(rl:List UInt8)(ts:List Tr)(k' n':Int)(q':Q6)(s':ByteArray)(rl':List UInt8)(ts':List Tr):qfe (.mk k n q s rl ts) (.mk k' n' q' s' rl' ts')=true↔k=k'∧n=n'∧q=q'∧s=s'∧rl=rl'∧ts.length=ts'.length∧qbb ts ts'=true:=by
  rw[qfe];show((decide (k=k')&&(decide (n=n')&&(decide (s=s')&&(decide (rl=rl')&&(xn q.b1 q.t1 q.q1 q'.b1 q'.t1 q'.q1&&xn q.b2 q.t2 q.q2 q'.b2 q'.t2 q'.q2)))))&&(decide (ts.length=ts'.length)&&qbb ts ts'))=true↔_;simp only[ig,decide_eq_true_eq,jhf];constructor
  · rintro⟨⟨a,b,c,d,⟨e1,e2,e3⟩,f1,f2,f3⟩,g,h⟩;refine⟨a,b,?_,c,d,g,h⟩;cases q; cases q'
    simp_all
  · rintro⟨a,b,c,d,e,f,g⟩;subst c;exact⟨⟨a,b,d,e,⟨rfl,rfl,rfl⟩,rfl,rfl,rfl⟩,f,g⟩
theorem zre{ts:List Tr}(h:∀t∈ts,∀u,qfe t u=true↔t=u):∀us:List Tr,ts.length=us.length→(qbb ts us=true↔ts=us):=by
  induction ts with
  | nil =>
    intro us hl;cases us with
    | nil => simp [qbb]
    | cons u us => simp at hl
  | cons t ts ih =>
    intro us hl;cases us with
    | nil => simp at hl
    | cons u us =>
      rw[qbb,ig,h t iw u,ih (fun x hx=>h x (ix _ hx)) us (by simpa using hl)];simp
theorem jqc: ∀t u:Tr,qfe t u=true↔t=u:=by
  refine Tr.indT fun k n q s rl ts ih u=>?_;obtain⟨k',n',q',s',rl',ts'⟩:=u;rw[zrd];constructor
  · rintro⟨a,b,c,d,e,f,g⟩;rw[a,b,c,d,e,(zre ih ts' f).1 g]
  · intro h;cases h
    exact⟨rfl,rfl,rfl,rfl,rfl,rfl,(zre ih ts rfl).2 rfl⟩
theorem zrf{ts us:List Dt}{i:Nat}{t u:Dt}(hi:ts[i]?=some t)(hj:us[i]?=some u):qbb ((ts.map Dt.tr).drop i) ((us.map Dt.tr).drop i)=(qfe t.tr u.tr&&qbb ((ts.map Dt.tr).drop (i+1)) ((us.map Dt.tr).drop (i+1))):=by
  rw[yv hi,yv hj,qbb]
theorem jhg{ts us:List Dt}{i:Nat}(h:¬i<ts.length):qbb ((ts.map Dt.tr).drop i) ((us.map Dt.tr).drop i)=true:=by
  rw[qbj h,qbb]
theorem zrg(p r:Dt):qfe p.tr r.tr=((decide (p.d.k=r.d.k)&&(decide (p.d.n=r.d.n)&&(decide (p.d.s=r.d.s)&&(decide (p.d.rl=r.d.rl)&&(xn p.d.y.q.b1 p.d.y.q.t1 p.d.y.q.q1 r.d.y.q.b1 r.d.y.q.t1 r.d.y.q.q1&&xn p.d.y.q.b2 p.d.y.q.t2 p.d.y.q.q2 r.d.y.q.b2 r.d.y.q.t2 r.d.y.q.q2)))))&&(decide (p.ts.length=r.ts.length)&&qbb (p.ts.map Dt.tr) (r.ts.map Dt.tr))):=by
  rw[Dt.tr_eta p,Dt.tr_eta r,qfe,gy];show _=(_&&(decide (p.ts.length=r.ts.length)&&_));rw[show(Tr.mk r.d.k r.d.n r.d.y.q r.d.s r.d.rl (r.ts.map Dt.tr)).ts.length=r.ts.length from gy _];rfl
def SQ2(p r:Dt):Bool:=xn p.d.y.q.b1 p.d.y.q.t1 p.d.y.q.q1 r.d.y.q.b1 r.d.y.q.t1 r.d.y.q.q1&&xn p.d.y.q.b2 p.d.y.q.t2 p.d.y.q.q2 r.d.y.q.b2 r.d.y.q.t2 r.d.y.q.q2
theorem qhe{p r:Dt}(h:p.d.k≠r.d.k∨p.d.n≠r.d.n∨p.d.s≠r.d.s∨p.d.rl≠r.d.rl∨p.ts.length≠r.ts.length∨SQ2 p r=false):qfe p.tr r.tr=false:=by
  rw[zrg];unfold SQ2 at h;rcases h with h|h|h|h|h|h<;>simp[h]
theorem jqd{p r:Dt}(h1:p.d.k=r.d.k)(h2:p.d.n=r.d.n)(h3:p.d.s=r.d.s)(h4:p.d.rl=r.d.rl)(h5:p.ts.length=r.ts.length)(h6:SQ2 p r=true):qfe p.tr r.tr=qbb (p.ts.map Dt.tr) (r.ts.map Dt.tr):=by
  rw[zrg];unfold SQ2 at h6;rw[gv h1,gv h2,gv h3,gv h4,gv h5,h6];simp
theorem jhh{a b:List UInt8}(hl:a.length=b.length)(h:∀j,j<a.length→a.getD j 0=b.getD j 0):a=b:=by
  apply List.ext_getElem hl;intro j h1 h2;have:=h j h1
  rwa [show a.getD j 0=a[j]from by simp[List.getD,List.getElem?_eq_getElem h1],show b.getD j 0=b[j]from by simp[List.getD,List.getElem?_eq_getElem h2]]at this
theorem xkg{a b:List UInt8}{i:Nat}(h:(((a.getD i 0).toNat:Nat):Int)≠(((b.getD i 0).toNat:Nat):Int)):a≠b:=fun e=>h (by rw[e])
theorem xkh{a b:UInt8}(h:((a.toNat:Nat):Int)=((b.toNat:Nat):Int)):a=b:=UInt8.toNat_inj.1 (by omega)
theorem TrU_is1_21: Is1 Tryz.prog 21:=⟨⟨_,iz,rfl⟩,by kernel_rfl⟩
theorem TrU_is1_5: Is1 Tryz.prog 5:=⟨⟨_,ir,rfl⟩,by kernel_rfl⟩
open Go.Lib
theorem qtj{f p:Nat}{l:List UInt8}(hl:l≠[]):kl (f+1) p l=((p:Int),uR (decodeL l).1 (decodeL l).2)::kl f (p+(decodeL l).2) (l.drop (decodeL l).2):=by
 conv=>lhs; unfold kl
 rw[f7 hl]
theorem qhf{w:World}{so:Option Addr}{l:List UInt8}{i:Nat}(h:Rb w so l)(hi:i<l.length):∃b off,so=some ⟨b,off,none⟩∧b<w.heap.size∧∀j,j<l.length→w.cell? ⟨b,off+j,none⟩=some (.int .u8 (((l.getD j 0).toNat:Nat):Int)):=
 h.pos (fun k=>by rw[k]at hi; exact absurd hi (j4 _))
def xv(us:List (Int×Int)):List Value:=us.flatMap fun u=>if u.2=-1 then[.int .i32 0,bV true,iV u.1]else[.int .i32 u.2,bV false,iV u.1]
theorem zld{x:Int}(i:Nat)(m:Int)(hm:m=((2^i-1:Nat):Int))(hs:m≤255)(h0:0≤x)(h1:x≤255):bits .and .u8 x m=x%((2^i:Nat):Int):=by
 obtain⟨n,rfl⟩:∃n:Nat,x=(n:Int):=⟨x.toNat,by omega⟩;subst hm;have h2:n &&& (2^i-1)=n%2^i:=Nat.and_two_pow_sub_one_eq_mod n i;have e:(BitVec.ofInt IntKind.u8.bits (n:Int) &&& BitVec.ofInt IntKind.u8.bits (((2^i-1:Nat)):Int)).toNat=n%2^i:=by
  rw[←h2,BitVec.ofInt_natCast,BitVec.ofInt_natCast,BitVec.toNat_and,BitVec.toNat_ofNat,BitVec.toNat_ofNat];show n%256 &&& (2^i-1)%256=_;rw[Nat.mod_eq_of_lt (by omega),Nat.mod_eq_of_lt (by omega)]
 show IntKind.u8.wrap ((BitVec.ofInt IntKind.u8.bits (n:Int) &&& BitVec.ofInt IntKind.u8.bits (((2^i-1:Nat)):Int)).toNat:Int)=_;rw[e];have:=Nat.mod_le n (2^i);exact(in_u8 (by omega) (by omega)).trans (Int.natCast_emod n (2^i))
theorem xhh{c x:Int}(h0:0≤c)(h1:c≤33554431)(h2:0≤x)(h3:x≤63):bits .or .i32 (c*64) x=c*64+x:=by
 obtain⟨a,rfl⟩:∃a:Nat,c=(a:Int):=⟨c.toNat,by omega⟩;obtain⟨n,rfl⟩:∃n:Nat,x=(n:Int):=⟨x.toNat,by omega⟩;have:=Nat.two_pow_add_eq_or_of_lt (i:=6) (b:=n) (by omega) a;rw[show(2:Nat)^6=64 from rfl]at this;have e:=xfb (64*a) n (by omega) (by omega);rw[show(((64*a:Nat)):Int)=(a:Int)*64 from by omega]at e;rw[e,←this];omega
def qua(l:List UInt8)(i:Nat):List (Int×Int):=kl (l.length-i) i (l.drop i)
theorem zyd(l:List UInt8):qua l 0=xh l:=by unfold qua xh; rw[List.drop_zero,Nat.sub_zero]
theorem zye{l:List UInt8}{i:Nat}(h:¬i<l.length):qua l i=[]:=by unfold qua; rw[show l.length-i=0 from by omega]; rfl
theorem zab{l:List UInt8}{i r q:Nat}(h:i<l.length)(e:decodeN (l.length-i) (l.getD i 0).toNat (l.getD (i+1) 0).toNat (l.getD (i+2) 0).toNat (l.getD (i+3) 0).toNat=(r,q)):qua l i=((i:Int),uR r q)::qua l (i+q):=by
 have hne:l.drop i≠[]:=fun k=>by
  have:=j9 List.length k;rw[il,fx]at this;omega
 have hd:decodeL (l.drop i)=(r,q):=by
  rw[decodeL_N,qgf,qgf,qgf,qgf,il];exact e
 have hw:=vt _ hne;rw[hd,il]at hw;simp only at hw;unfold qua;obtain⟨m,hm⟩:∃m,l.length-i=m+1:=⟨l.length-i-1,by omega⟩;rw[hm,qtj hne,hd,List.drop_drop];simp only;rw[qic m (l.length-(i+q)) _ _ (by rw[il]; omega) (by rw[il]; omega)]
def LeadU(x n:Nat)(r:Int):Prop:=(x<128∧n=1∧r=x)∨(192≤x∧x<224∧n=2∧r=x%32)∨(224≤x∧x<240∧n=3∧r=x%16)∨(240≤x∧x<248∧n=4∧r=x%8)∨((128≤x∧x<192∨248≤x)∧n=0∧r=0)
def ContU(len i n:Nat)(b1 b2 b3:Nat)(r:Int)(k:Nat)(rk:Int)(ok:Bool):Prop:=(ok=true∧0<n∧i+n≤len∧k≤n∧((k=1∧rk=r)∨(k=2∧b1 / 64=2∧rk=r*64+((b1%64:Nat):Int))∨(k=3∧b1 / 64=2∧b2 / 64=2∧rk=(r*64+((b1%64:Nat):Int))*64+((b2%64:Nat):Int))∨(k=4∧b1 / 64=2∧b2 / 64=2∧b3 / 64=2∧rk=((r*64+((b1%64:Nat):Int))*64+((b2%64:Nat):Int))*64+((b3%64:Nat):Int)))) ∨
 (ok=false∧(¬(0<n∧i+n≤len)∨(1<n∧b1 / 64≠2)∨(2<n∧b2 / 64≠2)∨(3<n∧b3 / 64≠2)))
def qnb(n:Nat):Int:=if n=2 then 128 else if n=3 then 2048 else 65536
theorem jqe{n:Nat}(h0:2≤n)(h1:n≤4):([.int .i32 0,.int .i32 0,.int .i32 128,.int .i32 2048,.int .i32 65536]:List Value)[n*1]?=some (.int .i32 (qnb n)):=by
 have h:n=2∨n=3∨n=4:=by omega
 rcases h with rfl|rfl|rfl<;>rfl
theorem xhi{x n:Nat}{r:Int}(h:LeadU x n r):n≤4∧0≤r∧r≤127∧(1<n→r≤31):=by unfold LeadU at h; omega
theorem zyf{len i n b1 b2 b3:Nat}{r:Int}{ok:Bool}(h:ok=decide (0<n∧i+n≤len)):ContU len i n b1 b2 b3 r 1 r ok:=by
 unfold ContU;by_cases k:0<n∧i+n≤len
 ·exact .inl ⟨by rw[h,gv k],k.1,k.2,by omega,.inl ⟨rfl,rfl⟩⟩
 ·exact .inr ⟨by rw[h,gn k],.inl k⟩
theorem jhi{l:List UInt8}{i n k:Nat}{r rk:Int}(hn:n≤4)(h:ContU l.length i n (l.getD (i+1) 0).toNat (l.getD (i+2) 0).toNat (l.getD (i+3) 0).toNat r k rk true)(hk:k<n):ContU l.length i n (l.getD (i+1) 0).toNat (l.getD (i+2) 0).toNat (l.getD (i+3) 0).toNat r (k+1) (rk*64+(((l.getD (i+k) 0).toNat:Nat):Int)%64) ((((l.getD (i+k) 0).toNat:Nat):Int) / 64==2):=by
 rcases h with⟨_,h1,h2,h3,h4⟩|⟨h,_⟩
 ·unfold ContU;have e:k=1∨k=2∨k=3:=by omega
  rcases e with rfl|rfl|rfl
  ·by_cases hb:(((l.getD (i+1) 0).toNat:Nat):Int) / 64=2
   ·exact .inl ⟨beq_iff_eq.2 hb,h1,h2,by omega,by omega⟩
   ·exact .inr ⟨beq_eq_false_iff_ne.2 hb,by omega⟩
  ·by_cases hb:(((l.getD (i+2) 0).toNat:Nat):Int) / 64=2
   ·exact .inl ⟨beq_iff_eq.2 hb,h1,h2,by omega,by omega⟩
   ·exact .inr ⟨beq_eq_false_iff_ne.2 hb,by omega⟩
  ·by_cases hb:(((l.getD (i+3) 0).toNat:Nat):Int) / 64=2
   ·exact .inl ⟨beq_iff_eq.2 hb,h1,h2,by omega,by omega⟩
   ·exact .inr ⟨beq_eq_false_iff_ne.2 hb,by omega⟩
 ·cases h
theorem qbf{len i n b1 b2 b3 k:Nat}{r rk:Int}(h:ContU len i n b1 b2 b3 r k rk true):0<n∧i+n≤len∧k≤n∧1≤k∧(0≤r→r≤31→k≤3→0≤rk∧rk≤200000)∧(0≤r→r≤31→0≤rk∧rk≤40000000)∧(k=1→rk=r):=by
 rcases h with⟨_,h1,h2,h3,h4⟩|⟨h,_⟩
 ·omega
 ·cases h
def EndU(len i n:Nat)(b0 b1 b2 b3:Nat)(rk:Int)(ok:Bool):Prop:=(ok=true∧decodeN (len-i) b0 b1 b2 b3=(rk.toNat,n)∧uR rk.toNat n=rk∧0≤rk∧1≤n∧i+n≤len)∨(ok=false∧decodeN (len-i) b0 b1 b2 b3=(65533,1))
theorem zyg{len i n b0 b1 b2 b3:Nat}{r rk:Int}(hi:i<len)(h0:b0<256)(hL:LeadU b0 n r)(hC:ContU len i n b1 b2 b3 r n rk true)(h:n=1∨(qnb n≤rk∧rk≤1114111∧(rk<55296∨57343<rk))):EndU len i n b0 b1 b2 b3 rk true:=by
 rcases hC with⟨_,h1,h2,h3,h4⟩|⟨h,_⟩
 ·unfold LeadU at hL;unfold qnb at h;have hn:n=1∨n=2∨n=3∨n=4:=by omega
  refine .inl ⟨rfl,?_,?_,by rcases hn with rfl|rfl|rfl|rfl<;>omega,h1,h2⟩
  ·unfold decodeN;rcases hn with rfl|rfl|rfl|rfl
   ·rw[gj (by omega)];exact Prod.ext (by show b0=rk.toNat; omega) rfl
   ·simp only[if_true]at h;rw[f7 (by omega),gj (by omega),gj (by omega)];exact Prod.ext (by show(_:Nat)=rk.toNat; omega) rfl
   ·rw[f7 (show ¬3=2 by decide),gj rfl]at h;rw[f7 (by omega),f7 (by omega),gj (by omega),gj (by omega)];exact Prod.ext (by show(_:Nat)=rk.toNat; omega) rfl
   ·rw[f7 (show ¬4=2 by decide),f7 (show ¬4=3 by decide)]at h;rw[f7 (by omega),f7 (by omega),f7 (by omega),gj (by omega),gj (by omega)];exact Prod.ext (by show(_:Nat)=rk.toNat; omega) rfl
  ·unfold uR;rw[f7 (by rcases hn with rfl|rfl|rfl|rfl<;>omega)];rcases hn with rfl|rfl|rfl|rfl<;>omega
 ·cases h
theorem zle{len i n b0 b1 b2 b3 k:Nat}{r rk:Int}{ok:Bool}(hi:i<len)(h0:b0<256)(hL:LeadU b0 n r)(hC:ContU len i n b1 b2 b3 r k rk ok)(hk:ok=true→k=n)(h:ok=false∨(n≠1∧¬(qnb n≤rk∧rk≤1114111∧(rk<55296∨57343<rk)))):EndU len i n b0 b1 b2 b3 rk false:=by
 refine .inr ⟨rfl,?_⟩;unfold LeadU at hL;unfold decodeN;rcases hC with⟨hb,h1,h2,h3,h4⟩|⟨hb,h4⟩
 ·have hkn:=hk hb;subst hkn;rcases h with h|⟨h5,h6⟩
  ·rw[hb]at h; cases h
  ·have hn:k=2∨k=3∨k=4:=(by omega);unfold qnb at h6;rcases hn with rfl|rfl|rfl
   ·simp only[if_true]at h6;rw[f7 (by omega),gj (by omega),f7 (by omega)]
   ·rw[f7 (show ¬3=2 by decide),gj rfl]at h6;rw[f7 (by omega),f7 (by omega),gj (by omega),f7 (by omega)]
   ·rw[f7 (show ¬4=2 by decide),f7 (show ¬4=3 by decide)]at h6;rw[f7 (by omega),f7 (by omega),f7 (by omega),gj (by omega),f7 (by omega)]
 ·rw[f7 (by omega),f7 (by omega),f7 (by omega),f7 (by omega)]
theorem jhj{w:World}{so:Option Addr}{cap:Nat}{l:List UInt8}(hb:Rb w so l)(hlen:l.length≤4000000):Calls Tryz.prog 239 #[.slice so l.length cap] w fun e w'=>∃v,e=.returned v∧Mg w w' [.row 211 3 v (xh l).length (xv (xh l))]:=by
 have M:=Mg.start w;refine wof Tryz.func239 Tryz.ntmps239 fun Q hret hnorm hP a A=>?_;refine wsr fun _ dk=>sda A λA=>?_;refine qa (dk _ _ (wsr fun _ dn=>jr (e:=211) (sz:=3) (m:=0) (vs:=[]) A M rfl rfl rfl (qg rfl (by kernel_rfl)) rfl rfl (.inl (by decide)) ?_));intro g3 _ M a A;refine sda A λA=>?_;refine qwk dn fun _ dq=>wsr fun _ dr=>sda A λA=>?_;refine qa (dr _ _ (wp_block (zg (fun m_ a w1=>∃(i:Nat) (acc:List (Int×Int)) (vo:Value),m_=l.length-i∧(acc++qua l i=xh l∧i≤l.length∧acc.length≤i)∧Sl a 122 [(0,.slice so l.length cap),(2,.slice none 0 0),(3,vo),(4,iV (((i:Nat):Int))),(12,.slice (aO g3) 0 0)]∧Mg w w1 (.row 211 3 (vo) acc.length ((xv acc))::[])) _ ⟨0,[],.slice (aO g3) 0 0,rfl,⟨by rw[zyd]; rfl,ii _,gm _⟩,A.keep _ ⟨rfl,rfl,rfl,rfl,rfl,trivial⟩,M⟩ ?_)));clear M A;rintro m_ a _ ⟨i,acc,vo,rfl,bf,A,M⟩ _ dg;obtain⟨hrun,_,hacc⟩:=bf;refine wsk fun _ bw=>wsr fun _ bg=>?_;iterate 2 refine sdm A λA=>?_
 refine sdo A (qr ib rfl) λA=>?_;rcases tf (decide (((i:Nat):Int)<((l.length:Nat):Int)))with aa|aa
 ·have aa':=f5 aa;refine sdc A qy aa λA=>?_;refine qct bg A ?_;refine wp_skip (bw _ _ (wp_block (wsr fun _ bz=>?_)));iterate 2 refine sda A λA=>?_
  refine qwk bz fun _ cc=>?_;have av:i<l.length:=by omega
  refine wrl ?_;iterate 2 refine sdm A λA=>?_
  obtain⟨bx,ox,cd,ce,cg⟩:=qhf (i:=i) hb (by omega);have hu9:=(l.getD (i) 0).toNat_lt;refine sdo (v:=pA bx (ox+(i))) A (ja (k:=i) ib (by kernel_rfl) rfl rfl rfl cd (by omega)) λA=>?_;refine sdo (v:=.int .u8 ((((l.getD i 0).toNat:Nat):Int))) A (qgh M ce (cg (i) (by omega)) TrU_is1_5 rfl) λA=>?_;refine sda A λA=>?_;refine qwk cc fun dt ch=>?_;have au:∀a w1,(∃(n:Nat) (r:Int),(LeadU (l.getD i 0).toNat n r)∧Sl a 122 [(0,.slice so l.length cap),(2,.slice none 0 0),(3,vo),(4,iV (((i:Nat):Int))),(5,iV (((n:Nat):Int))),(6,.int .i32 r),(12,.slice (aO g3) 0 0),(13,iV (((i:Nat):Int))),(14,.slice so l.length cap),(15,iV (((l.length:Nat):Int))),(16,bV true),(17,.slice so l.length cap),(18,iV (((i:Nat):Int))),(19,pA bx (ox+(i))),(20,.int .u8 ((((l.getD i 0).toNat:Nat):Int)))]∧Mg w w1 (.row 211 3 (vo) acc.length ((xv acc))::[]))→dt a w1:=by
   clear A M;rintro a _ ⟨n,r,ci,A,M⟩;have hL:=ci;have hn4:=xhi hL;refine ch _ _ (wsk fun du cj=>?_);have aw:∀a w1,(∃(ok:Bool),(ok=decide (0<n∧i+n≤l.length))∧Sl a 122 [(0,.slice so l.length cap),(2,.slice none 0 0),(3,vo),(4,iV (((i:Nat):Int))),(5,iV (((n:Nat):Int))),(6,.int .i32 r),(8,bV ok),(12,.slice (aO g3) 0 0),(13,iV (((i:Nat):Int))),(14,.slice so l.length cap),(15,iV (((l.length:Nat):Int))),(16,bV true),(17,.slice so l.length cap),(18,iV (((i:Nat):Int))),(19,pA bx (ox+(i))),(20,.int .u8 ((((l.getD i 0).toNat:Nat):Int)))]∧Mg w w1 (.row 211 3 (vo) acc.length ((xv acc))::[]))→du a w1:=by
    clear A M;rintro a _ ⟨ok,ck,A,M⟩;have hok:=ck;refine cj _ _ (wsk fun dv cl=>?_);have bh:∀a w1,(∃(k:Nat) (rk:Int) (ok3:Bool),(ContU l.length i n (l.getD (i+1) 0).toNat (l.getD (i+2) 0).toNat (l.getD (i+3) 0).toNat r k rk ok3∧(ok3=true→k=n))∧Sl a 122 [(0,.slice so l.length cap),(2,.slice none 0 0),(3,vo),(4,iV (((i:Nat):Int))),(5,iV (((n:Nat):Int))),(6,.int .i32 rk),(8,bV ok3),(12,.slice (aO g3) 0 0),(13,iV (((i:Nat):Int))),(14,.slice so l.length cap),(15,iV (((l.length:Nat):Int))),(16,bV true),(17,.slice so l.length cap),(18,iV (((i:Nat):Int))),(19,pA bx (ox+(i))),(20,.int .u8 ((((l.getD i 0).toNat:Nat):Int)))]∧Mg w w1 (.row 211 3 (vo) acc.length ((xv acc))::[]))→dv a w1:=by
     clear A M;rintro a dh ⟨k,rk,ok3,cm,A,M⟩;obtain⟨hC,hkn⟩:=cm;refine cl _ _ (wsk fun dw cn=>?_);have ab:∀a w1,(∃(ok4:Bool),(EndU l.length i n (l.getD i 0).toNat (l.getD (i+1) 0).toNat (l.getD (i+2) 0).toNat (l.getD (i+3) 0).toNat rk ok4)∧Sl a 122 [(0,.slice so l.length cap),(2,.slice none 0 0),(3,vo),(4,iV (((i:Nat):Int))),(5,iV (((n:Nat):Int))),(6,.int .i32 rk),(8,bV ok4),(12,.slice (aO g3) 0 0),(13,iV (((i:Nat):Int))),(14,.slice so l.length cap),(15,iV (((l.length:Nat):Int))),(16,bV true),(17,.slice so l.length cap),(18,iV (((i:Nat):Int))),(19,pA bx (ox+(i))),(20,.int .u8 ((((l.getD i 0).toNat:Nat):Int)))]∧Mg w w1 (.row 211 3 (vo) acc.length ((xv acc))::[]))→dw a w1:=by
      clear A M;rintro a _ ⟨ok4,co,A,M⟩;have hE:=co;refine cn _ _ (wsr fun _ cp=>sdm A λA=>?_);refine qa (cp _ _ ?_);refine wp_cond_split (t:=ok4) (A.ev rfl) (fun ax=>?_) (fun ax=>?_)
      ·refine wsr fun _ cq=>?_;iterate 3 refine sdm A λA=>?_
       refine sdo (v:=.agg #[.int .i32 rk,bV false,iV (((i:Nat):Int))]) A (qn rfl (fun w=>by kernel_rfl)) λA=>?_;refine jr (e:=211) (sz:=3) (m:=1) (vs:=[.int .i32 rk,bV false,iV (((i:Nat):Int))]) A M rfl rfl rfl (qg rfl (by kernel_rfl)) rfl rfl (.inl (by decide)) ?_;intro g34 _ M a A;refine xd (e:=211) (sz:=3) (k:=1) (q:=acc.length) (m:=1) (xs:=(xv acc)) (news:=[.int .i32 rk,bV false,iV (((i:Nat):Int))]) A rfl rfl rfl (qjj (z:=.agg #[.int .i32 0,bV false,iV 0]) (sz:=3) (by_:=16) Tryz.underlying208 (by kernel_rfl) rfl rfl rfl M 1 rfl rfl 0 rfl rfl rfl rfl (by omega)) (fun _=>rfl) ?_;intro di dx M a A;refine sda A λA=>?_;refine qa (cq _ _ (wrl ?_));iterate 2 refine sdm A λA=>?_
       refine sdo (v:=iV (((i+n:Nat):Int))) A (qb rfl rfl (ar_add ((in_i64 (by omega) (by omega)).trans (by omega)))) λA=>?_;refine sda A λA=>?_;refine qa ?_;obtain⟨hd,hr9,hrk,hn1,hn2⟩:decodeN (l.length-i) (l.getD i 0).toNat (l.getD (i+1) 0).toNat (l.getD (i+2) 0).toNat (l.getD (i+3) 0).toNat=(rk.toNat,n)∧uR rk.toNat n=rk∧0≤rk∧1≤n∧i+n≤l.length:=by
        rcases hE with⟨_,h⟩|⟨h,_⟩
        ·exact h
        ·rw[ax]at h; cases h
       have hs9:=zab av hd;rw[hr9]at hs9;replace M:Mg w dx [.row 211 3 di (acc++[((i:Int),rk)]).length (xv (acc++[((i:Int),rk)]))]:=by
        have h9:=M.sub (cN (cC (.refl _)));have e9:xv (acc++[((i:Int),rk)])=xv acc++[.int .i32 rk,bV false,iV (((i:Nat):Int))]:=by
         unfold xv;rw[ll,List.flatMap_singleton];rw[f7 (show ¬_=(-1:Int)by simp only; omega)]
        rw[e9,fv];exact h9
       refine dg _ _ _ (by omega) ⟨i+n,acc++[((i:Int),rk)],di,rfl,⟨by rw[←hrun,hs9,f4]; rfl,by omega,by rw[fv]; simp only[fw,fx]; omega⟩,A.keep _ ⟨rfl,rfl,rfl,rfl,rfl,trivial⟩,M⟩
      ·refine wsr fun _ cr=>?_;iterate 2 refine sdm A λA=>?_
       refine sdo (v:=.agg #[.int .i32 0,bV true,iV (((i:Nat):Int))]) A (qn rfl (fun w=>by kernel_rfl)) λA=>?_;refine jr (e:=211) (sz:=3) (m:=1) (vs:=[.int .i32 0,bV true,iV (((i:Nat):Int))]) A M rfl rfl rfl (qg rfl (by kernel_rfl)) rfl rfl (.inl (by decide)) ?_;intro g39 _ M a A;refine xd (e:=211) (sz:=3) (k:=1) (q:=acc.length) (m:=1) (xs:=(xv acc)) (news:=[.int .i32 0,bV true,iV (((i:Nat):Int))]) A rfl rfl rfl (qjj (z:=.agg #[.int .i32 0,bV false,iV 0]) (sz:=3) (by_:=16) Tryz.underlying208 (by kernel_rfl) rfl rfl rfl M 1 rfl rfl 0 rfl rfl rfl rfl (by omega)) (fun _=>rfl) ?_;intro dj dy M a A;refine sda A λA=>?_;refine qa (cr _ _ (wrl (sdm A λA=>?_)));refine sdo (v:=iV (((i+1:Nat):Int))) A (qb rfl rfl (ar_add ((in_i64 (by omega) (by omega)).trans (by omega)))) λA=>?_;refine sda A λA=>?_;refine qa ?_;have hd:decodeN (l.length-i) (l.getD i 0).toNat (l.getD (i+1) 0).toNat (l.getD (i+2) 0).toNat (l.getD (i+3) 0).toNat=(65533,1):=by
        rcases hE with⟨h,_⟩|⟨_,h⟩
        ·rw[ax]at h; cases h
        ·exact h
       have hr9:uR 65533 1=-1:=(by unfold uR; rw[gj ⟨rfl,by decide⟩]);have hs9:=zab av hd;rw[hr9]at hs9;replace M:Mg w dy [.row 211 3 dj (acc++[((i:Int),(-1))]).length (xv (acc++[((i:Int),(-1))]))]:=by
        have h9:=M.sub (cN (cC (.refl _)));have e9:xv (acc++[((i:Int),(-1))])=xv acc++[.int .i32 0,bV true,iV (((i:Nat):Int))]:=by
         unfold xv;rw[ll,List.flatMap_singleton];rw[gj rfl]
        rw[e9,fv];exact h9
       refine dg _ _ _ (by omega) ⟨i+1,acc++[((i:Int),(-1))],dj,rfl,⟨by rw[←hrun,hs9,f4]; rfl,by omega,by rw[fv]; simp only[fw,fx]; omega⟩,A.keep _ ⟨rfl,rfl,rfl,rfl,rfl,trivial⟩,M⟩
     refine wsr fun _ ay=>?_;iterate 2 refine sdm A λA=>?_
     rcases ok3 with _|_
     ·iterate 2 refine sks A λA=>?_
      refine sdk (v:=bV false) A λA=>?_;refine qcf ay A ?_;refine wp_skip ?_;replace M:Mg w dh (.row 211 3 (vo) acc.length ((xv acc))::[]):=by
       have h9:=M.sub (cC (.refl _));exact h9
      exact ab _ _ ⟨false,zle av ((l.getD i 0).toNat_lt) hL hC hkn (.inl rfl),A.keep _ (by repeat' constructor),M⟩
     ·refine sdm A λA=>?_;rcases tf (decide (1<((n:Nat):Int)))with ac|ac
      ·have ac':=f5 ac;refine sdc A jh ac λA=>?_;refine sdk (v:=bV true) A λA=>?_;refine qct ay A ?_;refine wsr fun _ cw=>jr (e:=21) (sz:=1) (m:=5) (vs:=[.int .i32 0,.int .i32 0,.int .i32 128,.int .i32 2048,.int .i32 65536]) A M rfl rfl rfl (qg rfl (by kernel_rfl)) rfl rfl (.inl (by decide)) ?_;intro g46 bi M a A;refine sda A λA=>?_;refine qa (cw _ _ ?_);have dz:=qbf hC;refine wrl ?_;iterate 3 refine sdm A λA=>?_
       refine sdo (v:=pA g46 (n*1)) A (qaa (k:=n) j2 (by kernel_rfl) rfl rfl rfl (by omega)) λA=>?_;refine sdo (v:=.int .i32 (qnb n)) A (qog M 0 rfl (jqe (by omega) (by omega)) TrU_is1_21 rfl) λA=>?_;rcases tf (decide (qnb n≤rk))with ae|ae
       ·have ae':=f5 ae;refine sdc A zt ae λA=>?_;iterate 2 refine sdm A λA=>?_
        rcases tf (decide (rk≤1114111))with af|af
        ·have af':=f5 af;refine sdc A xi af λA=>?_;refine sdk (v:=bV true) A λA=>?_;iterate 2 refine sdm A λA=>?_
         rcases tf (decide (rk<55296))with ag|ag
         ·have ag':=f5 ag;refine sdc A qy ag λA=>?_;refine sdm A λA=>?_;iterate 2 refine sks A λA=>?_
          iterate 2 refine sdk (v:=bV true) A λA=>?_
          refine sda A λA=>?_;refine qa ?_;replace M:Mg w bi (.row 211 3 (vo) acc.length ((xv acc))::[]):=by
           have h9:=M.sub (cN (cC (.refl _)));exact h9
          have bj:=qbf hC;exact ab _ _ ⟨true,zyg av ((l.getD i 0).toNat_lt) hL (hkn rfl▸hC) (by omega),A.keep _ (by repeat' constructor),M⟩
         ·have ag':=fy ag;refine sdc A qy ag λA=>?_;iterate 2 refine sdm A λA=>?_
          rcases tf (decide (57343<rk))with ah|ah
          ·have ah':=f5 ah;refine sdc A jh ah λA=>?_;iterate 2 refine sdk (v:=bV true) A λA=>?_
           refine sda A λA=>?_;refine qa ?_;replace M:Mg w bi (.row 211 3 (vo) acc.length ((xv acc))::[]):=by
            have h9:=M.sub (cN (cC (.refl _)));exact h9
           have bj:=qbf hC;exact ab _ _ ⟨true,zyg av ((l.getD i 0).toNat_lt) hL (hkn rfl▸hC) (by omega),A.keep _ (by repeat' constructor),M⟩
          ·have ah':=fy ah;refine sdc A jh ah λA=>?_;iterate 2 refine sdk (v:=bV false) A λA=>?_
           refine sda A λA=>?_;refine qa ?_;replace M:Mg w bi (.row 211 3 (vo) acc.length ((xv acc))::[]):=by
            have h9:=M.sub (cN (cC (.refl _)));exact h9
           have bj:=qbf hC;exact ab _ _ ⟨false,zle av ((l.getD i 0).toNat_lt) hL hC hkn (.inr ⟨by omega,by omega⟩),A.keep _ (by repeat' constructor),M⟩
        ·have af':=fy af;refine sdc A xi af λA=>?_;refine sdk (v:=bV false) A λA=>?_;refine sdm A λA=>?_;iterate 3 refine sks A λA=>?_
         iterate 2 refine qbh A rfl rfl rfl λa A=>?_
         refine sks A λA=>?_;refine sdk (v:=bV false) A λA=>?_;refine sda A λA=>?_;refine qa ?_;replace M:Mg w bi (.row 211 3 (vo) acc.length ((xv acc))::[]):=by
          have h9:=M.sub (cN (cC (.refl _)));exact h9
         have bj:=qbf hC;exact ab _ _ ⟨false,zle av ((l.getD i 0).toNat_lt) hL hC hkn (.inr ⟨by omega,by omega⟩),A.keep _ (by repeat' constructor),M⟩
       ·have ae':=fy ae;refine sdc A zt ae λA=>?_;refine sdm A λA=>?_;iterate 2 refine sks A λA=>?_
        refine sdk (v:=bV false) A λA=>?_;refine sdm A λA=>?_;iterate 3 refine sks A λA=>?_
        iterate 2 refine qbh A rfl rfl rfl λa A=>?_
        refine sks A λA=>?_;refine sdk (v:=bV false) A λA=>?_;refine sda A λA=>?_;refine qa ?_;replace M:Mg w bi (.row 211 3 (vo) acc.length ((xv acc))::[]):=by
         have h9:=M.sub (cN (cC (.refl _)));exact h9
        have bj:=qbf hC;exact ab _ _ ⟨false,zle av ((l.getD i 0).toNat_lt) hL hC hkn (.inr ⟨by omega,by omega⟩),A.keep _ (by repeat' constructor),M⟩
      ·have ac':=fy ac;refine sdc A jh ac λA=>?_;refine sdk (v:=bV false) A λA=>?_;refine qcf ay A ?_;refine wp_skip ?_;replace M:Mg w dh (.row 211 3 (vo) acc.length ((xv acc))::[]):=by
        have h9:=M.sub (cC (.refl _));exact h9
       have bj:=qbf hC;exact ab _ _ ⟨true,zyg av ((l.getD i 0).toNat_lt) hL (hkn rfl▸hC) (by omega),A.keep _ (by repeat' constructor),M⟩
    refine wsr fun _ cx=>sda A λA=>?_;refine qa (cx _ _ (wp_block (zg (fun m_ a w1=>∃(k:Nat) (rk:Int) (ok2:Bool),m_=5-k∧(ContU l.length i n (l.getD (i+1) 0).toNat (l.getD (i+2) 0).toNat (l.getD (i+3) 0).toNat r k rk ok2)∧Sl a 122 [(0,.slice so l.length cap),(2,.slice none 0 0),(3,vo),(4,iV (((i:Nat):Int))),(5,iV (((n:Nat):Int))),(6,.int .i32 rk),(8,bV ok2),(9,iV (((k:Nat):Int))),(12,.slice (aO g3) 0 0),(13,iV (((i:Nat):Int))),(14,.slice so l.length cap),(15,iV (((l.length:Nat):Int))),(16,bV true),(17,.slice so l.length cap),(18,iV (((i:Nat):Int))),(19,pA bx (ox+(i))),(20,.int .u8 ((((l.getD i 0).toNat:Nat):Int)))]∧Mg w w1 (.row 211 3 (vo) acc.length ((xv acc))::[])) _ ⟨1,r,ok,rfl,zyf hok,A.keep _ (by repeat' constructor),M⟩ ?_)));clear M A;rintro m_ a _ ⟨k,rk,ok2,rfl,az,A,M⟩ _ cy;have hC:=az;refine wsk fun _ cz=>wsr fun _ bd=>?_;iterate 2 refine sdm A λA=>?_
    rcases ok2 with _|_
    ·iterate 3 refine sks A λA=>?_
     refine sdk (v:=bV false) A λA=>?_;refine qcf bd A ?_;refine wp_exit ?_;exact bh _ _ ⟨k,rk,false,⟨hC,fun h=>by cases h⟩,A.keep _ (by repeat' constructor),M⟩
    ·iterate 2 refine sdm A λA=>?_
     rcases tf (decide (((k:Nat):Int)<((n:Nat):Int)))with ai|ai
     ·have ai':=f5 ai;refine sdc A qy ai λA=>?_;refine sdk (v:=bV true) A λA=>?_;refine qct bd A ?_;refine wp_skip (cz _ _ (wsk fun _ db=>wp_block (wsk fun _ dd=>?_)));have dz:=qbf hC;refine wrl ?_;iterate 3 refine sdm A λA=>?_
      refine sdo (v:=iV (((i+k:Nat):Int))) A (qb rfl rfl (ar_add ((in_i64 (by omega) (by omega)).trans (by omega)))) λA=>?_;obtain⟨bx,ox,cd,ce,cg⟩:=qhf (i:=i+k) hb (by omega);have hu9:=(l.getD (i+k) 0).toNat_lt;refine sdo (v:=pA bx (ox+(i+k))) A (ja (k:=i+k) ib (by kernel_rfl) rfl rfl rfl cd (by omega)) λA=>?_;refine sdo (v:=.int .u8 ((((l.getD (i+k) 0).toNat:Nat):Int))) A (qgh M ce (cg (i+k) (by omega)) TrU_is1_5 rfl) λA=>?_;refine sda A λA=>?_;refine qwr dd fun _ de=>sdm A λA=>?_;refine sdo (v:=.int .u8 (((((l.getD (i+k) 0).toNat:Nat):Int)) / 64)) A (qb rfl rfl (ar_shr (n:=6) rfl rfl rfl)) λA=>?_;refine sdo (v:=bV ((((((l.getD (i+k) 0).toNat:Nat):Int)) / 64==2))) A (qb rfl rfl qe) λA=>?_;refine sda A λA=>?_;refine qa (de _ _ (wrl (sdm A λA=>?_)));refine sdo (v:=.int .i32 (rk*64)) A (qb rfl rfl (ar_shl (n:=6) rfl rfl (in_i32 (by omega) (by omega)))) λA=>?_;refine sdm A λA=>?_;refine sdo (v:=.int .u8 (((((l.getD (i+k) 0).toNat:Nat):Int))%64)) A (qb rfl rfl (ar_and (zld 6 63 rfl (by decide) (by omega) (by omega)))) λA=>?_;refine sdo (v:=.int .i32 (((((l.getD (i+k) 0).toNat:Nat):Int))%64)) A (zk rfl (ar_conv ir iz (in_i32 (by omega) (by omega)))) λA=>?_;refine sdo (v:=.int .i32 (rk*64+(((((l.getD (i+k) 0).toNat:Nat):Int))%64))) A (qb rfl rfl (ar_or (xhh (by omega) (by omega) (by omega) (by omega)))) λA=>?_;refine sda A λA=>?_;refine qa (db _ _ (wrl (sdm A λA=>?_)));refine sdo (v:=iV (((k+1:Nat):Int))) A (qb rfl rfl (ar_add ((in_i64 (by omega) (by omega)).trans (by omega)))) λA=>?_;refine sda A λA=>?_;refine qa ?_;refine cy _ _ _ (by omega) ⟨k+1,rk*64+(((((l.getD (i+k) 0).toNat:Nat):Int))%64),(((((l.getD (i+k) 0).toNat:Nat):Int)) / 64==2),rfl,jhi (by omega) hC (by omega),A.keep _ (by repeat' constructor),M⟩
     ·have ai':=fy ai;refine sdc A qy ai λA=>?_;refine sdk (v:=bV false) A λA=>?_;refine qcf bd A ?_;refine wp_exit ?_;exact bh _ _ ⟨k,rk,true,⟨hC,fun _=>by have:=qbf hC; omega⟩,A.keep _ (by repeat' constructor),M⟩
   refine wrl (sdm A λA=>?_);rcases tf (decide (0<((n:Nat):Int)))with aj|aj
   ·have aj':=f5 aj;refine sdc A jh aj λA=>?_;iterate 3 refine sdm A λA=>?_
    refine sdo (v:=iV (((i+n:Nat):Int))) A (qb rfl rfl (ar_add ((in_i64 (by omega) (by omega)).trans (by omega)))) λA=>?_;refine sdm A λA=>?_;refine sdo A (qr ib rfl) λA=>?_;rcases tf (decide (((i+n:Nat):Int)≤((l.length:Nat):Int)))with ak|ak
    ·have ak':=f5 ak;refine sdc A xi ak λA=>?_;refine sdk (v:=bV true) A λA=>?_;refine sda A λA=>?_;refine qa ?_;exact aw _ _ ⟨true,(gv (by omega)).symm,A.keep _ (by repeat' constructor),M⟩
    ·have ak':=fy ak;refine sdc A xi ak λA=>?_;refine sdk (v:=bV false) A λA=>?_;refine sda A λA=>?_;refine qa ?_;exact aw _ _ ⟨false,(gn (by omega)).symm,A.keep _ (by repeat' constructor),M⟩
   ·have aj':=fy aj;refine sdc A jh aj λA=>?_;refine sdm A λA=>?_;iterate 6 refine sks A λA=>?_
    refine sdk (v:=bV false) A λA=>?_;refine sda A λA=>?_;refine qa ?_;exact aw _ _ ⟨false,(gn (by omega)).symm,A.keep _ (by repeat' constructor),M⟩
  refine wp_block (wsr fun _ bn=>sdm A λA=>?_);rcases tf (decide ((((l.getD i 0).toNat:Nat):Int)<128))with am|am
  ·have am':=f5 am;refine sdc A qy am λA=>?_;refine sda A λA=>?_;refine qct bn A ?_;refine wrl (sdm A λA=>?_);refine sdo (v:=.int .i32 ((((l.getD i 0).toNat:Nat):Int))) A (zk rfl (ar_conv ir iz (in_i32 (by omega) (by omega)))) λA=>?_;iterate 2 refine sda A λA=>?_
   refine qa ?_;exact au _ _ ⟨1,(((l.getD i 0).toNat:Nat):Int),(by unfold LeadU; omega),A.keep _ (by repeat' constructor),M⟩
  ·have am':=fy am;refine sdc A qy am λA=>?_;refine sda A λA=>?_;refine qcf bn A ?_;refine wsr fun _ bp=>sdm A λA=>?_;refine sdo (v:=.int .u8 (((((l.getD i 0).toNat:Nat):Int)) / 32)) A (qb rfl rfl (ar_shr (n:=5) rfl rfl rfl)) λA=>?_;rcases tf ((((((l.getD i 0).toNat:Nat):Int)) / 32==6))with ap|ap
   ·have ap':=gr ap;refine sdc A qe ap λA=>?_;refine sda A λA=>?_;refine qct bp A ?_;refine wrl (sdm A λA=>?_);refine sdo (v:=.int .u8 (((((l.getD i 0).toNat:Nat):Int))%32)) A (qb rfl rfl (ar_and (zld 5 31 rfl (by decide) (by omega) (by omega)))) λA=>?_;refine sdo (v:=.int .i32 (((((l.getD i 0).toNat:Nat):Int))%32)) A (zk rfl (ar_conv ir iz (in_i32 (by omega) (by omega)))) λA=>?_;iterate 2 refine sda A λA=>?_
    refine qa ?_;exact au _ _ ⟨2,((((l.getD i 0).toNat:Nat):Int))%32,(by unfold LeadU; omega),A.keep _ (by repeat' constructor),M⟩
   ·have ap':=f6 ap;refine sdc A qe ap λA=>?_;refine sda A λA=>?_;refine qcf bp A ?_;refine wsr fun _ bq=>sdm A λA=>?_;refine sdo (v:=.int .u8 (((((l.getD i 0).toNat:Nat):Int)) / 16)) A (qb rfl rfl (ar_shr (n:=4) rfl rfl rfl)) λA=>?_;rcases tf ((((((l.getD i 0).toNat:Nat):Int)) / 16==14))with aq|aq
    ·have aq':=gr aq;refine sdc A qe aq λA=>?_;refine sda A λA=>?_;refine qct bq A ?_;refine wrl (sdm A λA=>?_);refine sdo (v:=.int .u8 (((((l.getD i 0).toNat:Nat):Int))%16)) A (qb rfl rfl (ar_and (zld 4 15 rfl (by decide) (by omega) (by omega)))) λA=>?_;refine sdo (v:=.int .i32 (((((l.getD i 0).toNat:Nat):Int))%16)) A (zk rfl (ar_conv ir iz (in_i32 (by omega) (by omega)))) λA=>?_;iterate 2 refine sda A λA=>?_
     refine qa ?_;exact au _ _ ⟨3,((((l.getD i 0).toNat:Nat):Int))%16,(by unfold LeadU; omega),A.keep _ (by repeat' constructor),M⟩
    ·have aq':=f6 aq;refine sdc A qe aq λA=>?_;refine sda A λA=>?_;refine qcf bq A ?_;refine wsr fun _ br=>sdm A λA=>?_;refine sdo (v:=.int .u8 (((((l.getD i 0).toNat:Nat):Int)) / 8)) A (qb rfl rfl (ar_shr (n:=3) rfl rfl rfl)) λA=>?_;rcases tf ((((((l.getD i 0).toNat:Nat):Int)) / 8==30))with ar|ar
     ·have ar':=gr ar;refine sdc A qe ar λA=>?_;refine sda A λA=>?_;refine qct br A ?_;refine wrl (sdm A λA=>?_);refine sdo (v:=.int .u8 (((((l.getD i 0).toNat:Nat):Int))%8)) A (qb rfl rfl (ar_and (zld 3 7 rfl (by decide) (by omega) (by omega)))) λA=>?_;refine sdo (v:=.int .i32 (((((l.getD i 0).toNat:Nat):Int))%8)) A (zk rfl (ar_conv ir iz (in_i32 (by omega) (by omega)))) λA=>?_;iterate 2 refine sda A λA=>?_
      refine qa ?_;exact au _ _ ⟨4,((((l.getD i 0).toNat:Nat):Int))%8,(by unfold LeadU; omega),A.keep _ (by repeat' constructor),M⟩
     ·have ar':=f6 ar;refine sdc A qe ar λA=>?_;refine sda A λA=>?_;refine qcf br A ?_;refine wp_skip ?_;exact au _ _ ⟨0,0,(by unfold LeadU; omega),A.keep _ (by repeat' constructor),M⟩
 ·have aa':=fy aa;refine sdc A qy aa λA=>?_;refine qcf bg A ?_;refine wp_exit (dq _ _ (wsr fun _ df=>sdm A λA=>?_));refine sda A λA=>?_;refine qr1 df hret A ?_;rw[zye (by omega),gh]at hrun;subst hrun;exact⟨_,rfl,M⟩
open Go.RowKit Go.Lib
theorem qjc{w:World}{B:Nat}{e:TypeId}{sz:Nat}{v:Value}{n:Nat}{xs:List Value}(h:w.ownsRow B e sz v n xs):∃so cap,v=.slice so n cap:=by
  rcases h.2 with⟨rfl,rfl⟩|⟨g,cap,cur,rfl,_⟩
  · exact⟨none,0,rfl⟩
  · exact⟨_,cap,rfl⟩
section
variable {P:Program} {w0 w:World} {L:List Ck} {l:List (Nat×Value)} {dst:Option Tmp} {ty:TypeId} {pos:String} {after:Array Edge} {guard:Option (Nat×Bool)} {v:Value}
theorem zyh{w':World}{s d:TypeId}{x:Operand}{u:Value}(hx:ev l x=some u)(hr:(convert s d u).run P w=.ok v w'):Does P l ⟨dst,.convert s d x,ty,pos,after,guard⟩ w v w':=fun ρ h=>by
  simp only[execOp,h x _ hx,Sem.run_bind,hr,Result.andThen_ok,Sem.run_pure]
theorem qpg(hM:Mg w0 w L)(k:Nat){e:TypeId}{sz n cap:Nat}{so:Option Addr}{xs:List Value}(hk:L[k]?=some (.row e sz (.slice so n cap) n xs))(hn:0<n):∃g,so=some ⟨g,0,none⟩:=by
  rcases(hM.has k hk).2 with⟨_,h0⟩|⟨g,cap',cur,he,_⟩
  · omega
  · cases he; exact⟨g,rfl⟩
theorem jn{t e:TypeId}{sz:Nat}(hu:P.underlying t=some (.slice e))(he:(P.info? e).map (·.size)=some sz){x i:Operand}{so:Option Addr}{g n c k:Nat}{z:Int}(hx:ev l x=some (.slice so n c))(hi:ev l i=some (.int .i64 z))(hz:z=(k:Nat))(hso:so=some ⟨g,0,none⟩)(hk:k<n):
    Does P l ⟨dst,.indexAddr t x i,ty,pos,after,guard⟩ w (.pointer (some ⟨g,k*sz,none⟩)) w:=by
  subst hso;exact qaa hu he hx hi hz hk
theorem vv(hM:Mg w0 w L)(k:Nat){e:TypeId}{sz g n c j:Nat}{so:Option Addr}{xs:List Value}(hk:L[k]?=some (.row e sz (.slice so n c) n xs))(hso:so=some ⟨g,0,none⟩)(hj:xs[j]?=some v){t:TypeId}(ht:Is1 P t){x:Operand}(hx:ev l x=some (.pointer (some ⟨g,j,none⟩))):Does P l ⟨dst,.load t x,ty,pos,after,guard⟩ w v w:=by
  subst hso;exact qog hM k hk hj ht hx
theorem jqf(hM:Mg w0 w L)(k:Nat){e:TypeId}{sz g n c o m:Nat}{so:Option Addr}{xs cs:List Value}(hk:L[k]?=some (.row e sz (.slice so n c) n xs))(hso:so=some ⟨g,0,none⟩){t:TypeId}(ht:IsS P t m)(hcs:(xs.drop o).take m=cs)(hl:cs.length=m){x:Operand}(hx:ev l x=some (.pointer (some ⟨g,o,none⟩))):Does P l ⟨dst,.load t x,ty,pos,after,guard⟩ w (.agg cs.toArray) w:=by
  subst hso;exact zoa hM k hk ht hcs hl hx
end
section
variable {P:Program} {w0 w:World} {L:List Ck} {l:List (Nat×Value)} {ops:List Oper} {Q:Exit→Act→World→Prop} {a:Act} {n:Nat} {rest:List Oper} {d:Nat} {dst:Option Tmp} {ty:TypeId} {pos:String} {after:Array Edge} {guard:Option (Nat×Bool)}
theorem xai(hA:Sl a n l)(hM:Mg w0 w L){t t':TypeId}{x:Operand}{s:ByteArray}{o:Oper}(ho:o=⟨dst,.convert t t' x,ty,pos,after,guard⟩)(ht:P.underlying t=some .string)(hd:P.underlying t'=some (.slice BY))(he:P.underlying BY=some (.int .u8))(hx:ev l x=some (.string s))(hg:zf l ops o=true)(hdst:o.dst=some d)(hdn:Nat.blt d n=true)
    (hk:∀so cap w',Rb w' so s.data.toList→Mg w0 w' L→∀a',Sl a' n ((d,.slice so s.data.toList.length cap)::l)→wpList P ops.toArray Q rest a' w'):wpList P ops.toArray Q (o::rest) a w:=by
  subst ho;have hr:=Go.Lib.run_convert_string_bytes (P:=P) w t t' BY s ht hd he;have hb:Below w.heap.size w (bytesWorld w BY s):=⟨rfl,rfl,rfl,by rw[bytesWorld_size]; omega,fun j hj=>bytesWorld_at_old w BY s j hj⟩;refine kh hA hg hdst hdn (v:=.slice (some ⟨w.heap.size,0,none⟩) s.data.toList.length (grownCap w s.size 0 BY)) (w':=bytesWorld w BY s) (zyh hx (by rw[zm]; exact hr)) (hk _ _ _ ⟨fun _=>⟨w.heap.size,0,rfl,by rw[bytesWorld_size]; omega,fun j hj=>?_⟩⟩ (hM.call hb));rw[zm]at hj;rw[Nat.zero_add];exact bytesWorld_cell w BY s j hj
end
theorem zac(u:Int×Int)(us:List (Int×Int)):xv (u::us)=(if u.2=-1 then[.int .i32 0,.bool true,.int .i64 u.1]else[.int .i32 u.2,.bool false,.int .i64 u.1])++xv us:=rfl
theorem zad: ∀(us:List (Int×Int)) (i f:Nat) (u:Int×Int),us[i]?=some u→f<3→(xv us)[i*3+f]?=(if u.2=-1 then[Value.int .i32 0,.bool true,.int .i64 u.1]else[.int .i32 u.2,.bool false,.int .i64 u.1])[f]?
  | [], i, f, u, h, hf => by simp at h
  | v :: us, 0, f, u, h, hf => by
    simp only[List.getElem?_cons_zero,Option.some.injEq]at h;subst h;rw[zac,Nat.zero_mul,Nat.zero_add,List.getElem?_append_left]
    split<;>exact hf
  | v :: us, i + 1, f, u, h, hf => by
    rw[List.getElem?_cons_succ]at h;rw[zac,List.getElem?_append_right (by split<;>(simp only[fw,fx]; omega))];have e:(i+1)*3+f-(if v.2=-1 then[Value.int .i32 0,.bool true,.int .i64 v.1]else[.int .i32 v.2,.bool false,.int .i64 v.1]).length=i*3+f:=by
      split<;>(simp only[fw,fx]; omega)
    rw[e];exact zad us i f u h hf
theorem jqg{us:List (Int×Int)}{i:Nat}(h:i<us.length):∃ua ur,us[i]?=some (ua,ur):=⟨_,_,List.getElem?_eq_getElem h⟩
theorem zae: ∀(f p:Nat) (l:List UInt8),(kl f p l).length≤l.length
  | 0, _, _ => ii _
  | f + 1, p, l => by
    by_cases hl:l=[]
    · subst hl; simp[kl]
    · rw[qtj hl,fw];have h1:=zae f (p+(decodeL l).2) (l.drop (decodeL l).2);have h2:=vt l hl;rw[il]at h1;omega
theorem jqh(l:List UInt8)(h:(decodeL l).1=65533):(decodeL l).2=1∨(decodeL l).2=3∨(decodeL l).2=0:=by
  rw[decodeL_N]at h ⊢;generalize (l.getD 0 0).toNat=b0 at h ⊢;generalize (l.getD 1 0).toNat=b1 at h ⊢;generalize (l.getD 2 0).toNat=b2 at h ⊢;generalize (l.getD 3 0).toNat=b3 at h ⊢;unfold decodeN at h ⊢;repeat' split
  all_goals (simp_all)
  all_goals omega
theorem qle: ∀(f p:Nat) (l:List UInt8),validGoD f l=(kl f p l).all (fun u=>!decide (u.2=-1))
  | 0, p, l => rfl
  | f + 1, p, l => by
    unfold validGoD kl;by_cases hl:l=[]
    · rw[gj hl,gj hl]; rfl
    · rw[f7 hl,f7 hl,List.all_cons];have hw:=vt l hl;have h3:=jqh l;by_cases hb:(decodeL l).1=65533∧(decodeL l).2=1
      · rw[gj hb];have:uR (decodeL l).1 (decodeL l).2=-1:=(by unfold uR; rw[gj ⟨hb.1,by omega⟩]);rw[this]; rfl
      · rw[f7 hb];have:¬uR (decodeL l).1 (decodeL l).2=-1:=by
          unfold uR;by_cases h9:(decodeL l).1=65533
          · rw[f7 (by have:=h3 h9; omega)]; omega
          · rw[f7 (fun e=>h9 e.1)]; omega
        rw[gn this,qle f (p+(decodeL l).2)];simp
theorem zgg(s:ByteArray):okS s=(xh s.data.toList).all (fun u=>!decide (u.2=-1)):=qle _ 0 _
theorem xaj{s:ByteArray}{i:Nat}{ua ur:Int}(h:(xh s.data.toList)[i]?=some (ua,ur))(hr:ur=-1):okS s=false:=by
  rw[zgg];apply lj.2;intro k;have:=j3.1 k _ (List.mem_of_getElem? h);simp[hr]at this
theorem jqi{s:ByteArray}(h:∀(i:Nat) (ua ur:Int),(xh s.data.toList)[i]?=some (ua,ur)→ur≠-1):okS s=true:=by
  rw[zgg,j3];intro u hu;obtain⟨i,hi⟩:=List.mem_iff_getElem?.1 hu;simp[h i u.1 u.2 hi]
end Go.Proofs.YtmnlfahgklnpeaaGreatDoor.G
