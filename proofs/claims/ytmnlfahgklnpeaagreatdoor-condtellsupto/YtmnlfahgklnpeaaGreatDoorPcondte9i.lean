/- LiM LiN KcN ChM ChA ChB ShelfD ChC ChD ChE ChF ChG ChH Fi Fx TwF TwR TwC TwD ChI ChJ Tx ShelfE Fj Ty TwG ShelfG Tz TwH Ua Bulk ArgC ArgB ArgD -/
import Derived.Test.YtmnlfahgklnpeaaGreatDoorPcondte9h
import Derived.Lib.RuneBytes
import Derived.RowKit
import Derived.WalkKit
import Derived.WalkSpells
import Derived.Deep.Light
import Derived.Shelf.Strings.Builder1
import Derived.Shelf.Small.Utf8
import Derived.Shelf.Small.Bits
import Derived.Shelf.Small.Strs
import Derived.Shelf.Small.Wraps
import Derived.Shelf.Strings.BuilderF
import Derived.Shelf.Strings.BuilderK
import Derived.Shelf.Strings.BuilderRune
import Derived.Shelf.Utf8.AppendRune
import Derived.Shelf.Utf8.AppendRunePlain
import Derived.Shelf.Strconv.Itoa0
import Derived.Shelf.Strconv.Itoa1
import Derived.Shelf.LaysM
import Derived.Shelf.Strconv.Itoa2
import Derived.Shelf.Strconv.Itoa3
import Derived.Shelf.Strconv.Clone
import Derived.Shelf.Strings.Search1
import Derived.Shelf.Strings.Prefix
import Derived.Shelf.Strings.Runes
import Derived.Lib.TrimAscii
import Derived.Laws.Runes
import Derived.Laws.Strings3
import Derived.Scope
import Derived.Shelf.RegionOpenPlain
import Derived.Lib.SlBytesConst
import Derived.Lib.ConvBytes
import Derived.Laws.IdiomStrings
import Derived.Test.YtmnlfahgklnpeaaGreatDoorOwn
import Derived.Lib.SmallJoins
import Derived.Test.YtmnlfahgklnpeaaGreatDoorRows
import Derived.ProofKit
import Derived.OpenShut
import Derived.ChangeOld
import Derived.Deep.Strs
import Derived.Deep.Slices
set_option linter.unusedVariables false
set_option linter.unusedSimpArgs false
set_option maxHeartbeats 4000000
set_option maxRecDepth 1000000
namespace Go.Proofs.YtmnlfahgklnpeaaGreatDoor.G
open Go.RowKit
theorem jrc{w:World}:Calls Tryz.prog 65 #[] w (RB w (.agg (qxc.d.cells qxc.ts.length).toArray)):=by
 have M:=Mg.start w;refine wof Tryz.func65 Tryz.ntmps65 fun Q hret hnorm hP a A=>?_;refine wsr fun _ aa=>zj (vs:=(zb.d.cells zb.ts.length)) (t:=30) A M rfl rfl rfl pg (qm (z:=.agg (zb.d.cells zb.ts.length).toArray) (by kernel_rfl) rfl) (by decide) ?_;intro g2 _ M a A;refine qa (aa _ _ (wsr fun K4 ab=>sdo (v:=.agg #[iV 1,iV 0,bV false,.slice none 0 0,.slice none 0 0,bV false,.slice none 0 0,.slice none 0 0,.string (⟨#[]⟩),.slice none 0 0,.slice none 0 0]) A (qn rfl (fun w=>by kernel_rfl)) λA=>?_));refine qt A M rfl rfl (qj rfl rfl rfl (by kernel_rfl) M 0 rfl rfl rfl) 0 rfl rfl rfl ?_;intro _ M;refine qa (ab _ _ (wp_ret (hret _ _ (en1 A rfl (zw M zv rfl 0 rfl (cs:=[iV 1,iV 0,bV false,.slice none 0 0,.slice none 0 0,bV false,.slice none 0 0,.slice none 0 0,.string (⟨#[]⟩),.slice none 0 0,.slice none 0 0]) rfl rfl) ?_))));exact⟨rfl,M.bel⟩
theorem jic{w0 w:World}{t:Dt}(h0:Below w0.heap.size w0 w)(ht:t.rd w0)(hs:vi qh t.tr=true)(hb:t.tr.bulk≤1000000000):Calls Tryz.prog 77 #[.agg (t.d.cells t.ts.length).toArray] w fun e w'=>∃so' ca' ys,∃q:Dt,e=.returned (.tuple #[.slice so' (ys:List Dt).length ca',.agg (q.d.cells q.ts.length).toArray])∧(t.tr=zy (ys.map Dt.tr) q.tr∧q.d.k≠8∧vi qh q.tr=true∧(∀x∈ys,x.rd w0)∧q.rd w0∧ys.length≤t.tr.bulk)∧Mg w w' [.row 30 11 (.slice so' ys.length ca') ys.length (cellsOf ys)]:=by
 have M:=Mg.start w;refine wof Tryz.func77 Tryz.ntmps77 fun Q hret hnorm hP a A=>?_;refine wsr fun _ ak=>zj (vs:=(t.d.cells t.ts.length)) (t:=30) A M rfl rfl rfl pg (qx rfl rfl) (by decide) ?_;intro g2 _ M a A;refine sda A λA=>?_;refine zj (vs:=(zb.d.cells zb.ts.length)) (t:=30) A M rfl rfl rfl pg (qm (z:=.agg (zb.d.cells zb.ts.length).toArray) (by kernel_rfl) rfl) (by decide) ?_;intro g4 _ M a A;refine qa (ak _ _ (wsr fun _ am=>jr (e:=30) (sz:=11) (m:=0) (vs:=cellsOf []) A M rfl rfl rfl (qg rfl (by kernel_rfl)) rfl rfl (.inl (by decide)) ?_));intro g7 _ M a A;refine sda A λA=>?_;refine qa (am _ _ (wsk fun _ ap=>wp_block (zg (fun m_ a w1=>∃(p:Dt) (xs:List Dt) (so_:Option Addr) (ca_:Nat),m_=1+p.tr.bulk∧(p.rd w0∧vi qh p.tr=true∧(∀x∈xs,x.rd w0)∧t.tr=zy (xs.map Dt.tr) p.tr∧xs.length+p.tr.bulk≤t.tr.bulk)∧Sl a 22 [(0,.agg (t.d.cells t.ts.length).toArray),(1,pA g2 0),(2,.slice none 0 0),(3,pA g4 0),(4,.slice so_ xs.length ca_),(5,.slice (aO g7) 0 0)]∧Mg w w1 (.row 30 11 (.slice so_ xs.length ca_) xs.length (cellsOf xs)::.obj g4 (.cells (zb.d.cells zb.ts.length).toArray 30)::.obj g2 (.cells (p.d.cells p.ts.length).toArray 30)::[])) _ ⟨t,[],some ⟨g7,0,none⟩,0,rfl,⟨ht,hs,(fun x h=>by cases h),rfl,(by show 0+t.tr.bulk≤t.tr.bulk; omega)⟩,A.keep _ (by repeat' constructor),M⟩ ?_)));clear M A;rintro m_ a _ ⟨p,xs,so_,ca_,rfl,ab,A,M⟩ _ ag;obtain⟨hp,hps,hxs,htl,hbx⟩:=ab;refine wsk fun _ ah=>wsr fun _ ac=>sdf A 0 xk λA=>?_;refine sdl A M o93 2 λA=>?_;rcases tf ((p.d.k==8))with aa|aa
 ·have aa':=gr aa;refine sdc A qe aa λA=>?_;refine qct ac A ?_;refine wp_skip (ah _ _ (wp_block (wsk fun _ ai=>?_)));have l2p:=(zjc hps aa').1;have hbp:=zpd p;obtain⟨p0,bp0,op0,ip0,mp0,rp0_,lp0,Hp0⟩:=qeh hp (i:=0) (by omega);obtain⟨p1,bp1,op1,ip1,mp1,rp1_,lp1,Hp1⟩:=qeh hp (i:=1) (by omega);replace Hp0:=Hp0.below h0;replace Hp1:=Hp1.below h0;refine wrl (sdm A λA=>?_);refine sdf A 10 jz λA=>?_;refine sdl A M ke 2 λA=>?_;refine sdo (v:=pA bp0 (op0+0*11)) A (qk (k:=0) f9 (by kernel_rfl) rfl rfl rfl lp0 (by omega)) λA=>?_;refine sdo A (zp M Hp0 zv rfl rfl) λA=>?_;refine jr (e:=30) (sz:=11) (m:=1) (vs:=cellsOf [p0]) A M rfl rfl rfl (qg rfl (by kernel_rfl)) rfl rfl (.inl (by decide)) ?_;intro g17 _ M a A;refine xd (e:=30) (sz:=11) (k:=1) (q:=xs.length) (m:=1) (xs:=cellsOf xs) (news:=cellsOf [p0]) A rfl rfl rfl (yf (z:=.agg #[iV 0,iV 0,bV false,.slice none 0 0,.slice none 0 0,bV false,.slice none 0 0,.slice none 0 0,.string ⟨#[]⟩,.slice none 0 0,.slice none 0 0]) (sz:=11) (by_:=192) f9 (by kernel_rfl) rfl rfl rfl M 1 rfl rfl rfl rfl (vm (M.has 0 rfl)) (qgj [p0]) (by omega)) (fun _=>rfl) ?_;intro aq ar M a A;replace M:Mg w ar (.row 30 11 (.slice (aO g17) 1 1) 1 (cellsOf [p0])::.row 30 11 (aq) ((xs++[p0]).length) (cellsOf (xs++[p0]))::.obj g4 (.cells (zb.d.cells zb.ts.length).toArray 30)::.obj g2 (.cells (p.d.cells p.ts.length).toArray 30)::[]):=by
   rw[yx,fv]; exact M
  obtain⟨ae,af,rfl⟩:=xu (M.has 1 rfl);refine sda A λA=>?_;refine qa (ai _ _ (wrl (sdf A 10 jz λA=>?_)));refine sdl A M ke 3 λA=>?_;refine sdo (v:=pA bp1 (op1+1*11)) A (qk (k:=1) f9 (by kernel_rfl) rfl rfl rfl lp1 (by omega)) λA=>?_;refine sdo A (zp M Hp1 zv rfl rfl) λA=>?_;refine qt A M rfl rfl (qj rfl rfl rfl (by kernel_rfl) M 3 rfl rfl rfl) 3 rfl rfl rfl ?_;intro au M;refine qa ?_;replace M:Mg w au (.row 30 11 (.slice ae ((xs++[p0]).length) af) ((xs++[p0]).length) (cellsOf (xs++[p0]))::.obj g4 (.cells (zb.d.cells zb.ts.length).toArray 30)::.obj g2 (.cells (p1.d.cells p1.ts.length).toArray 30)::[]):=by
   have h9:=M.sub (cN (cC (cC (cC (.refl _)))));exact h9
  refine ag _ _ _ (by have:=qhi mp1; omega) ⟨p1,xs++[p0],ae,af,rfl,⟨rp1_,(qxh hps).2 _ mp1,zpc hxs rp0_,zej htl hps aa' ip0 ip1,by have:=qhi mp1; rw[fv]; simp only[fw,fx]; omega⟩,A.keep _ (by repeat' constructor),M⟩
 ·have aa':=f6 aa;refine sdc A qe aa λA=>?_;refine qcf ac A ?_;refine wp_exit (ap _ _ (wsk fun _ aj=>xg (S:=fun w1=>Mg w w1 (.obj g2 (.cells (p.d.cells p.ts.length).toArray 30)::[])) (by kernel_rfl) ?_));replace M:=M.drew;refine atk A 0 rfl hP (M.sub (cN (cN (cC ns)))) (λ_ M=>zr rfl) λA=>?_;refine atk A 1 rfl hP (M.sub (cN (cN (cC ns)))) (λ_ M=>qz M zv rfl 0 rfl (cs:=(p.d.cells p.ts.length)) rfl rfl) λA=>?_;refine atk A 2 rfl hP (M.sub (cN (cN (cC ns)))) (λ_ M=>ji rfl) λA=>?_;refine zn (by kernel_rfl) (qoe A M 3 rfl rfl rfl (qj rfl rfl rfl (by kernel_rfl) M 1 rfl rfl rfl) 1 rfl rfl rfl ?_);intro av M;refine⟨(M.sub (cN (cN (cC ns)))),?_⟩;refine jl (by kernel_rfl) ?_;refine aj _ _ (wp_ret (hret _ _ (en2 A rfl (qf rfl) (zw M zv rfl 1 rfl (cs:=[iV p.d.k,iV p.d.n,bV p.d.y.q.b1,.slice p.d.y.o1 p.d.y.q.t1.length p.d.y.c1,.slice p.d.y.o2 p.d.y.q.q1.length p.d.y.c2,bV p.d.y.q.b2,.slice p.d.y.o3 p.d.y.q.t2.length p.d.y.c3,.slice p.d.y.o4 p.d.y.q.q2.length p.d.y.c4,.string p.d.s,.slice p.d.ro p.d.rl.length p.d.rc,.slice p.d.lo p.ts.length p.d.lc]) rfl rfl) ?_)));replace M:Mg w av (.row 30 11 (.slice so_ xs.length ca_) xs.length (cellsOf xs)::[]):=by
   have h9:=M.sub (cC (cN (cN (.refl _))));exact h9
  exact⟨_,_,xs,p,rfl,⟨htl,aa',hps,hxs,hp,by omega⟩,M⟩
theorem jid{w0 w:World}{t:Dt}(h0:Below w0.heap.size w0 w)(ht:t.rd w0)(hb:t.tr.bulk≤4000000):Calls Tryz.prog 44 #[.agg (t.d.cells t.ts.length).toArray] w fun e w'=>(∃so' ca' ys,e=.returned (.tuple #[.slice so' (ys:List Dt).length ca',iV 0])∧(qs qh t.tr=true∧js t.tr=some (ys.map Dt.tr)∧(∀x∈ys,x.rd w0)∧ys.length≤t.tr.bulk)∧Mg w w' [.row 30 11 (.slice so' ys.length ca') ys.length (cellsOf ys)])∨(e=.returned (.tuple #[.slice none 0 0,iV 10])∧(qs qh t.tr=true∧js t.tr=none)∧Below w.heap.size w w')∨(e=.returned (.tuple #[.slice none 0 0,iV 2])∧qs qh t.tr=false∧Below w.heap.size w w'):=by
 have M:=Mg.start w;refine wof Tryz.func44 Tryz.ntmps44 fun Q hret hnorm hP a A=>?_;refine wsr fun _ aj=>zj (vs:=(t.d.cells t.ts.length)) (t:=30) A M rfl rfl rfl pg (qx rfl rfl) (by decide) ?_;intro g2 _ M a A;iterate 2 refine sda A λA=>?_
 refine qa (aj _ _ (wsk fun K4 ak=>wsr fun _ ai=>sdo A (qz M zv rfl 0 rfl (cs:=(t.d.cells t.ts.length)) rfl rfl) λA=>?_));rcases tf (qs qh t.tr)with ab|ab
 ·refine gcl A M ec ((ab▸rsound_any (t:=t) (Dt.keep M.bel _ (Dt.keep h0 _ ht)) (by omega))) fun _ _ M a A=>?_;refine sdu A λA=>?_;refine qcf ai A ?_;refine wp_skip (ak _ _ (wsr fun _ am=>sdo A (qz M zv rfl 0 rfl (cs:=(t.d.cells t.ts.length)) rfl rfl) λA=>?_));refine sct A ec (jic (h0.trans (M.bel.mono h0.size)) ht (qkc ab) (by omega)) ?_;rintro _ _ ⟨ap,aq,ys,q,rfl,⟨hy1,ar,hqs,hy2,hqr,hy3⟩,au⟩;replace M:=(M.both au (qi (by simp) (za zd)) (qi (by simp) (za zd)));refine⟨_,rfl,?_⟩;intro a A;refine sdm A λA=>?_;iterate 2 refine sde A λA=>?_
  refine zj (vs:=(zb.d.cells zb.ts.length)) (t:=30) A M rfl rfl rfl pg (qm (z:=.agg (zb.d.cells zb.ts.length).toArray) (by kernel_rfl) rfl) (by decide) ?_;intro g11 _ M a A;refine sda A λA=>?_;refine qt A M rfl rfl (qj rfl rfl rfl (by kernel_rfl) M 0 rfl rfl rfl) 0 rfl rfl rfl ?_;intro av M;refine qa (am _ _ (wsk fun _ ae=>wsr fun _ ac=>sdf A 0 xk λA=>?_));refine sdl A M o93 0 λA=>?_;rcases tf ((q.d.k != 1))with aa|aa
  ·have aa':=iy.1 aa;refine sdc A zh aa λA=>?_;refine qct ac A ?_;refine wsr fun _ af=>?_;iterate 2 refine sda A λA=>?_
   refine qa (af _ _ (wp_ret (hret _ _ (en2 A rfl (qf rfl) (qf rfl) ?_))));exact .inr (.inl ⟨rfl,⟨ab,qxj hy1 ar aa'⟩,M.bel⟩)
  ·have aa':=ie.1 aa;refine sdc A zh aa λA=>?_;refine qcf ac A ?_;refine wp_skip (ae _ _ (wsr fun _ ag=>sdm A λA=>?_));iterate 2 refine sda A λA=>?_
   refine qa (ag _ _ (wp_ret (hret _ _ (en2 A rfl (qf rfl) (qf rfl) ?_))));replace M:Mg w av (.row 30 11 (.slice ap ys.length aq) ys.length (cellsOf ys)::[]):=by
    have h9:=M.sub (cN (cC (cN (.refl _))));exact h9
   exact .inl ⟨_,_,ys,rfl,⟨ab,qxi hy1 hqs aa',hy2,hy3⟩,M⟩
 ·refine gcl A M ec ((ab▸rsound_any (t:=t) (Dt.keep M.bel _ (Dt.keep h0 _ ht)) (by omega))) fun _ _ M a A=>?_;refine sdu A λA=>?_;refine qct ai A ?_;refine wsr fun _ ah=>?_;iterate 2 refine sda A λA=>?_
  refine qa (ah _ _ (wp_ret (hret _ _ (en2 A rfl (qf rfl) (qf rfl) ?_))));exact .inr (.inr ⟨rfl,ab,M.bel⟩)
theorem xbe{ts:List Dt}{k:Nat}{t:Dt}(h:ts[k-1]?=some t)(hk:0<k):(ts.drop (k-1)).map Dt.tr=t.tr::(ts.drop k).map Dt.tr:=by
 obtain⟨hl,rfl⟩:=List.getElem?_eq_some_iff.1 h;rw[List.drop_eq_getElem_cons hl,show k-1+1=k by omega,i6]
theorem jie{w:World}{so:Option Addr}{ca:Nat}{ts:List Dt}(hR:Rt w so ts)(hD:∀t∈ts,t.rd w){u:Dt}(hu:u.rd w)(hl:ts.length≤1000000000)(P:Nat→Prop)(hPn:∀b,w.heap.size≤b→P b)(hPt:∀t∈ts,t.at_ P)(hPu:u.at_ P):Calls Tryz.prog 64 #[.slice so ts.length ca,.agg (u.d.cells u.ts.length).toArray] w fun e w'=>∃t2:Dt,e=.returned (.agg (t2.d.cells t2.ts.length).toArray)∧(t2.rd w'∧t2.at_ P∧t2.tr=zy (ts.map Dt.tr) u.tr)∧Below w.heap.size w w':=by
 have M:=Mg.start w;refine wof Tryz.func64 Tryz.ntmps64 fun Q hret hnorm hP a A=>?_;refine wsr fun _ aj=>zj (vs:=(u.d.cells u.ts.length)) (t:=30) A M rfl rfl rfl pg (qx rfl rfl) (by decide) ?_;intro g2 _ M a A;refine zj (vs:=(zb.d.cells zb.ts.length)) (t:=30) A M rfl rfl rfl pg (qm (z:=.agg (zb.d.cells zb.ts.length).toArray) (by kernel_rfl) rfl) (by decide) ?_;intro g4 _ M a A;refine qwk aj fun _ ak=>wsr fun _ am=>sdm A λA=>?_;refine sdo A (qr f9 rfl) λA=>?_;refine sdo (v:=iV (((ts.length:Nat):Int)-1)) A (qb rfl rfl (ar_sub (in_i64 (by omega) (by omega)))) λA=>?_;refine sda A λA=>?_;refine qa (am _ _ (wp_block ?_));have _:=(Ck.lt (M.has 1 rfl) g2 rfl).1;have _:=(Ck.lt (M.has 0 rfl) g4 rfl).1;refine zg (fun m_ a w1=>∃(k:Nat) (z:Dt),m_=1+k∧(k≤ts.length∧z.rd w1∧z.at_ (fun b=>b≠g2∧b≠g4)∧z.at_ P∧z.tr=zy ((ts.drop k).map Dt.tr) u.tr)∧Sl a 21 [(0,.slice so ts.length ca),(1,.agg (u.d.cells u.ts.length).toArray),(3,pA g2 0),(4,pA g4 0),(5,iV (((k:Nat):Int)-1)),(6,.slice so ts.length ca),(7,iV (((ts.length:Nat):Int))),(8,iV (((ts.length:Nat):Int)-1))]∧Mg w w1 (.obj g4 (.cells (zb.d.cells zb.ts.length).toArray 30)::.obj g2 (.cells (z.d.cells z.ts.length).toArray 30)::[])) _ ⟨ts.length,u,rfl,⟨gm _,Dt.keep M.bel _ hu,Dt.at_mono (fun b hb=>by constructor<;>omega) _ (Dt.at_lt _ hu),hPu,by rw[List.drop_length]; rfl⟩,A.keep _ (by repeat' constructor),M⟩ ?_;clear M A;rintro m_ a w8 ⟨k,z,rfl,ab,A,M⟩ _ ap;obtain⟨_,hzr,hza,hzp,hzt⟩:=ab;refine wsk fun _ ae=>wsr fun _ ac=>sdm A λA=>?_;rcases tf (decide (0≤((k:Nat):Int)-1))with aa|aa
 ·have aa':=f5 aa;refine sdc A zt aa λA=>?_;refine qct ac A ?_;refine wp_skip (ae _ _ (wsk fun _ af=>wp_block ?_));obtain⟨t1,bt1,ot1,it1,mt1,rt1_,lt1,Ht1⟩:=que hR hD (i:=(k-1)) (by omega);have _:=(Ck.lt (M.has 1 rfl) g2 rfl).2;have _:=(Ck.lt (M.has 0 rfl) g4 rfl).2;refine xg (S:=fun w1=>Mg w w1 ([])) (by kernel_rfl) ?_;replace M:=M.drew;refine atk A 0 rfl hP (M.sub (cN (cN ns))) (λ_ M=>zr rfl) λA=>?_;refine atk A 1 rfl hP (M.sub (cN (cN ns))) (λ_ M=>zr rfl) λA=>?_;refine atk (v:=pA bt1 (ot1+(k-1)*11)) A 2 rfl hP (M.sub (cN (cN ns))) (λ_ M=>qk (k:=(k-1)) f9 (by kernel_rfl) rfl rfl (by omega) lt1 (by omega)) λA=>?_;refine atk A 3 rfl hP (M.sub (cN (cN ns))) (λ_ M=>zp M Ht1 zv rfl rfl) λA=>?_;refine zn (by kernel_rfl) (zea A 4 rfl rfl rfl rfl (qz M zv rfl 1 rfl (cs:=(z.d.cells z.ts.length)) rfl rfl) (M.sub (cN (cN ns))) ?_);intro a A;replace hzr:z.rd w8.drew:=Dt.keep (Below.refl _ w8).drew _ hzr;have hdw:w8.drew.heap.size=w8.heap.size:=rfl;refine zn (by kernel_rfl) (xfe (e:=30) (sz:=11) (m:=2) (vs:=cellsOf [t1,z]) A M 5 rfl rfl rfl rfl (qg rfl (by kernel_rfl)) rfl rfl (by decide) ?_);intro g5 _ M hg5 aq;replace hzr:=Dt.keep aq _ hzr;refine⟨(M.sub (cN (cN (cN ns)))),?_⟩;intro a A;refine atk (v:=.agg ((yk g5 t1 z).d.cells (yk g5 t1 z).ts.length).toArray) A 6 rfl hP (M.sub (cN (cN (cN ns)))) (λ_ M=>qn rfl (fun w=>by kernel_rfl)) λA=>?_;refine zn (by kernel_rfl) (qxb A M 7 rfl rfl rfl (qj (cs:=(yk g5 t1 z).d.cells (yk g5 t1 z).ts.length) rfl rfl rfl (by kernel_rfl) M 2 rfl rfl (qej (yk g5 t1 z))) 2 rfl rfl rfl ?_);intro w16 M ag;replace hzr:=Dt.kept ag _ hzr (Dt.at_mono (fun b hb=>hb.1) _ hza);have hr9:(yk g5 t1 z).rd w16:=zpg (Ck.lt (M.has 0 rfl) g5 rfl).2 (fun p v hp=>by
   obtain⟨b,o,e,hc⟩:=vm (M.has 0 rfl) (fun e=>by cases e);cases e
   have:=hc p v hp
   rwa [Nat.zero_add]at this) (Dt.keep M.bel _ rt1_) hzr
  have ha9:(yk g5 t1 z).at_ (fun b=>b≠g2∧b≠g4):=qya ⟨by omega,by omega⟩ (Dt.at_mono (fun b hb=>by constructor<;>omega) _ (Dt.at_lt _ rt1_)) hza;have hp9:(yk g5 t1 z).at_ P:=qya (hPn _ (by omega)) (hPt t1 mt1) hzp;refine⟨(M.sub (cN (cN (cN ns)))),?_⟩;refine jl (by kernel_rfl) ?_;refine af _ _ (wrl (sdm A λA=>?_));refine sdo (v:=iV (((k-1:Nat):Int)-1)) A (qb rfl rfl (ar_sub ((in_i64 (by omega) (by omega)).trans (by omega)))) λA=>?_;refine sda A λA=>?_;refine qa ?_;replace M:Mg w w16 (.obj g4 (.cells (zb.d.cells zb.ts.length).toArray 30)::.obj g2 (.cells ((yk g5 t1 z).d.cells (yk g5 t1 z).ts.length).toArray 30)::[]):=by
   have h9:=M.sub (cN (cC (cC (.refl _))));exact h9
  refine ap _ _ _ (by omega) ⟨k-1,(yk g5 t1 z),rfl,⟨by omega,hr9,ha9,hp9,by rw[zpf,hzt,xbe it1 (by omega)]; rfl⟩,A.keep _ (by repeat' constructor),M⟩
 ·have aa':=fy aa;refine sdc A zt aa λA=>?_;refine qcf ac A ?_;refine wp_exit (ak _ _ (wsr fun _ ah=>sdo A (qz M zv rfl 1 rfl (cs:=(z.d.cells z.ts.length)) rfl rfl) λA=>?_));refine ky A M rfl rfl (qj rfl rfl rfl (by kernel_rfl) M 0 rfl rfl rfl) 0 rfl rfl rfl ?_;intro _ M ai;replace hzr:=Dt.kept ai _ hzr (Dt.at_mono (fun b hb=>hb.2) _ hza);refine qa (ah _ _ (wp_ret (hret _ _ (en1 A rfl (zw M zv rfl 0 rfl (cs:=[iV z.d.k,iV z.d.n,bV z.d.y.q.b1,.slice z.d.y.o1 z.d.y.q.t1.length z.d.y.c1,.slice z.d.y.o2 z.d.y.q.q1.length z.d.y.c2,bV z.d.y.q.b2,.slice z.d.y.o3 z.d.y.q.t2.length z.d.y.c3,.slice z.d.y.o4 z.d.y.q.q2.length z.d.y.c4,.string z.d.s,.slice z.d.ro z.d.rl.length z.d.rc,.slice z.d.lo z.ts.length z.d.lc]) rfl rfl) ?_))));obtain rfl:k=0:=by omega
  exact⟨z,rfl,⟨hzr,hzp,hzt⟩,M.bel⟩
theorem rof_any{w:World}{so:Option Addr}{ca:Nat}{ts:List Dt}(hR:Rt w so ts)(hD:∀t∈ts,t.rd w)(hb:Tr.bulks (ts.map Dt.tr)≤1100000):Calls Tryz.prog 30 #[.slice so ts.length ca] w fun e w'=>∃t2:Dt,e=.returned (.agg (t2.d.cells t2.ts.length).toArray)∧(t2.rd w'∧t2.tr=ofS (ts.map Dt.tr))∧Below w.heap.size w w':=by
 have hbl:=yj ts;have hnb:qxc.tr.bulk=1:=by rw[qkb]; rfl
 have M:=Mg.start w;refine wof Tryz.func30 Tryz.ntmps30 fun Q hret hnorm hP a A=>?_;refine wsr fun _ ap=>zj (vs:=(zb.d.cells zb.ts.length)) (t:=30) A M rfl rfl rfl pg (qm (z:=.agg (zb.d.cells zb.ts.length).toArray) (by kernel_rfl) rfl) (by decide) ?_;intro g2 _ M a A;refine qwr ap fun K4 aq=>sdm A λA=>?_;refine gcl A M ec (jrc) fun w6 _ M a A=>?_;obtain⟨_,_⟩:=Ck.lt (M.has 0 rfl) g2 rfl;refine sct A ec (jie (hR.below M.bel) (fun t ht=>Dt.keep M.bel _ (hD t ht)) (jci _) (by omega) (fun b=>b<w.heap.size∨w6.heap.size≤b) (fun b hb=>.inr hb) (fun t ht=>Dt.at_mono (fun b hb=>.inl hb) _ (Dt.at_lt _ (hD t ht))) (jwi _)) ?_;rintro _ _ ⟨t3,rfl,⟨hrt3,hat3,htt3⟩,ar⟩;replace M:=M.call ar;refine⟨_,rfl,?_⟩;intro a A;refine zjb (vs:=(zb.d.cells zb.ts.length)) (t:=30) A M rfl rfl rfl pg (qm (z:=.agg (zb.d.cells zb.ts.length).toArray) (by kernel_rfl) rfl) (by decide) ?_;intro g11 _ M hg13 af a A;have hnt3g11:=Dt.at_mono (q:=(· ≠ g11)) (fun b hb=>by intro e; omega) _ (Dt.at_lt _ hrt3);replace hrt3:=Dt.keep af _ hrt3;refine ky A M rfl rfl (qj rfl rfl rfl (by kernel_rfl) M 0 rfl rfl rfl) 0 rfl rfl rfl ?_;intro _ M ag;replace hrt3:=Dt.kept ag _ hrt3 hnt3g11;refine qa (aq _ _ (wsk fun _ ah=>wsr fun _ ab=>sdo A (qz M zv rfl 0 rfl (cs:=(t3.d.cells t3.ts.length)) rfl rfl) λA=>?_));rcases tf (qs qh t3.tr)with aa|aa
 ·refine sct A ec ((aa▸rsound_any (t:=t3) hrt3 (by rw[htt3,qca,gy]; omega))) ?_;rintro _ _ ⟨rfl,ac⟩;replace hrt3:=Dt.keep ac _ hrt3;replace M:=M.call ac;refine⟨_,rfl,?_⟩;intro a A;refine sdu A λA=>?_;refine qcf ab A ?_;refine wp_skip (ah _ _ (wsr fun _ ai=>sdo A (qz M zv rfl 0 rfl (cs:=(t3.d.cells t3.ts.length)) rfl rfl) λA=>?_));refine ky A M rfl rfl (qj rfl rfl rfl (by kernel_rfl) M 1 rfl rfl rfl) 1 rfl rfl rfl ?_;intro _ M aj;replace hrt3:=Dt.kept aj _ hrt3 (Dt.at_mono (fun b hb=>by rintro rfl; omega) _ hat3);refine qa (ai _ _ (wp_ret (hret _ _ (en1 A rfl (zw M zv rfl 1 rfl (cs:=[iV t3.d.k,iV t3.d.n,bV t3.d.y.q.b1,.slice t3.d.y.o1 t3.d.y.q.t1.length t3.d.y.c1,.slice t3.d.y.o2 t3.d.y.q.q1.length t3.d.y.c2,bV t3.d.y.q.b2,.slice t3.d.y.o3 t3.d.y.q.t2.length t3.d.y.c3,.slice t3.d.y.o4 t3.d.y.q.q2.length t3.d.y.c4,.string t3.d.s,.slice t3.d.ro t3.d.rl.length t3.d.rc,.slice t3.d.lo t3.ts.length t3.d.lc]) rfl rfl) ?_))));exact⟨t3,rfl,⟨hrt3,by unfold ofS; rw[htt3,qkb]at aa; rw[qpc aa,htt3,qkb]⟩,M.bel⟩
 ·refine sct A ec ((aa▸rsound_any (t:=t3) hrt3 (by rw[htt3,qca,gy]; omega))) ?_;rintro _ _ ⟨rfl,ae⟩;replace hrt3:=Dt.keep ae _ hrt3;replace M:=M.call ae;refine⟨_,rfl,?_⟩;intro a A;refine sdu A λA=>?_;refine qct ab A ?_;refine wsr fun _ ak=>sdo (v:=.agg (zb.d.cells zb.ts.length).toArray) A (qn rfl (fun w=>by kernel_rfl)) λA=>?_;refine ky A M rfl rfl (qj rfl rfl rfl (by kernel_rfl) M 1 rfl rfl rfl) 1 rfl rfl rfl ?_;intro _ M am;replace hrt3:=Dt.kept am _ hrt3 (Dt.at_mono (fun b hb=>by rintro rfl; omega) _ hat3);refine qa (ak _ _ (wp_ret (hret _ _ (en1 A rfl (zw M zv rfl 1 rfl (cs:=zD) rfl rfl) ?_))));exact⟨zb,rfl,⟨qxe _,by unfold ofS; rw[htt3,qkb]at aa; rw[zkf aa,qxd]⟩,M.bel⟩
theorem jrd{x:Tr}(hs:qh x=true):qfe x (zfj 2).tr=isF x:=by
 cases x with
 | mk k n q s rl ts =>
  have e:(zfj 2).tr=.mk 2 0 Q6.zero ⟨#[]⟩ [] []:=by unfold zfj; rw[Dt.tr_mk]; rfl
  rw[e];apply Bool.eq_iff_iff.2;rw[zrd];show _↔(decide (k=2)&&decide (n=0))=true;rw[ig,decide_eq_true_iff,decide_eq_true_iff];constructor
  ·rintro⟨h1,h2,-⟩; exact⟨h1,h2⟩
  ·rintro⟨rfl,rfl⟩;have h:jm 2 0 q s rl.length ts.length=true:=hs;unfold jm kg ye at h;rw[f7 (by decide),gj rfl]at h;simp only[ig,decide_eq_true_iff,Bool.not_eq_true']at h;obtain⟨-,-,⟨a1,a2,a3⟩,⟨a4,a5,a6⟩,a7,a8,a9⟩:=h;obtain⟨b1,t1,q1,b2,t2,q2⟩:=q;simp only at a1 a2 a3 a4 a5 a6;obtain rfl:=ia.1 a2;obtain rfl:=ia.1 a3;obtain rfl:=ia.1 a5;obtain rfl:=ia.1 a6;obtain rfl:=ia.1 a8;obtain rfl:=ia.1 a9;subst a1 a4 a7;exact⟨rfl,rfl,rfl,rfl,rfl,rfl,rfl⟩
theorem zaj{w:World}{t:Dt}(ht:t.rd w)(hs:qs qh t.tr=true):Calls Tryz.prog 17 #[.agg (t.d.cells t.ts.length).toArray,.agg #[iV 2,iV 0,bV false,.slice none 0 0,.slice none 0 0,bV false,.slice none 0 0,.slice none 0 0,.string (⟨#[]⟩),.slice none 0 0,.slice none 0 0]] w (RB w (bV (isF t.tr))):=by
 have:=qnc (t.tr.bulk+1) (t:=t) (u:=zfj 2) (Nat.lt_succ_self _) ht (jnj w _ (iw ..));rw[jrd (qxh (qkc hs)).1]at this;exact this
theorem jre{w:World}{t:Dt}(ht:t.rd w)(hb:t.tr.bulk≤4000000):Calls Tryz.prog 44 #[.agg (t.d.cells t.ts.length).toArray] w fun e w'=>∃so' ca' ys k,e=.returned (.tuple #[.slice so' (ys:List Dt).length ca',iV k])∧((ys.map Dt.tr,k)=qfc t.tr∧Rt w' so' ys∧(∀x∈ys,x.rd w'))∧Below w.heap.size w w':=by
 refine(jid (Below.refl _ w) ht hb).mono ?_;rintro e w' (⟨so',ca',ys,rfl,h2,M⟩|⟨rfl,h2,hb⟩|⟨rfl,h2,hb⟩)
 ·exact⟨so',ca',ys,0,rfl,⟨(qhb h2.1 h2.2.1).symm,(kv (M.has 0 rfl)).1,fun x hx=>Dt.keep M.bel _ (h2.2.2.1 x hx)⟩,M.bel⟩
 ·exact⟨none,0,[],10,rfl,⟨(qmf h2.1 h2.2).symm,fun h=>absurd rfl h,fun x h=>by cases h⟩,hb⟩
 ·exact⟨none,0,[],2,rfl,⟨(qrb h2).symm,fun h=>absurd rfl h,fun x h=>by cases h⟩,hb⟩
theorem zyi{w:World}{da dm:Dt}(hrda:da.rd w)(hrdm:dm.rd w){so2:Option Addr}{ca2:Nat}{is:List Dt}(hRi:Rt w so2 is)(hDi:∀t∈is,t.rd w)(hba:da.tr.bulk≤1048576)(hbm:dm.tr.bulk≤1048576)(hbi:Tr.bulks (is.map Dt.tr)≤1048576){v:Bool}:Calls Tryz.prog 6 #[.agg (da.d.cells da.ts.length).toArray,.agg (dm.d.cells dm.ts.length).toArray,.slice so2 is.length ca2,bV v] w fun e w'=>∃(so':Option Addr) (ca':Nat) (cs:List Sp) (ev:Int),e=.returned (.tuple #[.slice so' cs.length ca',iV ev])∧((cs.map Sp.k,ev)=erS da.tr dm.tr (is.map Dt.tr) v∧PR w' so' cs)∧Below w.heap.size w w':=by
 have M:=Mg.start w;refine wof Tryz.func6 Tryz.ntmps6 fun Q hret hnorm hP a A=>?_;refine wsr fun _ bq=>zj (vs:=(da.d.cells da.ts.length)) (t:=30) A M rfl rfl rfl pg (qx rfl rfl) (by decide) ?_;intro g2 _ M a A;refine zj (vs:=(dm.d.cells dm.ts.length)) (t:=30) A M rfl rfl rfl pg (qx rfl rfl) (by decide) ?_;intro g4 _ M a A;iterate 2 refine sda A λA=>?_
 refine qwr bq fun _ br=>sdm A λA=>?_;refine sct A ec (rof_any (hRi.below M.bel) (fun t ht=>Dt.keep M.bel _ (hDi t ht)) (by omega)) ?_;rintro _ w8 ⟨dl,rfl,⟨hrdl,htl⟩,bw⟩;have hdb:=jdj (is.map Dt.tr);rw[←htl]at hdb;replace M:=M.call bw;refine⟨_,rfl,?_⟩;intro a A;have hB1:=M.bel;replace hRi:=hRi.below M.bel;replace hDi:=fun t ht=>Dt.keep M.bel _ (hDi t ht);replace hrda:=Dt.keep M.bel _ hrda;replace hrdm:=Dt.keep M.bel _ hrdm;have hHg4:=M.here 0 (cs:=(dm.d.cells dm.ts.length)) rfl;have hHg2:=M.here 1 (cs:=(da.d.cells da.ts.length)) rfl;replace M:=Mg.start w8;refine zj (vs:=(zb.d.cells zb.ts.length)) (t:=30) A M rfl rfl rfl pg (qm (z:=.agg (zb.d.cells zb.ts.length).toArray) (by kernel_rfl) rfl) (by decide) ?_;intro g9 _ M a A;refine qt A M rfl rfl (qj rfl rfl rfl (by kernel_rfl) M 0 rfl rfl rfl) 0 rfl rfl rfl ?_;intro _ M;refine qa (br _ _ (wsk fun _ ak=>wsr fun _ af=>sdo A (zp M hHg2 zv rfl rfl) λA=>?_));rcases tf (qs qh da.tr)with aa|aa
 ·refine gcl A M ec ((aa▸rsound_any (t:=da) (Dt.keep M.bel _ hrda) (by omega))) fun _ _ M a A=>?_;refine sdu A λA=>?_;refine sdm A λA=>?_;refine sdo A (zp M hHg4 zv rfl rfl) λA=>?_;rcases tf (qs qh dm.tr)with ab|ab
  ·refine gcl A M ec ((ab▸rsound_any (t:=dm) (Dt.keep M.bel _ hrdm) (by omega))) fun _ _ M a A=>?_;refine sdu A λA=>?_;refine sdk (v:=bV false) A λA=>?_;refine sdm A λA=>?_;refine sdo A (qz M zv rfl 0 rfl (cs:=(dl.d.cells dl.ts.length)) rfl rfl) λA=>?_;rcases tf (qs qh dl.tr)with ac|ac
   ·refine gcl A M ec ((ac▸rsound_any (t:=dl) (Dt.keep M.bel _ hrdl) (by omega))) fun _ _ M a A=>?_;refine sdu A λA=>?_;refine sdk (v:=bV false) A λA=>?_;refine qcf af A ?_;refine wp_skip (ak _ _ (wsr fun _ am=>sda A λA=>?_));refine qwk am fun bz ap=>?_;have ah:∀a w1,(∃(kq:Int),(kq=if v=true then 6 else 4)∧Sl a 54 [(0,.agg (da.d.cells da.ts.length).toArray),(1,.agg (dm.d.cells dm.ts.length).toArray),(2,.slice so2 is.length ca2),(4,pA g2 0),(5,pA g4 0),(8,.slice none 0 0),(9,iV 0),(10,pA g9 0),(11,iV kq),(13,.slice so2 is.length ca2),(14,.agg (dl.d.cells dl.ts.length).toArray),(15,.agg (da.d.cells da.ts.length).toArray),(16,bV true),(17,bV false),(18,bV false),(19,.agg (dm.d.cells dm.ts.length).toArray),(20,bV true),(21,bV false),(22,bV false),(23,bV false),(24,.agg (dl.d.cells dl.ts.length).toArray),(25,bV true),(26,bV false),(27,bV false)]∧Mg w8 w1 (.obj g9 (.cells (dl.d.cells dl.ts.length).toArray 30)::[]))→bz a w1:=by
     clear A M;rintro a _ ⟨kq,aq,A,M⟩;have hkq:=aq;refine ap _ _ (wsr fun _ ar=>sdm A λA=>?_);refine sdo (v:=.agg #[iV kq,.slice none 0 0]) A (qn rfl (fun w=>by kernel_rfl)) λA=>?_;refine jr (e:=65) (sz:=2) (m:=1) (vs:=jb Sp.c [(Sp.mk kq none 0 [])]) A M rfl rfl rfl (qg rfl (by kernel_rfl)) rfl rfl (.inl (by decide)) ?_;intro g29 _ M a A;refine sda A λA=>?_;refine qa (ar _ _ (wsk fun _ ai=>wsr fun _ aj=>sdo A (zp M hHg2 zv rfl rfl) λA=>?_));refine sdo (v:=.agg #[iV 2,iV 0,bV false,.slice none 0 0,.slice none 0 0,bV false,.slice none 0 0,.slice none 0 0,.string (⟨#[]⟩),.slice none 0 0,.slice none 0 0]) A (qn rfl (fun w=>by kernel_rfl)) λA=>?_;rcases tf (isF da.tr)with ae|ae
     ·refine gcl A M ec ((ae▸zaj (Dt.keep M.bel _ hrda) aa)) fun _ _ M a A=>?_;refine sdu A λA=>?_;refine qcf aj A ?_;refine wp_skip (ai _ _ (wsr fun _ au=>sdm A λA=>?_));refine sdo A (zp M hHg4 zv rfl rfl) λA=>?_;refine jr (e:=30) (sz:=11) (m:=1) (vs:=cellsOf [dm]) A M rfl rfl rfl (qg rfl (by kernel_rfl)) rfl rfl (.inl (by decide)) ?_;intro g37 _ M a A;refine sdo (v:=.agg #[iV 1,.slice (aO g37) 1 1]) A (qn rfl (fun w=>by kernel_rfl)) λA=>?_;refine jr (e:=65) (sz:=2) (m:=1) (vs:=jb Sp.c [(Sp.mk 1 (aO g37) 1 [dm])]) A M rfl rfl rfl (qg rfl (by kernel_rfl)) rfl rfl (.inl (by decide)) ?_;intro g39 _ M a A;refine xd (e:=65) (sz:=2) (k:=2) (q:=1) (m:=1) (xs:=jb Sp.c [(Sp.mk kq none 0 [])]) (news:=jb Sp.c [(Sp.mk 1 (aO g37) 1 [dm])]) A rfl rfl rfl (yf (z:=.agg #[iV 0,.slice none 0 0]) (sz:=2) (by_:=32) ic (by kernel_rfl) rfl rfl rfl M 2 rfl rfl rfl rfl (vm (M.has 0 rfl)) (qig [(Sp.mk 1 (aO g37) 1 [dm])]) (by first|omega|(simp only[fx]; omega)|(simp only[fv,fw,fx]; omega))) (fun _=>rfl) ?_;intro cc cd M a A;replace M:Mg w8 cd (.row 65 2 (.slice (aO g39) 1 1) 1 (jb Sp.c [(Sp.mk 1 (aO g37) 1 [dm])])::.row 30 11 (.slice (aO g37) 1 1) 1 (cellsOf [dm])::.row 65 2 (cc) (([(Sp.mk kq none 0 [])]++[(Sp.mk 1 (aO g37) 1 [dm])]).length) (jb Sp.c ([(Sp.mk kq none 0 [])]++[(Sp.mk 1 (aO g37) 1 [dm])]))::.obj g9 (.cells (dl.d.cells dl.ts.length).toArray 30)::[]):=by
       rw[vu,fv]; exact M
      obtain⟨_,_,rfl⟩:=xu (M.has 2 rfl);refine sda A λA=>?_;refine qwr au fun _ av=>sdm A λA=>?_;refine sdo A (qz M zv rfl 3 rfl (cs:=(dl.d.cells dl.ts.length)) rfl rfl) λA=>?_;refine jr (e:=30) (sz:=11) (m:=1) (vs:=cellsOf [dl]) A M rfl rfl rfl (qg rfl (by kernel_rfl)) rfl rfl (.inl (by decide)) ?_;intro g46 _ M a A;refine sdo (v:=.agg #[iV 7,.slice (aO g46) 1 1]) A (qn rfl (fun w=>by kernel_rfl)) λA=>?_;refine jr (e:=65) (sz:=2) (m:=1) (vs:=jb Sp.c [(Sp.mk 7 (aO g46) 1 [dl])]) A M rfl rfl rfl (qg rfl (by kernel_rfl)) rfl rfl (.inl (by decide)) ?_;intro g48 _ M a A;refine xd (e:=65) (sz:=2) (k:=4) (q:=([(Sp.mk kq none 0 [])]++[(Sp.mk 1 (aO g37) 1 [dm])]).length) (m:=1) (xs:=jb Sp.c ([(Sp.mk kq none 0 [])]++[(Sp.mk 1 (aO g37) 1 [dm])])) (news:=jb Sp.c [(Sp.mk 7 (aO g46) 1 [dl])]) A rfl rfl rfl (yf (z:=.agg #[iV 0,.slice none 0 0]) (sz:=2) (by_:=32) ic (by kernel_rfl) rfl rfl rfl M 4 rfl rfl rfl rfl (vm (M.has 0 rfl)) (qig [(Sp.mk 7 (aO g46) 1 [dl])]) (by first|omega|(simp only[fx]; omega)|(simp only[fv,fw,fx]; omega))) (fun _=>rfl) ?_;intro ce bn M a A;replace M:Mg w8 bn (.row 65 2 (.slice (aO g48) 1 1) 1 (jb Sp.c [(Sp.mk 7 (aO g46) 1 [dl])])::.row 30 11 (.slice (aO g46) 1 1) 1 (cellsOf [dl])::.row 65 2 (.slice (aO g39) 1 1) 1 (jb Sp.c [(Sp.mk 1 (aO g37) 1 [dm])])::.row 30 11 (.slice (aO g37) 1 1) 1 (cellsOf [dm])::.row 65 2 (ce) ((([(Sp.mk kq none 0 [])]++[(Sp.mk 1 (aO g37) 1 [dm])])++[(Sp.mk 7 (aO g46) 1 [dl])]).length) (jb Sp.c (([(Sp.mk kq none 0 [])]++[(Sp.mk 1 (aO g37) 1 [dm])])++[(Sp.mk 7 (aO g46) 1 [dl])]))::.obj g9 (.cells (dl.d.cells dl.ts.length).toArray 30)::[]):=by
       rw[vu,fv]; exact M
      obtain⟨aw,ax,rfl⟩:=xu (M.has 4 rfl);iterate 2 refine sda A λA=>?_
      refine qa (av _ _ (wp_ret (hret _ _ (en2 A rfl (qf rfl) (qf rfl) ?_))));have hps:∀p∈[(Sp.mk kq none 0 []),(Sp.mk 1 (aO g37) 1 [dm]),(Sp.mk 7 (aO g46) 1 [dl])],SpR bn p:=by
       intro p hp;simp only[ik,List.not_mem_nil,or_false]at hp;rcases hp with h9|h9|h9<;>subst h9
       ·exact⟨fun h=>absurd rfl h,fun t h=>by cases h⟩
       ·exact⟨(kv (M.has 3 rfl)).1,fun t ht=>by rw[iq.1 ht]; exact Dt.keep M.bel _ hrdm⟩
       ·exact⟨(kv (M.has 1 rfl)).1,fun t ht=>by rw[iq.1 ht]; exact Dt.keep M.bel _ hrdl⟩
      exact⟨aw,ax,[(Sp.mk kq none 0 []),(Sp.mk 1 (aO g37) 1 [dm]),(Sp.mk 7 (aO g46) 1 [dl])],0,rfl,⟨by rw[xeb aa ab (htl▸ac) ae,←htl,hkq]; rcases v with _|_<;>rfl,⟨vm (M.has 4 rfl),hps⟩⟩,hB1.trans (M.bel.mono hB1.size)⟩
     ·refine gcl A M ec ((ae▸zaj (Dt.keep M.bel _ hrda) aa)) fun _ _ M a A=>?_;refine sdu A λA=>?_;refine qct aj A ?_;refine wrl (sdm A λA=>?_);refine sdo A (zp M hHg2 zv rfl rfl) λA=>?_;refine jr (e:=30) (sz:=11) (m:=1) (vs:=cellsOf [da]) A M rfl rfl rfl (qg rfl (by kernel_rfl)) rfl rfl (.inl (by decide)) ?_;intro g56 _ M a A;refine sdo (v:=.agg #[iV 8,.slice (aO g56) 1 1]) A (qn rfl (fun w=>by kernel_rfl)) λA=>?_;refine jr (e:=65) (sz:=2) (m:=1) (vs:=jb Sp.c [(Sp.mk 8 (aO g56) 1 [da])]) A M rfl rfl rfl (qg rfl (by kernel_rfl)) rfl rfl (.inl (by decide)) ?_;intro g58 _ M a A;refine xd (e:=65) (sz:=2) (k:=2) (q:=1) (m:=1) (xs:=jb Sp.c [(Sp.mk kq none 0 [])]) (news:=jb Sp.c [(Sp.mk 8 (aO g56) 1 [da])]) A rfl rfl rfl (yf (z:=.agg #[iV 0,.slice none 0 0]) (sz:=2) (by_:=32) ic (by kernel_rfl) rfl rfl rfl M 2 rfl rfl rfl rfl (vm (M.has 0 rfl)) (qig [(Sp.mk 8 (aO g56) 1 [da])]) (by first|omega|(simp only[fx]; omega)|(simp only[fv,fw,fx]; omega))) (fun _=>rfl) ?_;intro cg ch M a A;replace M:Mg w8 ch (.row 65 2 (.slice (aO g58) 1 1) 1 (jb Sp.c [(Sp.mk 8 (aO g56) 1 [da])])::.row 30 11 (.slice (aO g56) 1 1) 1 (cellsOf [da])::.row 65 2 (cg) (([(Sp.mk kq none 0 [])]++[(Sp.mk 8 (aO g56) 1 [da])]).length) (jb Sp.c ([(Sp.mk kq none 0 [])]++[(Sp.mk 8 (aO g56) 1 [da])]))::.obj g9 (.cells (dl.d.cells dl.ts.length).toArray 30)::[]):=by
       rw[vu,fv]; exact M
      obtain⟨_,_,rfl⟩:=xu (M.has 2 rfl);refine sda A λA=>?_;refine qwr ai fun _ ay=>sdm A λA=>?_;refine sdo A (zp M hHg4 zv rfl rfl) λA=>?_;refine jr (e:=30) (sz:=11) (m:=1) (vs:=cellsOf [dm]) A M rfl rfl rfl (qg rfl (by kernel_rfl)) rfl rfl (.inl (by decide)) ?_;intro g65 _ M a A;refine sdo (v:=.agg #[iV 1,.slice (aO g65) 1 1]) A (qn rfl (fun w=>by kernel_rfl)) λA=>?_;refine jr (e:=65) (sz:=2) (m:=1) (vs:=jb Sp.c [(Sp.mk 1 (aO g65) 1 [dm])]) A M rfl rfl rfl (qg rfl (by kernel_rfl)) rfl rfl (.inl (by decide)) ?_;intro g67 _ M a A;refine xd (e:=65) (sz:=2) (k:=4) (q:=([(Sp.mk kq none 0 [])]++[(Sp.mk 8 (aO g56) 1 [da])]).length) (m:=1) (xs:=jb Sp.c ([(Sp.mk kq none 0 [])]++[(Sp.mk 8 (aO g56) 1 [da])])) (news:=jb Sp.c [(Sp.mk 1 (aO g65) 1 [dm])]) A rfl rfl rfl (yf (z:=.agg #[iV 0,.slice none 0 0]) (sz:=2) (by_:=32) ic (by kernel_rfl) rfl rfl rfl M 4 rfl rfl rfl rfl (vm (M.has 0 rfl)) (qig [(Sp.mk 1 (aO g65) 1 [dm])]) (by first|omega|(simp only[fx]; omega)|(simp only[fv,fw,fx]; omega))) (fun _=>rfl) ?_;intro ci cj M a A;replace M:Mg w8 cj (.row 65 2 (.slice (aO g67) 1 1) 1 (jb Sp.c [(Sp.mk 1 (aO g65) 1 [dm])])::.row 30 11 (.slice (aO g65) 1 1) 1 (cellsOf [dm])::.row 65 2 (.slice (aO g58) 1 1) 1 (jb Sp.c [(Sp.mk 8 (aO g56) 1 [da])])::.row 30 11 (.slice (aO g56) 1 1) 1 (cellsOf [da])::.row 65 2 (ci) ((([(Sp.mk kq none 0 [])]++[(Sp.mk 8 (aO g56) 1 [da])])++[(Sp.mk 1 (aO g65) 1 [dm])]).length) (jb Sp.c (([(Sp.mk kq none 0 [])]++[(Sp.mk 8 (aO g56) 1 [da])])++[(Sp.mk 1 (aO g65) 1 [dm])]))::.obj g9 (.cells (dl.d.cells dl.ts.length).toArray 30)::[]):=by
       rw[vu,fv]; exact M
      obtain⟨_,_,rfl⟩:=xu (M.has 4 rfl);refine sda A λA=>?_;refine qwr ay fun _ az=>sdm A λA=>?_;refine sdo A (qz M zv rfl 5 rfl (cs:=(dl.d.cells dl.ts.length)) rfl rfl) λA=>?_;refine jr (e:=30) (sz:=11) (m:=1) (vs:=cellsOf [dl]) A M rfl rfl rfl (qg rfl (by kernel_rfl)) rfl rfl (.inl (by decide)) ?_;intro g74 _ M a A;refine sdo (v:=.agg #[iV 7,.slice (aO g74) 1 1]) A (qn rfl (fun w=>by kernel_rfl)) λA=>?_;refine jr (e:=65) (sz:=2) (m:=1) (vs:=jb Sp.c [(Sp.mk 7 (aO g74) 1 [dl])]) A M rfl rfl rfl (qg rfl (by kernel_rfl)) rfl rfl (.inl (by decide)) ?_;intro g76 _ M a A;refine xd (e:=65) (sz:=2) (k:=6) (q:=(([(Sp.mk kq none 0 [])]++[(Sp.mk 8 (aO g56) 1 [da])])++[(Sp.mk 1 (aO g65) 1 [dm])]).length) (m:=1) (xs:=jb Sp.c (([(Sp.mk kq none 0 [])]++[(Sp.mk 8 (aO g56) 1 [da])])++[(Sp.mk 1 (aO g65) 1 [dm])])) (news:=jb Sp.c [(Sp.mk 7 (aO g74) 1 [dl])]) A rfl rfl rfl (yf (z:=.agg #[iV 0,.slice none 0 0]) (sz:=2) (by_:=32) ic (by kernel_rfl) rfl rfl rfl M 6 rfl rfl rfl rfl (vm (M.has 0 rfl)) (qig [(Sp.mk 7 (aO g74) 1 [dl])]) (by first|omega|(simp only[fx]; omega)|(simp only[fv,fw,fx]; omega))) (fun _=>rfl) ?_;intro ck bp M a A
      replace M:Mg w8 bp (.row 65 2 (.slice (aO g76) 1 1) 1 (jb Sp.c [(Sp.mk 7 (aO g74) 1 [dl])])::.row 30 11 (.slice (aO g74) 1 1) 1 (cellsOf [dl])::.row 65 2 (.slice (aO g67) 1 1) 1 (jb Sp.c [(Sp.mk 1 (aO g65) 1 [dm])])::.row 30 11 (.slice (aO g65) 1 1) 1 (cellsOf [dm])::.row 65 2 (.slice (aO g58) 1 1) 1 (jb Sp.c [(Sp.mk 8 (aO g56) 1 [da])])::.row 30 11 (.slice (aO g56) 1 1) 1 (cellsOf [da])::.row 65 2 (ck) (((([(Sp.mk kq none 0 [])]++[(Sp.mk 8 (aO g56) 1 [da])])++[(Sp.mk 1 (aO g65) 1 [dm])])++[(Sp.mk 7 (aO g74) 1 [dl])]).length) (jb Sp.c ((([(Sp.mk kq none 0 [])]++[(Sp.mk 8 (aO g56) 1 [da])])++[(Sp.mk 1 (aO g65) 1 [dm])])++[(Sp.mk 7 (aO g74) 1 [dl])]))::.obj g9 (.cells (dl.d.cells dl.ts.length).toArray 30)::[]):=by
       rw[vu,fv]; exact M
      obtain⟨bd,bf,rfl⟩:=xu (M.has 6 rfl);iterate 2 refine sda A λA=>?_
      refine qa (az _ _ (wp_ret (hret _ _ (en2 A rfl (qf rfl) (qf rfl) ?_))));have hps:∀p∈[(Sp.mk kq none 0 []),(Sp.mk 8 (aO g56) 1 [da]),(Sp.mk 1 (aO g65) 1 [dm]),(Sp.mk 7 (aO g74) 1 [dl])],SpR bp p:=by
       intro p hp;simp only[ik,List.not_mem_nil,or_false]at hp;rcases hp with h9|h9|h9|h9<;>subst h9
       ·exact⟨fun h=>absurd rfl h,fun t h=>by cases h⟩
       ·exact⟨(kv (M.has 5 rfl)).1,fun t ht=>by rw[iq.1 ht]; exact Dt.keep M.bel _ hrda⟩
       ·exact⟨(kv (M.has 3 rfl)).1,fun t ht=>by rw[iq.1 ht]; exact Dt.keep M.bel _ hrdm⟩
       ·exact⟨(kv (M.has 1 rfl)).1,fun t ht=>by rw[iq.1 ht]; exact Dt.keep M.bel _ hrdl⟩
      exact⟨bd,bf,[(Sp.mk kq none 0 []),(Sp.mk 8 (aO g56) 1 [da]),(Sp.mk 1 (aO g65) 1 [dm]),(Sp.mk 7 (aO g74) 1 [dl])],0,rfl,⟨by rw[job aa ab (htl▸ac) ae,←htl,hkq]; rcases v with _|_<;>rfl,⟨vm (M.has 6 rfl),hps⟩⟩,hB1.trans (M.bel.mono hB1.size)⟩
    refine wsr fun _ bg=>sdm A λA=>?_;refine qa (bg _ _ ?_);refine wp_cond_split (t:=v) (A.ev rfl) (fun ag=>?_) (fun ag=>?_)
    ·refine wrl (sda A λA=>?_);refine qa ?_;exact ah _ _ ⟨6,(gj ag).symm,A.keep _ (by repeat' constructor),M⟩
    ·refine wp_skip ?_;exact ah _ _ ⟨4,(f7 (by rw[ag]; decide)).symm,A.keep _ (by repeat' constructor),M⟩
   ·refine gcl A M ec ((ac▸rsound_any (t:=dl) (Dt.keep M.bel _ hrdl) (by omega))) fun _ _ M a A=>?_;refine sdu A λA=>?_;refine sdk (v:=bV true) A λA=>?_;refine qct af A ?_;refine wsr fun _ bh=>?_;iterate 2 refine sda A λA=>?_
    refine qa (bh _ _ (wp_ret (hret _ _ (en2 A rfl (qf rfl) (qf rfl) ?_))));exact⟨none,0,[],2,rfl,⟨(qrd (fun h=>by rw[←htl]at h; have h9:=h.2.2; rw[ac]at h9; cases h9)).symm,⟨fun h=>absurd rfl h,fun p h=>by cases h⟩⟩,hB1.trans (M.bel.mono hB1.size)⟩
  ·refine gcl A M ec ((ab▸rsound_any (t:=dm) (Dt.keep M.bel _ hrdm) (by omega))) fun _ _ M a A=>?_;refine sdu A λA=>?_;refine sdk (v:=bV true) A λA=>?_;refine sdm A λA=>?_;iterate 3 refine sks A λA=>?_
   refine sdk (v:=bV true) A λA=>?_;refine qct af A ?_;refine wsr fun _ bi=>?_;iterate 2 refine sda A λA=>?_
   refine qa (bi _ _ (wp_ret (hret _ _ (en2 A rfl (qf rfl) (qf rfl) ?_))));exact⟨none,0,[],2,rfl,⟨(qrd (fun h=>by have h9:=h.2.1; rw[ab]at h9; cases h9)).symm,⟨fun h=>absurd rfl h,fun p h=>by cases h⟩⟩,hB1.trans (M.bel.mono hB1.size)⟩
 ·refine gcl A M ec ((aa▸rsound_any (t:=da) (Dt.keep M.bel _ hrda) (by omega))) fun _ _ M a A=>?_;refine sdu A λA=>?_;refine sdm A λA=>?_;iterate 3 refine sks A λA=>?_
  refine sdk (v:=bV true) A λA=>?_;refine sdm A λA=>?_;iterate 3 refine sks A λA=>?_
  refine sdk (v:=bV true) A λA=>?_;refine qct af A ?_;refine wsr fun _ bj=>?_;iterate 2 refine sda A λA=>?_
  refine qa (bj _ _ (wp_ret (hret _ _ (en2 A rfl (qf rfl) (qf rfl) ?_))));exact⟨none,0,[],2,rfl,⟨(qrd (fun h=>by have h9:=h.1; rw[aa]at h9; cases h9)).symm,⟨fun h=>absurd rfl h,fun p h=>by cases h⟩⟩,hB1.trans (M.bel.mono hB1.size)⟩
theorem jrf{w:World}{so:Option Addr}{ca:Nat}{ps:List Sp}(hPs:PR w so ps)(hl:ps.length≤1000000000)(hck:ckC (ps.map Sp.k)=0)(hB4:∀p∈ps,Tr.bulks (p.vs.map Dt.tr)≤3000000){f g:Tr→List UInt8}(hRf:∀(d:Dt) (w1:World),d.rd w1→(∃p∈ps,d∈p.vs)→(flT (ps.map Sp.k) 8=some d.tr∨flT (ps.map Sp.k) 1=some d.tr)→Calls Tryz.prog 43 #[.agg (d.d.cells d.ts.length).toArray,bV false] w1 fun e w2=>e=.returned (.tuple #[.string ⟨(f d.tr).toArray⟩,iV 0])∧Below w1.heap.size w1 w2)(hRg:∀(d:Dt) (w1:World),d.rd w1→d.tr∈irT (ps.map Sp.k)→Calls Tryz.prog 43 #[.agg (d.d.cells d.ts.length).toArray,bV true] w1 fun e w2=>e=.returned (.tuple #[.string ⟨(g d.tr).toArray⟩,iV 0])∧Below w1.heap.size w1 w2)(hlen:(tlS f g (ps.map Sp.k)).length≤1000000000):Calls Tryz.prog 8 #[.slice so ps.length ca] w (RB w (.tuple #[.string ⟨(tlS f g (ps.map Sp.k)).toArray⟩,iV 0])):=by
 have cr:(nmL (hdT (ps.map Sp.k))).length≤100:=by unfold nmL; rw[zm]; exact qpd (zgd hck)
 have hr0:([]:List UInt8).length+(kat (hdT (ps.map Sp.k))).nm.size≤140737488355328:=by have:=qpd (zgd hck); simp only[fx]; omega
 have cw:(nmL (hdT (ps.map Sp.k))++opT (flT (ps.map Sp.k) 8) fun t=>[32,105,110,32]++f t).length≤1000000000:=by
  have h9:=hlen;unfold tlS at h9;rw[fv,fv]at h9;omega
 have hfull:(tlS f g (ps.map Sp.k)).length≤1000000000:=hlen;have hparts:(tlS f g (ps.map Sp.k)).length=(nmL (hdT (ps.map Sp.k))).length+(opT (flT (ps.map Sp.k) 8) fun t=>[32,105,110,32]++f t).length+(opT (flT (ps.map Sp.k) 1) fun t=>[58,32]++f t).length+((irT (ps.map Sp.k)).flatMap fun t=>[32]++g t).length:=by unfold tlS; simp only[fv]
 have flen8:∀t,flT (ps.map Sp.k) 8=some t→4+(f t).length=(opT (flT (ps.map Sp.k) 8) fun t=>[32,105,110,32]++f t).length:=fun t h=>by rw[zlb h,fv]; rfl
 have flen1:∀t,flT (ps.map Sp.k) 1=some t→2+(f t).length=(opT (flT (ps.map Sp.k) 1) fun t=>[58,32]++f t).length:=fun t h=>by rw[zlb h,fv]; rfl
 have glen:∀{j:Nat} {t:Tr},(irT (ps.map Sp.k))[j]?=some t→(g t).length≤1000000000:=fun h=>by have:=joh (g:=g) h; omega
 have cx:((nmL (hdT (ps.map Sp.k))++opT (flT (ps.map Sp.k) 8) fun t=>[32,105,110,32]++f t)++opT (flT (ps.map Sp.k) 1) fun t=>[58,32]++f t).length≤1000000000:=by
  have h9:=hlen;unfold tlS at h9;rw[fv]at h9;omega
 have M:=Mg.start w;refine wof Tryz.func8 Tryz.ntmps8 fun Q hret hnorm hP a A=>?_;refine wsr fun _ cy=>?_;iterate 2 refine sda A λA=>?_
 refine qwr cy fun _ cz=>sdm A λA=>?_;refine gcl A M ec ((hck▸zai (hPs.below M.bel) hB4 hl)) fun _ hbc M a A=>?_;refine sda A λA=>?_;refine qwk cz fun K4 db=>wsr fun _ dd=>sdm A λA=>?_;refine sdo (v:=bV false) A dbK λA=>?_;refine qcf dd A ?_;refine wp_skip (db _ _ (wsr fun _ de=>sda A λA=>?_));refine qwr de fun _ df=>sdm A λA=>?_;refine gcl A M ec (rfirst_any (hPs.below M.bel) hl (qpa hck) (t:=3)) fun _ cp M a A=>?_;refine sda A λA=>?_;refine qwk df fun dg bf=>?_;have ap:∀a w1,(∃(sa:List UInt8),(sa=(nmL (hdT (ps.map Sp.k))))∧Sl a 104 [(0,.slice so ps.length ca),(2,.string (⟨#[]⟩)),(3,iV 0),(4,iV 0),(5,.string (⟨sa.toArray⟩)),(16,.slice so ps.length ca),(17,iV 0),(18,iV 0),(19,bV false),(21,.slice so ps.length ca),(22,iV (fdI (ps.map Sp.k) 3))]∧Mg w w1 ([]))→dg a w1:=by
  clear A M;rintro a _ ⟨sa,bg,A,M⟩;have hsa:=bg;have hsal:sa.length≤100:=by rw[hsa]; exact cr
  refine bf _ _ (wsr fun _ bh=>sdm A λA=>?_);refine gcl A M ec (rfirst_any (hPs.below M.bel) hl (qpa hck) (t:=8)) fun _ _ M a A=>?_;refine sda A λA=>?_;refine qwk bh fun dh bi=>?_;have aq:∀a w1,(∃(sb:List UInt8),(sb=(nmL (hdT (ps.map Sp.k))++opT (flT (ps.map Sp.k) 8) fun t=>[32,105,110,32]++f t))∧Sl a 104 [(0,.slice so ps.length ca),(2,.string (⟨#[]⟩)),(3,iV 0),(4,iV 0),(5,.string (⟨sb.toArray⟩)),(16,.slice so ps.length ca),(17,iV 0),(18,iV 0),(19,bV false),(21,.slice so ps.length ca),(22,iV (fdI (ps.map Sp.k) 3)),(31,.slice so ps.length ca),(32,iV (fdI (ps.map Sp.k) 8))]∧Mg w w1 ([]))→dh a w1:=by
   clear A M;rintro a _ ⟨sb,bj,A,M⟩;have hsb:=bj;have hsbl:sb.length≤1000000000:=(by rw[hsb]; exact cw);refine bi _ _ (wsr fun _ bn=>sdm A λA=>?_);refine gcl A M ec (rfirst_any (hPs.below M.bel) hl (qpa hck) (t:=1)) fun _ _ M a A=>?_;refine sda A λA=>?_;refine qwk bn fun di bp=>?_;have ar:∀a w1,(∃(sc:List UInt8),(sc=((nmL (hdT (ps.map Sp.k))++opT (flT (ps.map Sp.k) 8) fun t=>[32,105,110,32]++f t)++opT (flT (ps.map Sp.k) 1) fun t=>[58,32]++f t))∧Sl a 104 [(0,.slice so ps.length ca),(2,.string (⟨#[]⟩)),(3,iV 0),(4,iV 0),(5,.string (⟨sc.toArray⟩)),(16,.slice so ps.length ca),(17,iV 0),(18,iV 0),(19,bV false),(21,.slice so ps.length ca),(22,iV (fdI (ps.map Sp.k) 3)),(31,.slice so ps.length ca),(32,iV (fdI (ps.map Sp.k) 8)),(50,.slice so ps.length ca),(51,iV (fdI (ps.map Sp.k) 1))]∧Mg w w1 ([]))→di a w1:=by
    clear A M;rintro a _ ⟨sc,bq,A,M⟩;have hsc:=bq;have hscl:sc.length≤1000000000:=(by rw[hsc]; exact cx);refine bp _ _ (wsr fun _ br=>sdm A λA=>?_);refine gcl A M ec (rfirst_any (hPs.below M.bel) hl (qpa hck) (t:=7)) fun _ _ M a A=>?_;refine sda A λA=>?_;refine qwk br fun _ bw=>wsr fun _ au=>sdm A λA=>?_;rcases tf (decide (fdI (ps.map Sp.k) 7<0))with aa|aa
    ·have aa':=f5 aa;refine sdc A qy aa λA=>?_;refine qct au A ?_;refine wsr fun _ bz=>sdm A λA=>?_;iterate 2 refine sda A λA=>?_
     refine qa (bz _ _ (wp_ret (hret _ _ (en2 A rfl (qf rfl) (qf rfl) ?_))));exact⟨by rw[show(tlS f g (ps.map Sp.k))=sc from by unfold tlS; rw[show irT (ps.map Sp.k)=[]from by unfold irT; rw[qrc (show ¬0≤fdI (ps.map Sp.k) 7 by omega)],hsc]; exact gh _],M.bel⟩
    ·have aa':=fy aa;refine sdc A qy aa λA=>?_;refine qcf au A ?_;refine wp_skip (bw _ _ (wsr fun _ cc=>?_));iterate 2 refine sdm A λA=>?_
     have ag:=qyf (fun k:Int×List Tr=>yn k.1 7) (ps.map Sp.k);rw[gy]at ag;replace ag:-1≤fdI (ps.map Sp.k) 7∧fdI (ps.map Sp.k) 7<((ps.length:Nat):Int):=ag;have hps7:0≤fdI (ps.map Sp.k) 7:=(by omega);obtain⟨x7,bx7,ox7,ix7,mx7,rx7,lx7,Hx7⟩:=hPs.at_ (i:=(fdI (ps.map Sp.k) 7).toNat) (by omega);have hone7:=zkj hck (.inr (.inl rfl)) hps7 ix7 mx7;refine sdo (v:=pA bx7 (ox7+(fdI (ps.map Sp.k) 7).toNat*2)) A (qk (k:=(fdI (ps.map Sp.k) 7).toNat) ic (by kernel_rfl) rfl rfl (by first|rfl|omega) lx7 (by omega)) λA=>?_;refine sdo (v:=pA bx7 (ox7+(fdI (ps.map Sp.k) 7).toNat*2+1)) A (qp qci rfl rfl) λA=>?_;refine sdo A (xl (j:=1) M Hx7 ke rfl rfl rfl) λA=>?_;obtain⟨tk36,btk36,otk36,itk36,mtk36,rtk36_,ltk36,Htk36⟩:=que rx7.v rx7.d (i:=0) (by omega);refine sdo (v:=pA btk36 (otk36+0*11)) A (qk (k:=0) f9 (by kernel_rfl) rfl rfl (by first|rfl|omega) ltk36 (by omega)) λA=>?_;refine sdo A (zp M Htk36 zv rfl rfl) λA=>?_;have dj:flT (ps.map Sp.k) 7=some tk36.tr:=qvh hps7 (yg ix7) (show(x7.vs.map Dt.tr)[0]?=some tk36.tr by rw[List.getElem?_map,itk36]; rfl);refine sct A ec (jre (Dt.keep M.bel _ rtk36_) (by have h8:=qdh mtk36; have h9:=hB4 _ mx7; omega)) ?_;rintro _ cq ⟨az,bd,ys,k8,rfl,⟨dk,hR8,hD8⟩,cp⟩;have hir:ys.map Dt.tr=irT (ps.map Sp.k):=(by unfold irT; rw[dj]; exact j9 Prod.fst dk);have hyl:ys.length=(irT (ps.map Sp.k)).length:=(by rw[←hir,gy]);have hyb:=zya (g:=g) (irT (ps.map Sp.k));replace M:=M.call cp;refine⟨_,rfl,?_⟩;intro a A;refine sdm A λA=>?_;iterate 2 refine sde A λA=>?_
     iterate 2 refine sda A λA=>?_
     refine qwk cc fun _ cd=>wsk fun _ ce=>?_;have hB1:=M.bel;replace M:=Mg.start cq;refine wrl (sda A λA=>?_);refine qa (ce _ _ (wp_block (zg (fun m_ a w1=>∃(j:Nat) (acc:List UInt8),m_=1+(ys.length-j)∧(j≤ys.length∧acc++((irT (ps.map Sp.k)).drop j).flatMap (fun t=>[32]++g t)=(tlS f g (ps.map Sp.k)))∧Sl a 104 [(0,.slice so ps.length ca),(2,.string (⟨#[]⟩)),(3,iV 0),(4,iV 0),(5,.string (⟨acc.toArray⟩)),(6,iV (fdI (ps.map Sp.k) 7)),(11,.slice az ys.length bd),(12,iV k8),(13,iV (((j:Nat):Int))),(16,.slice so ps.length ca),(17,iV 0),(18,iV 0),(19,bV false),(21,.slice so ps.length ca),(22,iV (fdI (ps.map Sp.k) 3)),(31,.slice so ps.length ca),(32,iV (fdI (ps.map Sp.k) 8)),(50,.slice so ps.length ca),(51,iV (fdI (ps.map Sp.k) 1)),(69,.slice so ps.length ca),(70,iV (fdI (ps.map Sp.k) 7)),(71,iV (fdI (ps.map Sp.k) 7)),(72,bV false),(74,.tuple #[.slice az ys.length bd,iV k8]),(75,.slice so ps.length ca),(76,iV (fdI (ps.map Sp.k) 7)),(77,pA bx7 (ox7+(fdI (ps.map Sp.k) 7).toNat*2)),(78,pA bx7 (ox7+(fdI (ps.map Sp.k) 7).toNat*2+1)),(79,.slice x7.vo x7.vs.length x7.vc),(80,pA btk36 (otk36+0*11)),(81,.agg (tk36.d.cells tk36.ts.length).toArray),(82,.tuple #[.slice az ys.length bd,iV k8]),(83,.slice az ys.length bd),(84,iV k8)]∧Mg cq w1 ([])) _ ⟨0,sc,rfl,⟨ii _,by rw[hsc]; rfl⟩,A.keep _ (by repeat' constructor),M⟩ ?_)));clear M A;rintro m_ a _ ⟨j,acc,rfl,ah,A,M⟩ _ cg;obtain⟨hj0,ai⟩:=ah;have hal:acc.length≤1000000000:=(by have:=j9 List.length ai; rw[fv]at this; omega);refine wsk fun _ ch=>wsr fun _ av=>?_;iterate 2 refine sdm A λA=>?_
     refine sdo A (qr f9 rfl) λA=>?_;rcases tf (decide (((j:Nat):Int)<((ys.length:Nat):Int)))with ab|ab
     ·have ab':=f5 ab;refine sdc A qy ab λA=>?_;refine qct av A ?_;refine wp_skip (ch _ _ (wsk fun _ ci=>wp_block (wsr fun _ cj=>?_)));iterate 2 refine sdm A λA=>?_
      obtain⟨tk,btk,otk,itk,mtk,rtk_,ltk,Htk⟩:=que hR8 hD8 (i:=j) (by omega);refine sdo (v:=pA btk (otk+j*11)) A (qk (k:=j) f9 (by kernel_rfl) rfl rfl rfl ltk (by omega)) λA=>?_;refine sdo A (zp M Htk zv rfl rfl) λA=>?_;have hmi:tk.tr∈irT (ps.map Sp.k):=(by rw[←hir]; exact j5 mtk);have hit:(irT (ps.map Sp.k))[j]?=some tk.tr:=(by rw[←hir,List.getElem?_map,itk]; rfl);have hgl:=glen hit;refine gcl A M ec (hRg tk _ (Dt.keep M.bel _ rtk_) hmi) fun _ _ M a A=>?_;refine sdm A λA=>?_;iterate 2 refine sde A λA=>?_
      iterate 2 refine sda A λA=>?_
      refine qa (cj _ _ (wrl ?_));iterate 2 refine sdm A λA=>?_
      refine sdo (v:=.string (⟨([32]++(g tk.tr)).toArray⟩)) A (qb rfl rfl (yy (a:=[32]) (b:=(g tk.tr)) (by simp only[fw,fx]; omega))) λA=>?_;refine sdo (v:=.string (⟨(acc++([32]++(g tk.tr))).toArray⟩)) A (qb rfl rfl (yy (a:=acc) (b:=([32]++(g tk.tr))) (by rw[fv]; simp only[fw,fx]; omega))) λA=>?_;refine sda A λA=>?_;refine qa (ci _ _ (wrl (sdm A λA=>?_)));refine sdo (v:=iV (((j+1:Nat):Int))) A (qb rfl rfl (fun w=>(zq (jk (by omega) (by omega)) w).trans (by rw[show(((j:Nat):Int)+1:Int)=((j+1:Nat):Int)from by omega]))) λA=>?_;refine sda A λA=>?_;refine qa ?_;refine cg _ _ _ (by omega) ⟨j+1,(acc++([32]++g tk.tr)),rfl,⟨by omega,by rw[←ai,jed hit,f4]⟩,A.keep _ (by repeat' constructor),M⟩
     ·have ab':=fy ab;refine sdc A qy ab λA=>?_;refine qcf av A ?_;refine wp_exit (cd _ _ (wsr fun _ ck=>sdm A λA=>?_));iterate 2 refine sda A λA=>?_
      refine qa (ck _ _ (wp_ret (hret _ _ (en2 A rfl (qf rfl) (qf rfl) ?_))));exact⟨by rw[show(tlS f g (ps.map Sp.k))=acc from by rw[←ai,i7 (by omega)]; exact gh _],hB1.trans (M.bel.mono hB1.size)⟩
   refine wsr fun _ aw=>sdm A λA=>?_;rcases tf (decide (0≤fdI (ps.map Sp.k) 1))with ac|ac
   ·have ac':=f5 ac;refine sdc A zt ac λA=>?_;refine qct aw A ?_;refine wsr fun _ cl=>?_;iterate 2 refine sdm A λA=>?_
    have aj:=qyf (fun k:Int×List Tr=>yn k.1 1) (ps.map Sp.k);rw[gy]at aj;replace aj:-1≤fdI (ps.map Sp.k) 1∧fdI (ps.map Sp.k) 1<((ps.length:Nat):Int):=aj;have hps1:0≤fdI (ps.map Sp.k) 1:=(by omega);obtain⟨x1,bx1,ox1,ix1,mx1,rx1,lx1,Hx1⟩:=hPs.at_ (i:=(fdI (ps.map Sp.k) 1).toNat) (by omega);have hone1:=zkj hck (.inl rfl) hps1 ix1 mx1;refine sdo (v:=pA bx1 (ox1+(fdI (ps.map Sp.k) 1).toNat*2)) A (qk (k:=(fdI (ps.map Sp.k) 1).toNat) ic (by kernel_rfl) rfl rfl (by first|rfl|omega) lx1 (by omega)) λA=>?_;refine sdo (v:=pA bx1 (ox1+(fdI (ps.map Sp.k) 1).toNat*2+1)) A (qp qci rfl rfl) λA=>?_;refine sdo A (xl (j:=1) M Hx1 ke rfl rfl rfl) λA=>?_;obtain⟨tk54,btk54,otk54,itk54,mtk54,rtk54_,ltk54,Htk54⟩:=que rx1.v rx1.d (i:=0) (by omega);refine sdo (v:=pA btk54 (otk54+0*11)) A (qk (k:=0) f9 (by kernel_rfl) rfl rfl (by first|rfl|omega) ltk54 (by omega)) λA=>?_;refine sdo A (zp M Htk54 zv rfl rfl) λA=>?_;have cm:flT (ps.map Sp.k) 1=some tk54.tr:=qvh hps1 (yg ix1) (show(x1.vs.map Dt.tr)[0]?=some tk54.tr by rw[List.getElem?_map,itk54]; rfl);have hlf1:=flen1 _ cm;refine gcl A M ec (hRf tk54 _ (Dt.keep M.bel _ rtk54_) ⟨x1,mx1,mtk54⟩ (.inr cm)) fun _ _ M a A=>?_;refine sdm A λA=>?_;iterate 2 refine sde A λA=>?_
    iterate 2 refine sda A λA=>?_
    refine qa (cl _ _ (wrl ?_));iterate 2 refine sdm A λA=>?_
    refine sdo (v:=.string (⟨([58,32]++(f tk54.tr)).toArray⟩)) A (qb rfl rfl (yy (a:=[58,32]) (b:=(f tk54.tr)) (by simp only[fw,fx]; omega))) λA=>?_;refine sdo (v:=.string (⟨(sb++([58,32]++(f tk54.tr))).toArray⟩)) A (qb rfl rfl (yy (a:=sb) (b:=([58,32]++(f tk54.tr))) (by rw[fv]; simp only[fw,fx]; omega))) λA=>?_;refine sda A λA=>?_;refine qa ?_;exact ar _ _ ⟨(sb++([58,32]++f tk54.tr)),(by rw[cm,hsb]; rfl),A.keep _ (by repeat' constructor),M⟩
   ·have ac':=fy ac;refine sdc A zt ac λA=>?_;refine qcf aw A ?_;refine wp_skip ?_;exact ar _ _ ⟨sb,(by rw[qrc (show ¬0≤fdI (ps.map Sp.k) 1 by omega),hsb]; exact(gh _).symm),A.keep _ (by repeat' constructor),M⟩
  refine wsr fun _ ax=>sdm A λA=>?_;rcases tf (decide (0≤fdI (ps.map Sp.k) 8))with ae|ae
  ·have ae':=f5 ae;refine sdc A zt ae λA=>?_;refine qct ax A ?_;refine wsr fun _ cn=>?_;iterate 2 refine sdm A λA=>?_
   have ak:=qyf (fun k:Int×List Tr=>yn k.1 8) (ps.map Sp.k);rw[gy]at ak;replace ak:-1≤fdI (ps.map Sp.k) 8∧fdI (ps.map Sp.k) 8<((ps.length:Nat):Int):=ak;have hps8:0≤fdI (ps.map Sp.k) 8:=(by omega);obtain⟨x8,bx8,ox8,ix8,mx8,rx8,lx8,Hx8⟩:=hPs.at_ (i:=(fdI (ps.map Sp.k) 8).toNat) (by omega);have hone8:=zkj hck (.inr (.inr rfl)) hps8 ix8 mx8;refine sdo (v:=pA bx8 (ox8+(fdI (ps.map Sp.k) 8).toNat*2)) A (qk (k:=(fdI (ps.map Sp.k) 8).toNat) ic (by kernel_rfl) rfl rfl (by first|rfl|omega) lx8 (by omega)) λA=>?_;refine sdo (v:=pA bx8 (ox8+(fdI (ps.map Sp.k) 8).toNat*2+1)) A (qp qci rfl rfl) λA=>?_;refine sdo A (xl (j:=1) M Hx8 ke rfl rfl rfl) λA=>?_;obtain⟨tk60,btk60,otk60,itk60,mtk60,rtk60_,ltk60,Htk60⟩:=que rx8.v rx8.d (i:=0) (by omega);refine sdo (v:=pA btk60 (otk60+0*11)) A (qk (k:=0) f9 (by kernel_rfl) rfl rfl (by first|rfl|omega) ltk60 (by omega)) λA=>?_;refine sdo A (zp M Htk60 zv rfl rfl) λA=>?_;have co:flT (ps.map Sp.k) 8=some tk60.tr:=qvh hps8 (yg ix8) (show(x8.vs.map Dt.tr)[0]?=some tk60.tr by rw[List.getElem?_map,itk60]; rfl);have hlf8:=flen8 _ co;refine gcl A M ec (hRf tk60 _ (Dt.keep M.bel _ rtk60_) ⟨x8,mx8,mtk60⟩ (.inl co)) fun _ _ M a A=>?_;refine sdm A λA=>?_;iterate 2 refine sde A λA=>?_
   iterate 2 refine sda A λA=>?_
   refine qa (cn _ _ (wrl ?_));iterate 2 refine sdm A λA=>?_
   refine sdo (v:=.string (⟨([32,105,110,32]++(f tk60.tr)).toArray⟩)) A (qb rfl rfl (yy (a:=[32,105,110,32]) (b:=(f tk60.tr)) (by simp only[fw,fx]; omega))) λA=>?_;refine sdo (v:=.string (⟨(sa++([32,105,110,32]++(f tk60.tr))).toArray⟩)) A (qb rfl rfl (yy (a:=sa) (b:=([32,105,110,32]++(f tk60.tr))) (by rw[fv]; simp only[fw,fx]; omega))) λA=>?_;refine sda A λA=>?_;refine qa ?_;exact aq _ _ ⟨(sa++([32,105,110,32]++f tk60.tr)),(by rw[co,hsa]; rfl),A.keep _ (by repeat' constructor),M⟩
  ·have ae':=fy ae;refine sdc A zt ae λA=>?_;refine qcf ax A ?_;refine wp_skip ?_;exact aq _ _ ⟨sa,(by rw[qrc (show ¬0≤fdI (ps.map Sp.k) 8 by omega),hsa]; exact(gh _).symm),A.keep _ (by repeat' constructor),M⟩
 refine wsr fun _ ay=>sdm A λA=>?_;rcases tf (decide (0≤fdI (ps.map Sp.k) 3))with af|af
 ·have af':=f5 af;refine sdc A zt af λA=>?_;refine qct ay A ?_;refine wrl ?_;iterate 2 refine sdm A λA=>?_
  have am:=qyf (fun k:Int×List Tr=>yn k.1 3) (ps.map Sp.k);rw[gy]at am;replace am:-1≤fdI (ps.map Sp.k) 3∧fdI (ps.map Sp.k) 3<((ps.length:Nat):Int):=am;have hps3:0≤fdI (ps.map Sp.k) 3:=by omega
  obtain⟨x3,bx3,ox3,ix3,mx3,rx3,lx3,Hx3⟩:=hPs.at_ (i:=(fdI (ps.map Sp.k) 3).toNat) (by omega);refine sdo (v:=pA bx3 (ox3+(fdI (ps.map Sp.k) 3).toNat*2)) A (qk (k:=(fdI (ps.map Sp.k) 3).toNat) ic (by kernel_rfl) rfl rfl (by first|rfl|omega) lx3 (by omega)) λA=>?_;refine sdo (v:=pA bx3 (ox3+(fdI (ps.map Sp.k) 3).toNat*2)) A (qp qch rfl rfl) λA=>?_;refine sdo A (xl (j:=0) M Hx3 o93 rfl rfl rfl) λA=>?_;refine gcl A M ec (qrf) fun _ hbn M a A=>?_;refine sda A λA=>?_;refine qa ?_;exact ap _ _ ⟨(kat x3.ty).nm.data.toList,(by rw[jea hps3 (yg ix3)]; rfl),A.keep _ (by repeat' constructor),M⟩
 ·have af':=fy af;refine sdc A zt af λA=>?_;refine qcf ay A ?_;refine wp_skip ?_;exact ap _ _ ⟨[99,111,110,100,105,116,105,111,110],(by rw[joa (by omega)]; rfl),A.keep _ (by repeat' constructor),M⟩
theorem jif{w:World}{so:Option Addr}{ca:Nat}{ps:List Sp}(hPs:PR w so ps)(hl:ps.length≤1000000000)(hck:ckC (ps.map Sp.k)≠0)(hB4:∀p∈ps,Tr.bulks (p.vs.map Dt.tr)≤3000000):Calls Tryz.prog 8 #[.slice so ps.length ca] w (RB w (.tuple #[.string ⟨#[]⟩,iV (ckC (ps.map Sp.k))])):=by
 have M:=Mg.start w;refine wof Tryz.func8 Tryz.ntmps8 fun Q hret hnorm hP a A=>?_;refine wsr fun _ aa=>?_;iterate 2 refine sda A λA=>?_
 refine qwr aa fun _ ab=>sdm A λA=>?_;refine gcl A M ec (zai (hPs.below M.bel) hB4 hl) fun _ hbc M a A=>?_;refine sda A λA=>?_;refine qwk ab fun K4 _=>wsr fun _ ac=>sdm A λA=>?_;refine sdo (v:=bV true) A (qb rfl rfl (fun w=>(zh w).trans (by rw[show((ckC (ps.map Sp.k) != 0))=true from(iy.2 hck)]))) λA=>?_;refine qct ac A ?_;refine wsr fun _ ae=>sdm A λA=>?_;iterate 2 refine sda A λA=>?_
 refine qa (ae _ _ (wp_ret (hret _ _ (en2 A rfl (qf rfl) (qf rfl) ?_))));exact⟨rfl,M.bel⟩
end Go.Proofs.YtmnlfahgklnpeaaGreatDoor.G
namespace Go.Proofs.YtmnlfahgklnpeaaGreatDoor.C
open Go.RowKit

def qph(r:Int):Bool:=decide ((r≠304∧r≠305∧256≤r∧r≤311)∨(330≤r∧r≤375))
def zlf(r:Int):Bool:=decide ((313≤r∧r≤328)∨(377≤r∧r≤382))
def yz(r:Int):Int:=
  if 97≤r∧r≤122 then 32
  else if 224≤r∧r≤254∧r≠247 then 32
  else if qph r=true∧r%2=1 then 1
  else if zlf r=true∧r%2=0 then 1
  else if 945≤r∧r≤969∧r≠962 then 32
  else if 1072≤r∧r≤1103 then 32
  else if 1104≤r∧r≤1119 then 80
  else 0

def uu(r:Int):Int:=
  if yz (wrap32 (r+1))=1 then 1 else if yz (wrap32 (r+32))=32 then 32 else if yz (wrap32 (r+80))=80 then 80 else 0
def vp(r:Int):Bool:=decide (r=170∨r=181∨r=186∨r=223∨r=255∨r=304∨r=305∨r=312∨r=329∨r=376∨r=383∨r=962)
def xm(r:Int):Bool:=decide (yz r≠0∨uu r≠0)||vp r
def blankB(r:Int):Bool:=decide (r=9∨r=10∨r=11∨r=12∨r=13∨r=32∨r=133∨r=160∨r=8232∨r=8233)

def qhg(r:Int):Int:=if yz r=0 then 0 else r-yz r
def qjd(r:Int):Int:=if uu r=0 then 0 else r+uu r

theorem ub(r:Int)(h:r<97∨1119<r):yz r=0:=by
  unfold yz qph zlf;simp only[decide_eq_true_eq];rw[f7 (by omega),f7 (by omega),f7 (by omega),f7 (by omega),f7 (by omega),f7 (by omega),f7 (by omega)]
theorem qff(x:Int)(h0:-2147483648≤x)(h1:x≤2147483647):wrap32 x=x:=by unfold wrap32; omega
theorem zlg(r k:Int)(h0:-2147483648≤r)(h1:r≤2147483647)(hk:0≤k)(hk':k≤80):yz (wrap32 (r+k))=yz (r+k):=by
  by_cases h:r+k≤2147483647
  · rw[qff _ (by omega) h]
  · rw[ub (wrap32 (r+k)) (by unfold wrap32; omega),ub (r+k) (by omega)]
def qri(r:Int):Int:=if yz (r+1)=1 then 1 else if yz (r+32)=32 then 32 else if yz (r+80)=80 then 80 else 0
theorem jig(r:Int)(h0:-2147483648≤r)(h1:r≤2147483647):uu r=qri r:=by
  unfold uu qri;rw[zlg r 1 h0 h1 (by omega) (by omega),zlg r 32 h0 h1 (by omega) (by omega),zlg r 80 h0 h1 (by omega) (by omega)]
theorem zyj(r:Int)(h:r<17∨1119<r):qri r=0:=by
  unfold qri;rw[ub (r+1) (by omega),f7 (by omega)];by_cases a:r+32<97∨1119<r+32
  · rw[ub (r+32) a,f7 (by omega)];rw[ub (r+80) (by omega),f7 (by omega)]
  · omega

theorem qkg(r:Int):(qph r=true)=((r≠304∧r≠305∧256≤r∧r≤311)∨(330≤r∧r≤375)):=by simp[qph]
theorem zlh(r:Int):(qph r=false)=¬((r≠304∧r≠305∧256≤r∧r≤311)∨(330≤r∧r≤375)):=by rw[←qkg]; simp
theorem qrj(r:Int):(zlf r=true)=((313≤r∧r≤328)∨(377≤r∧r≤382)):=by simp[zlf]
theorem zza(r:Int):(zlf r=false)=¬((313≤r∧r≤328)∨(377≤r∧r≤382)):=by rw[←qrj]; simp

theorem qhh(r:Int):
    (yz r=32∧((97≤r∧r≤122)∨(224≤r∧r≤254∧r≠247)∨(945≤r∧r≤969∧r≠962)∨(1072≤r∧r≤1103)))
    ∨ (yz r = 1 ∧ ((((r ≠ 304 ∧ r ≠ 305 ∧ 256 ≤ r ∧ r ≤ 311) ∨ (330 ≤ r ∧ r ≤ 375)) ∧ r % 2 = 1) ∨ (((313 ≤ r ∧ r ≤ 328) ∨ (377 ≤ r ∧ r ≤ 382)) ∧ r % 2 = 0)))
    ∨ (yz r = 80 ∧ 1104 ≤ r ∧ r ≤ 1119)
    ∨ (yz r = 0 ∧ ¬ (97 ≤ r ∧ r ≤ 122) ∧ ¬ (224 ≤ r ∧ r ≤ 254 ∧ r ≠ 247) ∧ ¬ (945 ≤ r ∧ r ≤ 969 ∧ r ≠ 962) ∧ ¬ (1072 ≤ r ∧ r ≤ 1119)
        ∧ ¬ (((r ≠ 304 ∧ r ≠ 305 ∧ 256 ≤ r ∧ r ≤ 311) ∨ (330 ≤ r ∧ r ≤ 375)) ∧ r % 2 = 1) ∧ ¬ (((313 ≤ r ∧ r ≤ 328) ∨ (377 ≤ r ∧ r ≤ 382)) ∧ r % 2 = 0)) := by
  unfold yz;simp only[qkg,qrj]
  split
  · omega
  · split
    · omega
    · split
      · omega
      · split
        · omega
        · split
          · omega
          · split
            · omega
            · split<;>omega

def SmallAt(r s:Int):Prop:=
    (s=1∧((((r≠304∧256≤r∧r≤310)∨(330≤r∧r≤374))∧r%2=0)∨(((313≤r∧r≤327)∨(377≤r∧r≤381))∧r%2=1)))
    ∨ (s = 32 ∧ ((65 ≤ r ∧ r ≤ 90) ∨ (192 ≤ r ∧ r ≤ 222 ∧ r ≠ 215) ∨ (913 ≤ r ∧ r ≤ 937 ∧ r ≠ 930) ∨ (1040 ≤ r ∧ r ≤ 1071)))
    ∨ (s = 80 ∧ 1024 ≤ r ∧ r ≤ 1039)
    ∨ (s = 0 ∧ ¬ (65 ≤ r ∧ r ≤ 90) ∧ ¬ (192 ≤ r ∧ r ≤ 222 ∧ r ≠ 215) ∧ ¬ (913 ≤ r ∧ r ≤ 937 ∧ r ≠ 930) ∧ ¬ (1024 ≤ r ∧ r ≤ 1071)
        ∧ ¬ (((r ≠ 304 ∧ 256 ≤ r ∧ r ≤ 310) ∨ (330 ≤ r ∧ r ≤ 374)) ∧ r % 2 = 0) ∧ ¬ (((313 ≤ r ∧ r ≤ 327) ∨ (377 ≤ r ∧ r ≤ 381)) ∧ r % 2 = 1))
def zzb(r:Int):Int:=
  if(((r≠304∧256≤r∧r≤310)∨(330≤r∧r≤374))∧r%2=0)∨(((313≤r∧r≤327)∨(377≤r∧r≤381))∧r%2=1)then 1
  else if(65≤r∧r≤90)∨(192≤r∧r≤222∧r≠215)∨(913≤r∧r≤937∧r≠930)∨(1040≤r∧r≤1071)then 32
  else if 1024≤r∧r≤1039 then 80 else 0
theorem zzc: ∀k:Nat,k<1200→qri (k:Int)=zzb (k:Int):=by decide +kernel
theorem zli(r:Int):SmallAt r (zzb r):=by
  unfold zzb SmallAt
  split
  · omega
  · split
    · omega
    · split<;>omega
theorem zlj(r:Int):SmallAt r (qri r):=by
  by_cases h:0≤r∧r<1200
  · have:=zzc r.toNat (by omega);rw[Int.toNat_of_nonneg h.1]at this;rw[this];exact zli r
  · rw[zyj r (by omega)];unfold SmallAt;omega
theorem ux{k:IntKind}{a b:Int}(h:a=b):Ending.returned (.int k a)=.returned (.int k b):=by rw[h]
theorem jg{a b:Bool}(h:a=b):Ending.returned (.bool a)=.returned (.bool b):=by rw[h]
theorem zba(r:Int)(w:World):
    Calls Tryz.prog 288 #[.int .i32 r] w fun e w'=>e=.returned (.bool (qph r))∧w'=w:=by
  go_enter Tryz.func288,Tryz.ntmps288
  go_wp2
  all_goals go_ret
  all_goals refine⟨jg ?_,rfl⟩
  all_goals (unfold qph; rw[Bool.eq_iff_iff]; simp at *; omega)
theorem qdj(r:Int)(w:World):
    Calls Tryz.prog 289 #[.int .i32 r] w fun e w'=>e=.returned (.bool (zlf r))∧w'=w:=by
  go_enter Tryz.func289,Tryz.ntmps289
  go_wp2
  all_goals go_ret
  all_goals refine⟨jg ?_,rfl⟩
  all_goals (unfold zlf; rw[Bool.eq_iff_iff]; simp at *; try omega)
theorem jih(r:Int)(w:World):
    Calls Tryz.prog 329 #[.int .i32 r] w fun e w'=>e=.returned (.bool (vp r))∧w'=w:=by
  go_enter Tryz.func329,Tryz.ntmps329
  go_wp2
  all_goals go_ret
  all_goals refine⟨jg ?_,rfl⟩
  all_goals (unfold vp; rw[Bool.eq_iff_iff]; simp at *; try omega)
theorem blank_any(r:Int)(w:World):
    Calls Tryz.prog 244 #[.int .i32 r] w fun e w'=>e=.returned (.bool (blankB r))∧w'=w:=by
  go_enter Tryz.func244,Tryz.ntmps244
  go_wp2
  all_goals go_ret
  all_goals refine⟨jg ?_,rfl⟩
  all_goals (unfold blankB; rw[Bool.eq_iff_iff]; simp at *; try omega)
theorem jeh(r:Int)(w:World):
    Calls Tryz.prog 256 #[.int .i32 r] w fun e w'=>e=.returned (.int .i32 (yz r))∧w'=w:=by
  have HC:Hid _:=qhh r;have h0:qph r=true→0≤r:=by rw[qkg]; omega
  have h1:zlf r=true→0≤r:=by rw[qrj]; omega
  by_cases he:qph r=true
  · have hr:=h0 he;clear h0 h1
    go_enter Tryz.func256,Tryz.ntmps256
    go_wp2_with (first|(go_at_call 288; refine(zba _ _).mono ?_; rintro e w' ⟨rfl,rfl⟩)|(go_at_call 289; refine(qdj _ _).mono ?_; rintro e w' ⟨rfl,rfl⟩))
    all_goals go_ret
    all_goals refine⟨ux ?_,rfl⟩
    all_goals (have hc:=HC.out; go_light; simp only[qkg,qrj,zlh,zza,Bool.not_eq_true,beq_iff_eq,iy,beq_eq_false_iff_ne,ie,ne_eq]at *; omega)
  · by_cases ho:zlf r=true
    · have hr:=h1 ho;clear h0 h1
      go_enter Tryz.func256,Tryz.ntmps256
      go_wp2_with (first|(go_at_call 288; refine(zba _ _).mono ?_; rintro e w' ⟨rfl,rfl⟩)|(go_at_call 289; refine(qdj _ _).mono ?_; rintro e w' ⟨rfl,rfl⟩))
      all_goals go_ret
      all_goals refine⟨ux ?_,rfl⟩
      all_goals (have hc:=HC.out; go_light; simp only[qkg,qrj,zlh,zza,Bool.not_eq_true,beq_iff_eq,iy,beq_eq_false_iff_ne,ie,ne_eq]at *; omega)
    · clear h0 h1
      go_enter Tryz.func256,Tryz.ntmps256
      go_wp2_with (first|(go_at_call 288; refine(zba _ _).mono ?_; rintro e w' ⟨rfl,rfl⟩)|(go_at_call 289; refine(qdj _ _).mono ?_; rintro e w' ⟨rfl,rfl⟩))
      all_goals go_ret
      all_goals refine⟨ux ?_,rfl⟩
      all_goals (have hc:=HC.out; go_light; simp only[qkg,qrj,zlh,zza,Bool.not_eq_true,beq_iff_eq,iy,beq_eq_false_iff_ne,ie,ne_eq]at *; omega)
theorem zzd(r:Int)(w:World):
    Calls Tryz.prog 255 #[.int .i32 r] w fun e w'=>e=.returned (.int .i32 (uu r))∧w'=w:=by
  go_enter Tryz.func255,Tryz.ntmps255
  go_wp2_with (go_at_call 256; refine(jeh _ _).mono ?_; rintro e w' ⟨rfl,rfl⟩)
  all_goals go_ret
  all_goals refine⟨ux ?_,rfl⟩
  all_goals (unfold uu; simp at *; simp[*])
theorem zze(r:Int)(w:World):
    Calls Tryz.prog 310 #[.int .i32 r] w fun e w'=>e=.returned (.bool (xm r))∧w'=w:=by
  go_enter Tryz.func310,Tryz.ntmps310
  go_wp2_with (first|(go_at_call 256; refine(jeh _ _).mono ?_; rintro e w' ⟨rfl,rfl⟩)|(go_at_call 255; refine(zzd _ _).mono ?_; rintro e w' ⟨rfl,rfl⟩)|(go_at_call 329; refine(jih _ _).mono ?_; rintro e w' ⟨rfl,rfl⟩))
  all_goals go_ret
  all_goals refine⟨jg ?_,rfl⟩
  all_goals (unfold xm; simp at *; first|omega|simp[*])
theorem qdc(r:Int):(yz r=0∧qhg r=0)∨(yz r≠0∧qhg r=r-yz r):=by
  unfold qhg
  split<;>omega
theorem ko(r:Int)(w:World):
    Calls Tryz.prog 226 #[.int .i32 r] w fun e w'=>e=.returned (.int .i32 (qhg r))∧w'=w:=by
  by_cases hr:97≤r
  · have HC:Hid _:=qhh r;have HD:Hid _:=qdc r
    go_enter Tryz.func226,Tryz.ntmps226
    go_wp2
    all_goals go_ret
    all_goals refine⟨ux ?_,rfl⟩
    all_goals (have hc:=HC.out; have hd:=HD.out; go_light; simp only[Bool.not_eq_true,beq_iff_eq,iy,beq_eq_false_iff_ne,ie,ne_eq]at *; first|omega|(subst_vars; rfl))
  · have h1:r<97:=(by omega);have HD:Hid (qhg r=0):=by
      have a:=ub r (Or.inl h1);have b:=qdc r;exact b.elim (fun x=>x.2) (fun x=>absurd a x.1)
    clear hr
    go_enter Tryz.func226,Tryz.ntmps226
    go_wp2
    all_goals go_ret
    all_goals exact⟨ux HD.out.symm,rfl⟩
def qsa(r b:Int):Bool:=(qhg (wrap32 (r+b)) != 0)&&(qhg (wrap32 (r+b))==r)
theorem qvi(r b:Int)(h0:-2147483648≤r)(h1:r≤2147483647)(hb:b=1∨b=32∨b=80):qsa r b=true↔yz (wrap32 (r+b))=b:=by
  unfold qsa;simp only[ig,iy,beq_iff_eq,ne_eq];by_cases h:r+b≤2147483647
  · rw[qff (r+b) (by omega) h];have hc:=qdc (r+b);have ho:r+b<97→yz (r+b)=0:=fun h=>ub _ (Or.inl h);have ho2:yz (r+b)=80→1104≤r+b:=by
      have:=qhh (r+b);omega
    constructor
    · intro hh; omega
    · intro hh; omega
  · have hx:yz (wrap32 (r+b))=0:=ub _ (by unfold wrap32; omega);have hc:=qdc (wrap32 (r+b));constructor
    · intro hh; omega
    · intro hh; omega
theorem zsb(r:Int)(h0:-2147483648≤r)(h1:r≤2147483647):
    qjd r=if qsa r 1=true then r+1 else if qsa r 32=true then r+32 else if qsa r 80=true then r+80 else 0:=by
  unfold qjd uu;simp only[qvi r 1 h0 h1 (by simp),qvi r 32 h0 h1 (by simp),qvi r 80 h0 h1 (by simp)]
  split
  · simp
  · split
    · simp
    · split<;>simp
theorem zma(r b:Int)(h0:-2147483648≤r)(h1:r≤2147483647)(hb:b=1∨b=32∨b=80)(h:qsa r b=true):r+b≤1119:=by
  rw[qvi r b h0 h1 hb]at h;by_cases h2:r+b≤1119
  · exact h2
  · exfalso;have:yz (wrap32 (r+b))=0:=ub _ (by unfold wrap32; omega);omega
theorem qsb(r b:Int):(qsa r b=true∧(qhg (wrap32 (r+b)) != 0)=true∧(qhg (wrap32 (r+b))==r)=true)∨(qsa r b=false∧(qhg (wrap32 (r+b)) != 0)=false)∨(qsa r b=false∧(qhg (wrap32 (r+b)) != 0)=true∧(qhg (wrap32 (r+b))==r)=false):=by
  unfold qsa;cases (qhg (wrap32 (r+b)) != 0)<;>cases (qhg (wrap32 (r+b))==r)<;>simp
theorem zzf(r:Int)(h0:-2147483648≤r)(h1:r≤2147483647)(w:World):
    Calls Tryz.prog 225 #[.int .i32 r] w fun e w'=>e=.returned (.int .i32 (qjd r))∧Below w.heap.size w w':=by
  have HS:Hid _:=zsb r h0 h1;have HL:Hid _:=zma r 1 h0 h1 (by simp);have HL2:Hid _:=zma r 32 h0 h1 (by simp);have HL3:Hid _:=zma r 80 h0 h1 (by simp);have h0:Hid _:=h0;have h1:Hid _:=h1
  go_enter Tryz.func225,Tryz.ntmps225
  go_wp2
  go_loop [8] (fun i=>∃k:Nat,k≤3∧i=.int .i64 k∧(1≤k→qsa r 1=false)∧(2≤k→qsa r 32=false)∧(3≤k→qsa r 80=false)) (fun i=>3-(intOf i).toNat)
  case atStart=>exact⟨0,by omega,rfl,by simp,by simp,by simp⟩
  case round=>
    obtain⟨k,hk,rfl,g1,g2,g3⟩:=hrel;obtain rfl|rfl|rfl|rfl:k=0∨k=1∨k=2∨k=3:=by omega
    · clear g1 g2 g3;rcases qsb r 1 with⟨H,a,b⟩|⟨H,a⟩|⟨H,a,b⟩;all_goals (have HH:Hid _:=H; clear H)
      · go_wp2_with (go_at_call 226; refine(ko _ _).mono ?_; rintro e w' ⟨rfl,rfl⟩)
        go_ret
        refine⟨ux ?_,(Below.refl _ _).alloc (gm _) _⟩;have hb:=HL.out HH.out;rw[HS.out,gj HH.out,qff _ (by have:=h0.out; omega) (by omega)]
      · go_wp2_with (go_at_call 226; refine(ko _ _).mono ?_; rintro e w' ⟨rfl,rfl⟩)
        go_round
        case rel=>exact⟨1,by omega,by go_num,by simp[HH.out],by simp,by simp⟩
        case measure=>simp[intOf]
      · go_wp2_with (go_at_call 226; refine(ko _ _).mono ?_; rintro e w' ⟨rfl,rfl⟩)
        go_round
        case rel=>exact⟨1,by omega,by go_num,by simp[HH.out],by simp,by simp⟩
        case measure=>simp[intOf]
    · have G1:Hid _:=g1 (by omega);clear g1 g2 g3;rcases qsb r 32 with⟨H,a,b⟩|⟨H,a⟩|⟨H,a,b⟩;all_goals (have HH:Hid _:=H; clear H)
      · go_wp2_with (go_at_call 226; refine(ko _ _).mono ?_; rintro e w' ⟨rfl,rfl⟩)
        go_ret
        refine⟨ux ?_,(Below.refl _ _).alloc (gm _) _⟩;have hb:=HL2.out HH.out;rw[HS.out,f7 (by simp[G1.out]),gj HH.out,qff _ (by have:=h0.out; omega) (by omega)]
      · go_wp2_with (go_at_call 226; refine(ko _ _).mono ?_; rintro e w' ⟨rfl,rfl⟩)
        go_round
        case rel=>exact⟨2,by omega,by go_num,fun _=>G1.out,by simp[HH.out],by simp⟩
        case measure=>simp[intOf]
      · go_wp2_with (go_at_call 226; refine(ko _ _).mono ?_; rintro e w' ⟨rfl,rfl⟩)
        go_round
        case rel=>exact⟨2,by omega,by go_num,fun _=>G1.out,by simp[HH.out],by simp⟩
        case measure=>simp[intOf]
    · have G1:Hid _:=g1 (by omega);have G2:Hid _:=g2 (by omega);clear g1 g2 g3;rcases qsb r 80 with⟨H,a,b⟩|⟨H,a⟩|⟨H,a,b⟩;all_goals (have HH:Hid _:=H; clear H)
      · go_wp2_with (go_at_call 226; refine(ko _ _).mono ?_; rintro e w' ⟨rfl,rfl⟩)
        go_ret
        refine⟨ux ?_,(Below.refl _ _).alloc (gm _) _⟩;have hb:=HL3.out HH.out;rw[HS.out,f7 (by simp[G1.out]),f7 (by simp[G2.out]),gj HH.out,qff _ (by have:=h0.out; omega) (by omega)]
      · go_wp2_with (go_at_call 226; refine(ko _ _).mono ?_; rintro e w' ⟨rfl,rfl⟩)
        go_round
        case rel=>exact⟨3,by omega,by go_num,fun _=>G1.out,fun _=>G2.out,by simp[HH.out]⟩
        case measure=>simp[intOf]
      · go_wp2_with (go_at_call 226; refine(ko _ _).mono ?_; rintro e w' ⟨rfl,rfl⟩)
        go_round
        case rel=>exact⟨3,by omega,by go_num,fun _=>G1.out,fun _=>G2.out,by simp[HH.out]⟩
        case measure=>simp[intOf]
    · have G1:Hid _:=g1 (by omega);have G2:Hid _:=g2 (by omega);have G3:Hid _:=g3 (by omega);clear g1 g2 g3
      go_wp2
      go_ret
      refine⟨ux ?_,(Below.refl _ _).alloc (gm _) _⟩;rw[HS.out,f7 (by simp[G1.out]),f7 (by simp[G2.out]),f7 (by simp[G3.out])]
theorem zmb(r:Int):(uu r=0∧qjd r=0)∨(uu r≠0∧qjd r=r+uu r):=by
  unfold qjd
  split<;>omega
theorem zsc(r:Int)(h0:-2147483648≤r)(h1:r≤2147483647):qjd r=0↔uu r=0:=by
  have a:=zmb r;have b:=zlj r;rw[jig r h0 h1]at *
  unfold SmallAt at b;omega
theorem rblank_any(r:Int)(w:World):
    Calls Tryz.prog 154 #[.int .i32 r] w fun e w'=>e=.returned (.bool (blankB r))∧w'=w:=by
  go_enter Tryz.func154,Tryz.ntmps154
  go_wp2
  all_goals go_ret
  all_goals refine⟨jg ?_,rfl⟩
  all_goals (go_light; unfold blankB; rw[Bool.eq_iff_iff]; simp only[Bool.or_eq_true,ig,decide_eq_true_eq,beq_iff_eq,beq_eq_false_iff_ne,ne_eq,Bool.false_eq_true,true_iff,false_iff]at *; omega)
theorem vw(r:Int):vp r=true↔(r=170∨r=181∨r=186∨r=223∨r=255∨r=304∨r=305∨r=312∨r=329∨r=376∨r=383∨r=962):=by unfold vp; simp
theorem jrg(r:Int)(h:r≠170∧r≠181∧r≠186∧r≠223∧r≠255∧r≠304∧r≠305∧r≠312∧r≠329∧r≠376∧r≠383∧r≠962):vp r=false:=by unfold vp; simp; omega
theorem zsd(r:Int)(h0:-2147483648≤r)(h1:r≤2147483647)(w:World):
    Calls Tryz.prog 206 #[.int .i32 r] w fun e w'=>e=.returned (.bool (xm r))∧Below w.heap.size w w':=by
  have HC:Hid _:=qdc r;have HB:Hid _:=qhh r;have HY:Hid _:=zsc r h0 h1;have H0:Hid _:=h0;have H1:Hid _:=h1;clear h0 h1
  go_enter Tryz.func206,Tryz.ntmps206
  go_wp2
  go_loop [7] (fun i=>∃k:Nat,k≤12∧i=.int .i64 k∧Hid ((1≤k→r≠170)∧(2≤k→r≠181)∧(3≤k→r≠186)∧(4≤k→r≠223)∧(5≤k→r≠255)∧(6≤k→r≠304)∧(7≤k→r≠305)∧(8≤k→r≠312)∧(9≤k→r≠329)∧(10≤k→r≠376)∧(11≤k→r≠383)∧(12≤k→r≠962))) (fun i=>12-(intOf i).toNat)
  case atStart=>exact⟨0,by omega,rfl,by show(1≤0→r≠170)∧(2≤0→r≠181)∧(3≤0→r≠186)∧(4≤0→r≠223)∧(5≤0→r≠255)∧(6≤0→r≠304)∧(7≤0→r≠305)∧(8≤0→r≠312)∧(9≤0→r≠329)∧(10≤0→r≠376)∧(11≤0→r≠383)∧(12≤0→r≠962); simp⟩
  case round=>
    obtain⟨k,hk,rfl,G⟩:=hrel;obtain rfl|rfl|rfl|rfl|rfl|rfl|rfl|rfl|rfl|rfl|rfl|rfl|rfl:k=0∨k=1∨k=2∨k=3∨k=4∨k=5∨k=6∨k=7∨k=8∨k=9∨k=10∨k=11∨k=12:=by omega
    · by_cases e1:r=170
      · have E:Hid (r=170):=e1;have q:(r==170)=true:=(by simp[e1]);clear e1
        go_wp2
        all_goals go_ret
        all_goals refine⟨jg ?_,(Below.refl _ _).alloc (gm _) _⟩
        all_goals (have e2:vp r=true:=(vw r).2 (by have:=E.out; omega); unfold xm; rw[e2]; simp)
      · have E:Hid (¬r=170):=e1;have q:(r==170)=false:=(by simp[e1]);clear e1
        go_wp2
        go_round
        case rel=>
          refine⟨1,by omega,by go_num,?_⟩;have g:=G.out;have e:=E.out;show(1≤1→r≠170)∧(2≤1→r≠181)∧(3≤1→r≠186)∧(4≤1→r≠223)∧(5≤1→r≠255)∧(6≤1→r≠304)∧(7≤1→r≠305)∧(8≤1→r≠312)∧(9≤1→r≠329)∧(10≤1→r≠376)∧(11≤1→r≠383)∧(12≤1→r≠962);omega
        case measure=>simp[intOf]
    · by_cases e1:r=181
      · have E:Hid (r=181):=e1;have q:(r==181)=true:=(by simp[e1]);clear e1
        go_wp2
        all_goals go_ret
        all_goals refine⟨jg ?_,(Below.refl _ _).alloc (gm _) _⟩
        all_goals (have e2:vp r=true:=(vw r).2 (by have:=E.out; omega); unfold xm; rw[e2]; simp)
      · have E:Hid (¬r=181):=e1;have q:(r==181)=false:=(by simp[e1]);clear e1
        go_wp2
        go_round
        case rel=>
          refine⟨2,by omega,by go_num,?_⟩;have g:=G.out;have e:=E.out;show(1≤2→r≠170)∧(2≤2→r≠181)∧(3≤2→r≠186)∧(4≤2→r≠223)∧(5≤2→r≠255)∧(6≤2→r≠304)∧(7≤2→r≠305)∧(8≤2→r≠312)∧(9≤2→r≠329)∧(10≤2→r≠376)∧(11≤2→r≠383)∧(12≤2→r≠962);omega
        case measure=>simp[intOf]
    · by_cases e1:r=186
      · have E:Hid (r=186):=e1;have q:(r==186)=true:=(by simp[e1]);clear e1
        go_wp2
        all_goals go_ret
        all_goals refine⟨jg ?_,(Below.refl _ _).alloc (gm _) _⟩
        all_goals (have e2:vp r=true:=(vw r).2 (by have:=E.out; omega); unfold xm; rw[e2]; simp)
      · have E:Hid (¬r=186):=e1;have q:(r==186)=false:=(by simp[e1]);clear e1
        go_wp2
        go_round
        case rel=>
          refine⟨3,by omega,by go_num,?_⟩;have g:=G.out;have e:=E.out;show(1≤3→r≠170)∧(2≤3→r≠181)∧(3≤3→r≠186)∧(4≤3→r≠223)∧(5≤3→r≠255)∧(6≤3→r≠304)∧(7≤3→r≠305)∧(8≤3→r≠312)∧(9≤3→r≠329)∧(10≤3→r≠376)∧(11≤3→r≠383)∧(12≤3→r≠962);omega
        case measure=>simp[intOf]
    · by_cases e1:r=223
      · have E:Hid (r=223):=e1;have q:(r==223)=true:=(by simp[e1]);clear e1
        go_wp2
        all_goals go_ret
        all_goals refine⟨jg ?_,(Below.refl _ _).alloc (gm _) _⟩
        all_goals (have e2:vp r=true:=(vw r).2 (by have:=E.out; omega); unfold xm; rw[e2]; simp)
      · have E:Hid (¬r=223):=e1;have q:(r==223)=false:=(by simp[e1]);clear e1
        go_wp2
        go_round
        case rel=>
          refine⟨4,by omega,by go_num,?_⟩;have g:=G.out;have e:=E.out;show(1≤4→r≠170)∧(2≤4→r≠181)∧(3≤4→r≠186)∧(4≤4→r≠223)∧(5≤4→r≠255)∧(6≤4→r≠304)∧(7≤4→r≠305)∧(8≤4→r≠312)∧(9≤4→r≠329)∧(10≤4→r≠376)∧(11≤4→r≠383)∧(12≤4→r≠962);omega
        case measure=>simp[intOf]
    · by_cases e1:r=255
      · have E:Hid (r=255):=e1;have q:(r==255)=true:=(by simp[e1]);clear e1
        go_wp2
        all_goals go_ret
        all_goals refine⟨jg ?_,(Below.refl _ _).alloc (gm _) _⟩
        all_goals (have e2:vp r=true:=(vw r).2 (by have:=E.out; omega); unfold xm; rw[e2]; simp)
      · have E:Hid (¬r=255):=e1;have q:(r==255)=false:=(by simp[e1]);clear e1
        go_wp2
        go_round
        case rel=>
          refine⟨5,by omega,by go_num,?_⟩;have g:=G.out;have e:=E.out;show(1≤5→r≠170)∧(2≤5→r≠181)∧(3≤5→r≠186)∧(4≤5→r≠223)∧(5≤5→r≠255)∧(6≤5→r≠304)∧(7≤5→r≠305)∧(8≤5→r≠312)∧(9≤5→r≠329)∧(10≤5→r≠376)∧(11≤5→r≠383)∧(12≤5→r≠962);omega
        case measure=>simp[intOf]
    · by_cases e1:r=304
      · have E:Hid (r=304):=e1;have q:(r==304)=true:=(by simp[e1]);clear e1
        go_wp2
        all_goals go_ret
        all_goals refine⟨jg ?_,(Below.refl _ _).alloc (gm _) _⟩
        all_goals (have e2:vp r=true:=(vw r).2 (by have:=E.out; omega); unfold xm; rw[e2]; simp)
      · have E:Hid (¬r=304):=e1;have q:(r==304)=false:=(by simp[e1]);clear e1
        go_wp2
        go_round
        case rel=>
          refine⟨6,by omega,by go_num,?_⟩;have g:=G.out;have e:=E.out;show(1≤6→r≠170)∧(2≤6→r≠181)∧(3≤6→r≠186)∧(4≤6→r≠223)∧(5≤6→r≠255)∧(6≤6→r≠304)∧(7≤6→r≠305)∧(8≤6→r≠312)∧(9≤6→r≠329)∧(10≤6→r≠376)∧(11≤6→r≠383)∧(12≤6→r≠962);omega
        case measure=>simp[intOf]
    · by_cases e1:r=305
      · have E:Hid (r=305):=e1;have q:(r==305)=true:=(by simp[e1]);clear e1
        go_wp2
        all_goals go_ret
        all_goals refine⟨jg ?_,(Below.refl _ _).alloc (gm _) _⟩
        all_goals (have e2:vp r=true:=(vw r).2 (by have:=E.out; omega); unfold xm; rw[e2]; simp)
      · have E:Hid (¬r=305):=e1;have q:(r==305)=false:=(by simp[e1]);clear e1
        go_wp2
        go_round
        case rel=>
          refine⟨7,by omega,by go_num,?_⟩;have g:=G.out;have e:=E.out;show(1≤7→r≠170)∧(2≤7→r≠181)∧(3≤7→r≠186)∧(4≤7→r≠223)∧(5≤7→r≠255)∧(6≤7→r≠304)∧(7≤7→r≠305)∧(8≤7→r≠312)∧(9≤7→r≠329)∧(10≤7→r≠376)∧(11≤7→r≠383)∧(12≤7→r≠962);omega
        case measure=>simp[intOf]
    · by_cases e1:r=312
      · have E:Hid (r=312):=e1;have q:(r==312)=true:=(by simp[e1]);clear e1
        go_wp2
        all_goals go_ret
        all_goals refine⟨jg ?_,(Below.refl _ _).alloc (gm _) _⟩
        all_goals (have e2:vp r=true:=(vw r).2 (by have:=E.out; omega); unfold xm; rw[e2]; simp)
      · have E:Hid (¬r=312):=e1;have q:(r==312)=false:=(by simp[e1]);clear e1
        go_wp2
        go_round
        case rel=>
          refine⟨8,by omega,by go_num,?_⟩;have g:=G.out;have e:=E.out;show(1≤8→r≠170)∧(2≤8→r≠181)∧(3≤8→r≠186)∧(4≤8→r≠223)∧(5≤8→r≠255)∧(6≤8→r≠304)∧(7≤8→r≠305)∧(8≤8→r≠312)∧(9≤8→r≠329)∧(10≤8→r≠376)∧(11≤8→r≠383)∧(12≤8→r≠962);omega
        case measure=>simp[intOf]
    · by_cases e1:r=329
      · have E:Hid (r=329):=e1;have q:(r==329)=true:=(by simp[e1]);clear e1
        go_wp2
        all_goals go_ret
        all_goals refine⟨jg ?_,(Below.refl _ _).alloc (gm _) _⟩
        all_goals (have e2:vp r=true:=(vw r).2 (by have:=E.out; omega); unfold xm; rw[e2]; simp)
      · have E:Hid (¬r=329):=e1;have q:(r==329)=false:=(by simp[e1]);clear e1
        go_wp2
        go_round
        case rel=>
          refine⟨9,by omega,by go_num,?_⟩;have g:=G.out;have e:=E.out;show(1≤9→r≠170)∧(2≤9→r≠181)∧(3≤9→r≠186)∧(4≤9→r≠223)∧(5≤9→r≠255)∧(6≤9→r≠304)∧(7≤9→r≠305)∧(8≤9→r≠312)∧(9≤9→r≠329)∧(10≤9→r≠376)∧(11≤9→r≠383)∧(12≤9→r≠962);omega
        case measure=>simp[intOf]
    · by_cases e1:r=376
      · have E:Hid (r=376):=e1;have q:(r==376)=true:=(by simp[e1]);clear e1
        go_wp2
        all_goals go_ret
        all_goals refine⟨jg ?_,(Below.refl _ _).alloc (gm _) _⟩
        all_goals (have e2:vp r=true:=(vw r).2 (by have:=E.out; omega); unfold xm; rw[e2]; simp)
      · have E:Hid (¬r=376):=e1;have q:(r==376)=false:=(by simp[e1]);clear e1
        go_wp2
        go_round
        case rel=>
          refine⟨10,by omega,by go_num,?_⟩;have g:=G.out;have e:=E.out;show(1≤10→r≠170)∧(2≤10→r≠181)∧(3≤10→r≠186)∧(4≤10→r≠223)∧(5≤10→r≠255)∧(6≤10→r≠304)∧(7≤10→r≠305)∧(8≤10→r≠312)∧(9≤10→r≠329)∧(10≤10→r≠376)∧(11≤10→r≠383)∧(12≤10→r≠962);omega
        case measure=>simp[intOf]
    · by_cases e1:r=383
      · have E:Hid (r=383):=e1;have q:(r==383)=true:=(by simp[e1]);clear e1
        go_wp2
        all_goals go_ret
        all_goals refine⟨jg ?_,(Below.refl _ _).alloc (gm _) _⟩
        all_goals (have e2:vp r=true:=(vw r).2 (by have:=E.out; omega); unfold xm; rw[e2]; simp)
      · have E:Hid (¬r=383):=e1;have q:(r==383)=false:=(by simp[e1]);clear e1
        go_wp2
        go_round
        case rel=>
          refine⟨11,by omega,by go_num,?_⟩;have g:=G.out;have e:=E.out;show(1≤11→r≠170)∧(2≤11→r≠181)∧(3≤11→r≠186)∧(4≤11→r≠223)∧(5≤11→r≠255)∧(6≤11→r≠304)∧(7≤11→r≠305)∧(8≤11→r≠312)∧(9≤11→r≠329)∧(10≤11→r≠376)∧(11≤11→r≠383)∧(12≤11→r≠962);omega
        case measure=>simp[intOf]
    · by_cases e1:r=962
      · have E:Hid (r=962):=e1;have q:(r==962)=true:=(by simp[e1]);clear e1
        go_wp2
        all_goals go_ret
        all_goals refine⟨jg ?_,(Below.refl _ _).alloc (gm _) _⟩
        all_goals (have e2:vp r=true:=(vw r).2 (by have:=E.out; omega); unfold xm; rw[e2]; simp)
      · have E:Hid (¬r=962):=e1;have q:(r==962)=false:=(by simp[e1]);clear e1
        go_wp2
        go_round
        case rel=>
          refine⟨12,by omega,by go_num,?_⟩;have g:=G.out;have e:=E.out;show(1≤12→r≠170)∧(2≤12→r≠181)∧(3≤12→r≠186)∧(4≤12→r≠223)∧(5≤12→r≠255)∧(6≤12→r≠304)∧(7≤12→r≠305)∧(8≤12→r≠312)∧(9≤12→r≠329)∧(10≤12→r≠376)∧(11≤12→r≠383)∧(12≤12→r≠962);omega
        case measure=>simp[intOf]
    · have al:vp r=false:=jrg r (by have:=G.out; omega);have HA:Hid _:=al;clear al;by_cases hz:qhg r=0
      · have q:(qhg r != 0)=false:=(by simp[hz]);have HZ:Hid (qhg r=0):=hz;clear hz
        go_wp2_with (first|(go_at_call 226; refine(ko _ _).mono ?_; rintro e w' ⟨rfl,rfl⟩)|(go_at_call 225; refine(zzf _ H0.out H1.out _).mono ?_; rintro e w' ⟨rfl,hb⟩))
        go_ret
        refine⟨jg ?_,?_⟩
        · have h2:=HC.out;have h3:=HZ.out;have h4:=HB.out;have h5:=HY.out;have hc:yz r=0:=(by omega);unfold xm;rw[HA.out,hc];by_cases hs:uu r=0
          · rw[h5.2 hs,hs]; rfl
          · have:¬qjd r=0:=fun h=>hs (h5.1 h);simp[hs,this]
        · exact((Below.refl _ _).alloc (gm _) _).trans (hb.mono (by simp))
      · have q:(qhg r != 0)=true:=(by simp[hz]);have HZ:Hid (¬qhg r=0):=hz;clear hz
        go_wp2_with (go_at_call 226; refine(ko _ _).mono ?_; rintro e w' ⟨rfl,rfl⟩)
        go_ret
        refine⟨jg ?_,(Below.refl _ _).alloc (gm _) _⟩;have h2:=HC.out;have h3:=HZ.out;have hc:¬yz r=0:=(by omega);unfold xm;simp[hc]
end Go.Proofs.YtmnlfahgklnpeaaGreatDoor.C
namespace Go.Proofs
open Go.Shelf
def Tryz.lays151_ren: Go.Shelf.Ren:=⟨fun|151=>311|152=>330|137=>338|119=>236|224=>339|225=>340|217=>345|266=>346|n=>n,fun|9=>9|21=>21|4=>4|3=>3|5=>5|0=>0|46=>142|n=>n,fun|n=>n⟩
theorem Tryz.lays151: Go.Proofs.Lays.n151 Tryz.prog Tryz.lays151_ren:={
  mixed:=by kernel_rfl
  f119:=Tryz.func236.trans (congrArg some (by kernel_rfl))
  f137:=Tryz.func338.trans (congrArg some (by kernel_rfl))
  f151:=Tryz.func311.trans (congrArg some (by kernel_rfl))
  f152:=Tryz.func330.trans (congrArg some (by kernel_rfl))
  f217:=Tryz.func345.trans (congrArg some (by kernel_rfl))
  f224:=Tryz.func339.trans (congrArg some (by kernel_rfl))
  f225:=Tryz.func340.trans (congrArg some (by kernel_rfl))
  f266:=Tryz.func346.trans (congrArg some (by kernel_rfl))
  t0:=Tryz.underlying0
  a0:=Tryz.isAgg0
  z0:=Tryz.sizeOf0
  v0:=Tryz.zeroValue0
  t3:=Tryz.underlying3
  a3:=Tryz.isAgg3
  z3:=Tryz.sizeOf3
  v3:=Tryz.zeroValue3
  t4:=Tryz.underlying4
  a4:=Tryz.isAgg4
  z4:=Tryz.sizeOf4
  v4:=Tryz.zeroValue4
  t5:=Tryz.underlying5
  a5:=Tryz.isAgg5
  z5:=Tryz.sizeOf5
  v5:=Tryz.zeroValue5
  t9:=Tryz.underlying9
  a9:=Tryz.isAgg9
  z9:=Tryz.sizeOf9
  v9:=Tryz.zeroValue9
  t21:=Tryz.underlying21
  a21:=Tryz.isAgg21
  z21:=Tryz.sizeOf21
  v21:=Tryz.zeroValue21
  t46:=Tryz.underlying142
  a46:=Tryz.isAgg142
  z46:=Tryz.sizeOf142
  v46:=Tryz.zeroValue142 }
open Go.RowKit Go.Lib in
theorem Tryz.strings_ContainsRune_ascii(s:ByteArray)(r:Int)(w:World)(h0:0≤r)(h1:r<128):
    Calls Tryz.prog 311 #[.string s,.int .i32 r] w fun e w'=>e=.returned (.bool (decide (0≤Lib.indexByte s.data.toList r.toNat.toUInt8)))∧w'=w:=Any.strings_ContainsRune_ascii Tryz.lays151 s r w h0 h1
def Tryz.laysAppend_ren: Go.Shelf.Ren:=⟨fun|242=>254|278=>287|n=>n,fun|37=>27|21=>21|51=>144|4=>4|5=>5|46=>142|n=>n,fun|n=>n⟩
theorem Tryz.laysAppend: Go.Proofs.Lays.n242 Tryz.prog Tryz.laysAppend_ren:={
  mixed:=by kernel_rfl
  f242:=Tryz.func254.trans (congrArg some (by kernel_rfl))
  f278:=Tryz.func287.trans (congrArg some (by kernel_rfl))
  t4:=Tryz.underlying4
  a4:=Tryz.isAgg4
  z4:=Tryz.sizeOf4
  v4:=Tryz.zeroValue4
  t5:=Tryz.underlying5
  a5:=Tryz.isAgg5
  z5:=Tryz.sizeOf5
  v5:=Tryz.zeroValue5
  t21:=Tryz.underlying21
  a21:=Tryz.isAgg21
  z21:=Tryz.sizeOf21
  v21:=Tryz.zeroValue21
  t37:=Tryz.underlying27
  a37:=Tryz.isAgg27
  z37:=Tryz.sizeOf27
  v37:=Tryz.zeroValue27
  t46:=Tryz.underlying142
  a46:=Tryz.isAgg142
  z46:=Tryz.sizeOf142
  v46:=Tryz.zeroValue142
  t51:=Tryz.underlying144
  a51:=Tryz.isAgg144
  z51:=Tryz.sizeOf144
  v51:=Tryz.zeroValue144 }
end Go.Proofs
namespace Go.Proofs.YtmnlfahgklnpeaaGreatDoor.C
open Go.RowKit

def ctlB(r:Int):Bool:=decide (r<32∨127≤r∧r≤159)
theorem ctl_any(r:Int)(w:World):Calls Tryz.prog 245 #[.int .i32 r] w fun e w'=>e=.returned (.bool (ctlB r))∧w'=w:=by
  go_enter Tryz.func245,Tryz.ntmps245
  go_wp2
  all_goals go_ret
  all_goals refine⟨jg ?_,rfl⟩
  all_goals (unfold ctlB; rw[Bool.eq_iff_iff]; simp at *; try omega)
theorem rodd_any(r:Int)(w:World):Calls Tryz.prog 153 #[.int .i32 r] w fun e w'=>e=.returned (.bool (ctlB r))∧w'=w:=by
  go_enter Tryz.func153,Tryz.ntmps153
  go_wp2
  all_goals go_ret
  all_goals refine⟨jg ?_,rfl⟩
  all_goals (unfold ctlB; rw[Bool.eq_iff_iff]; simp at *; try omega)
def nameL(r:Int):ByteArray:=
  if r=0 then⟨#[110,117,108]⟩else if r=7 then⟨#[97,108,97,114,109]⟩else if r=8 then⟨#[98,97,99,107,115,112,97,99,101]⟩else if r=9 then⟨#[116,97,98]⟩else if r=10 then⟨#[110,101,119,108,105,110,101]⟩else if r=11 then⟨#[118,116,97,98]⟩else if r=12 then⟨#[112,97,103,101]⟩else if r=13 then⟨#[114,101,116,117,114,110]⟩else if r=27 then⟨#[101,115,99]⟩else if r=32 then⟨#[115,112,97,99,101]⟩else if r=127 then⟨#[100,101,108,101,116,101]⟩else⟨#[]⟩
theorem xbf{a b:ByteArray}(h:a=b):Ending.returned (.string a)=.returned (.string b):=by rw[h]
theorem nameOf_any(r:Int)(w:World):Calls Tryz.prog 243 #[.int .i32 r] w fun e w'=>e=.returned (.string (nameL r))∧w'=w:=by
  go_enter Tryz.func243,Tryz.ntmps243
  go_wp2
  all_goals go_ret
  all_goals refine⟨xbf ?_,rfl⟩
  all_goals (unfold nameL; simp at *; simp[*])
def Asc(s:ByteArray):Prop:=∀(j:Nat) b,s.data.toList[j]?=some b→b.toNat<128
theorem jii(s:ByteArray)(hs:Asc s)(w:World):Calls Tryz.prog 330 #[.string s,.int .i32 65533] w fun e w'=>e=.returned (.int .i64 (-1))∧Below w.heap.size w w':=by
  go_enter Tryz.func330,Tryz.ntmps330
  go_wp2
  go_loopw [] (fun wr=>∃(pos:Nat),wr.heap[w.heap.size]?=some (.stringIter s pos)∧Below w.heap.size w wr) (fun wr=>s.size-wr.iterPos w.heap.size)
  case atStart=>
    refine⟨0,?_,(Below.refl _ w).alloc (gm _) _⟩;simpa using World.iter_heap w s 0
  case round=>
    obtain⟨pos,hit,hbw⟩:=hrel;have hsz:w.heap.size<wr.heap.size:=(Array.getElem?_eq_some_iff.1 hit).1;by_cases hp:pos<s.size
    · have hnx:∀ty,(Instr.next (.pointer (some ⟨w.heap.size,0,none⟩)) true ty).run Tryz.prog wr=_:=fun ty=>Lib.run_next_any_at wr w.heap.size s pos ty hit hp;have ha:(s[pos]'hp).toNat<128:=hs pos _ (by simp[hp]; rfl);have hd:=decode_ascii s pos hp ha;have hit2:=Lib.iterAt_heap wr w.heap.size s pos (pos+1) hit;have hbw2:=Lib.below_iterAt hbw (k:=w.heap.size) (by omega) s (pos+1);rw[hd]at hnx;have hq:((((s[pos]'hp).toNat:Nat):Int)==65533)=false:=by simp; omega
      go_wp2
      go_roundw
      case rel=>exact⟨pos+1,hit2,hbw2⟩
      case measure=>
        simp only[World.iterPos,hit2,hit];omega
    · have hnx:∀ty,(Instr.next (.pointer (some ⟨w.heap.size,0,none⟩)) true ty).run Tryz.prog wr=_:=fun ty=>Lib.run_next_end_at wr w.heap.size s pos ty hit hp
      go_wp2
      go_ret
      exact⟨rfl,hbw⟩
theorem zgi{c:UInt8}:∀l:List UInt8,(∀b∈l,b≠c)→Lib.indexByte l c=-1
  | [], _ => rfl
  | b :: l, h => by
    have h1:b≠c:=h b (by simp);have h2:=zgi l (fun x hx=>h x (by simp[hx]));simp[Lib.indexByte,h1,h2]
theorem jij(s:ByteArray)(hs:Asc s)(h4:4≤s.size)(h5:s.size≤100)(r:Int)(h0:128≤r)(h1:r≤1114111)(hl:Lib.validRune r=true)(hr:r≠65533)(w:World):Calls Tryz.prog 330 #[.string s,.int .i32 r] w fun e w'=>e=.returned (.int .i64 (-1))∧Below w.heap.size w w':=by
  go_enter Tryz.func330,Tryz.ntmps330
  go_wp2_with (go_at_call 236; refine(Tryz.utf8_ValidRune _ _).mono ?_; rintro e w' ⟨rfl,rfl⟩)
  have hv:Utf8.valid r=true:=by
    rw[validRune_eq]; unfold validRune; unfold Lib.validRune at hl; apply gv; have:=f5 hl; omega
  have hE:2≤(Utf8.encode r).size∧(Utf8.encode r).size≤4∧∀h:(Utf8.encode r).size-1<(Utf8.encode r).size,128≤((Utf8.encode r)[(Utf8.encode r).size-1]'h).toNat:=encode_facts r hv h0;have hcv:∀w,(convert 21 9 (.int .i32 r)).run Tryz.prog w=.ok (.string (Utf8.encode r)) w:=fun w=>run_convert_int_string w _ _ .i32 r (by kernel_rfl) gi;refine wp_scope_straight ?_
  go_wp2
  have mixed:Tryz.prog.follows .mixedOrders=true:=by kernel_rfl
  obtain⟨m,hm⟩:∃m:Nat,(Utf8.encode r).size=m+1:=⟨(Utf8.encode r).size-1,by omega⟩;have hm0:(((Utf8.encode r).size:Int)-1)=((m:Nat):Int):=by omega
  have aa:m<s.size:=by omega
  have hi2:m<(Utf8.encode r).size:=by omega
  have hE3:128≤((Utf8.encode r)[m]'hi2).toNat:=by
    have:=hE.2.2;simp only[hm,Nat.add_sub_cancel]at this;exact this (by omega)
  have hsm:(s[m]'aa).toNat<128:=hs m _ (by simp[aa]; rfl);have hq:((s[m]'aa).toNat != ((Utf8.encode r)[m]'hi2).toNat)=true:=by simp; omega
  clear hE hm
  go_loop [9] (fun i=>i=.int .i64 ((m:Nat):Int)) (fun i=>0)
  case atStart=>rw[hm0]
  case round=>
    subst hrel;rw[hm0]
    go_wp2
    refine wp_scope_straight ?_
    go_wp2
    go_region_o
    all_goals go_wp2
    have hib:Lib.indexByte (List.take (s.size-(m+1)) (List.drop (m+1) s.data.toList)) ((Utf8.encode r)[m]'hi2)=-1:=zgi _ (fun b hb=>by
      obtain⟨k,hk,hkb⟩:=List.getElem_of_mem (List.mem_of_mem_drop (List.mem_of_mem_take hb));have:=hs k b (by rw[List.getElem?_eq_getElem hk,hkb]);intro e;rw[e]at this;omega)
    have hsl:((m:Nat):Int)+1≤(s.size:Int):=(by omega);have hsn:m+1≤s.size:=(by omega);have hs0:(0:Int)≤((m:Nat):Int)+1:=(by omega);have hsr:∀w k,(Instr.slice 9 (.string s) (some (.int k (((m:Nat):Int)+1))) none none).run Tryz.prog w=.ok (.string (s.extract (m+1) s.size)) w:=fun w k=>by
      rw[run_slice_string_from_if w _ s k _ gi,gj ⟨hs0,hsl⟩]; rfl
    have hwr:IntKind.i64.wrap (((m:Nat):Int)+1)=((m:Nat):Int)+1:=wrap_small _ (by omega) (by omega);clear hsl hsn hs0
    go_region_with_o (go_at_call 338; refine(Tryz.strings_IndexByte _ _ _).mono ?_; rintro e _ ⟨rfl,rfl⟩)
    all_goals go_wp2
    all_goals (show bodyPost Tryz.prog Tryz.f330 (fun e w1=>e=Ending.returned (Value.int .i64 (-1))∧Below w'.heap.size w' w1) .ret _ _; go_ret; exact⟨rfl,((Below.refl _ _).drew).drew⟩)
def OkR(r:Int):Prop:=(0≤r∧r<55296)∨(57343<r∧r≤1114111)
theorem OkR.valid{r:Int}(h:OkR r):Lib.validRune r=true:=gv h
theorem zse(s:ByteArray)(hs:Asc s)(h4:4≤s.size)(h5:s.size≤100)(r:Int)(h:OkR r)(h0:128≤r)(w:World):Calls Tryz.prog 311 #[.string s,.int .i32 r] w fun e w'=>e=.returned (.bool false)∧Below w.heap.size w w':=by
  have HC:Hid (Calls Tryz.prog 330 #[.string s,.int .i32 r] w fun e w'=>e=.returned (.int .i64 (-1))∧Below w.heap.size w w'):=by
    by_cases hr:r=65533
    · subst hr; exact jii s hs w
    · exact jij s hs h4 h5 r h0 (by unfold OkR at h; omega) h.valid hr w
  go_enter Tryz.func311,Tryz.ntmps311
  go_wp2_with (go_at_call 330; refine HC.out.mono ?_; rintro e w' ⟨rfl,hb⟩)
  go_ret
  exact⟨rfl,hb⟩
def S4: ByteArray:=⟨#[43,45,46,64]⟩
def S14: ByteArray:=⟨#[33,36,37,38,42,47,58,60,61,62,63,94,95,126]⟩
theorem xmb: Asc S4:=fun j b h=>(by decide +kernel:∀b∈S4.data.toList,b.toNat<128) b (List.mem_of_getElem? h)
theorem xee: Asc S14:=fun j b h=>(by decide +kernel:∀b∈S14.data.toList,b.toNat<128) b (List.mem_of_getElem? h)
def in4(r:Int):Bool:=decide (r=43∨r=45∨r=46∨r=64)
def zbb(r:Int):Bool:=decide (r=33∨r=36∨r=37∨r=38∨r=42∨r=47∨r=58∨r=60∨r=61∨r=62∨r=63∨r=94∨r=95∨r=126)
theorem ix4: ∀k:Nat,k<128→decide (0≤Lib.indexByte S4.data.toList (k:Int).toNat.toUInt8)=in4 k:=by decide +kernel
theorem xmc: ∀k:Nat,k<128→decide (0≤Lib.indexByte S14.data.toList (k:Int).toNat.toUInt8)=zbb k:=by decide +kernel
theorem xki(r:Int)(h:OkR r)(w:World):Calls Tryz.prog 311 #[.string S4,.int .i32 r] w fun e w'=>e=.returned (.bool (in4 r))∧Below w.heap.size w w':=by
  by_cases hr:r<128
  · have h0:0≤r:=(by unfold OkR at h; omega);refine(Tryz.strings_ContainsRune_ascii S4 r w h0 hr).mono ?_;rintro e w' ⟨rfl,rfl⟩;have:=ix4 r.toNat (by omega);rw[Int.toNat_of_nonneg h0]at this;exact⟨by rw[this],Below.refl _ _⟩
  · refine(zse S4 xmb (by decide) (by decide) r h (by omega) w).mono ?_;rintro e w' ⟨rfl,hb⟩;exact⟨by rw[show in4 r=false from by unfold in4; apply gn; omega],hb⟩
theorem xia(r:Int)(h:OkR r)(w:World):Calls Tryz.prog 311 #[.string S14,.int .i32 r] w fun e w'=>e=.returned (.bool (zbb r))∧Below w.heap.size w w':=by
  by_cases hr:r<128
  · have h0:0≤r:=(by unfold OkR at h; omega);refine(Tryz.strings_ContainsRune_ascii S14 r w h0 hr).mono ?_;rintro e w' ⟨rfl,rfl⟩;have:=xmc r.toNat (by omega);rw[Int.toNat_of_nonneg h0]at this;exact⟨by rw[this],Below.refl _ _⟩
  · refine(zse S14 xee (by decide) (by decide) r h (by omega) w).mono ?_;rintro e w' ⟨rfl,hb⟩;exact⟨by rw[show zbb r=false from by unfold zbb; apply gn; omega],hb⟩
def firstB(r:Int):Bool:=xm r||zbb r||(decide (127<r) && !blankB r)
def restB(r:Int):Bool:=decide (48≤r∧r≤57)||in4 r
theorem isRest_any(r:Int)(h:OkR r)(w:World):Calls Tryz.prog 285 #[.int .i32 r] w fun e w'=>e=.returned (.bool (restB r))∧Below w.heap.size w w':=by
  have HC:Hid _:=xki r h w;clear h
  go_enter Tryz.func285,Tryz.ntmps285
  go_wp2_with (go_at_call 311; refine Calls.mono HC.out ?_; rintro e w' ⟨rfl,hb⟩)
  all_goals go_ret
  all_goals refine⟨jg ?_,by first|assumption|exact Below.refl _ _⟩
  all_goals (show(_:Bool)=restB r; unfold restB; cases in4 r<;>simp at * <;> omega)
theorem isFirst_any(r:Int)(h:OkR r)(w:World):Calls Tryz.prog 284 #[.int .i32 r] w fun e w'=>e=.returned (.bool (firstB r))∧Below w.heap.size w w':=by
  have HC:Hid _:=xia r h w;clear h
  go_enter Tryz.func284,Tryz.ntmps284
  go_wp2_with (first|(go_at_call 311; refine Calls.mono HC.out ?_; rintro e w' ⟨rfl,hb⟩)|(go_at_call 310; refine(zze _ _).mono ?_; rintro e w' ⟨rfl,rfl⟩)|(go_at_call 244; refine(blank_any _ _).mono ?_; rintro e w' ⟨rfl,rfl⟩))
  all_goals go_ret
  all_goals refine⟨jg ?_,by first|assumption|exact Below.refl _ _⟩
  all_goals (show(_:Bool)=firstB r; unfold firstB; simp[*]; try (intro _; omega))
theorem xbg: ∀b∈S14.data.toList,zbb ((b.toNat:Nat):Int)=true:=by decide +kernel
theorem xbh{r:Int}(hn:∀b∈S14.data.toList,((b.toNat:Nat):Int)≠r):zbb r=false:=by
  unfold zbb;apply gn;intro h;rcases h with h|h|h|h|h|h|h|h|h|h|h|h|h|h;all_goals (subst h; revert hn; decide +kernel)
theorem jja{r:Int}(h:zbb r=true):firstB r=true:=by unfold firstB; rw[h]; simp
theorem zzg{r:Int}(h:zbb r=false):firstB r=((decide (127<r) && !blankB r)||xm r):=by unfold firstB; rw[h]; cases xm r<;>simp
theorem rfirst_any(r:Int)(h:OkR r)(w:World):Calls Tryz.prog 158 #[.int .i32 r] w fun e w'=>e=.returned (.bool (firstB r))∧Below w.heap.size w w':=by
  have H0:Hid (-2147483648≤r∧r≤2147483647):=by
    show _∧_;unfold OkR at h; omega
  clear h;obtain⟨F,HF⟩:∃F,Hid (firstB r=F):=⟨_,rfl⟩;rw[HF.out]
  go_enter Tryz.func158,Tryz.ntmps158
  go_wp2
  go_loopw [] (fun wr=>∃(pos:Nat),wr.heap[w.heap.size]?=some (.stringIter S14 pos)∧Below w.heap.size w wr∧Hid (∀j,j<pos→∀b,S14.data.toList[j]?=some b→((b.toNat:Nat):Int)≠r)) (fun wr=>S14.size-wr.iterPos w.heap.size)
  case atStart=>
    refine⟨0,?_,(Below.refl _ w).alloc (gm _) _,fun j hj=>absurd hj (j4 _)⟩;exact World.iter_heap w S14 0
  case round=>
    obtain⟨pos,hit,hbw,HN⟩:=hrel;have hsz:w.heap.size<wr.heap.size:=(Array.getElem?_eq_some_iff.1 hit).1;by_cases hp:pos<S14.size
    · have hnx:∀ty,(Instr.next (.pointer (some ⟨w.heap.size,0,none⟩)) true ty).run Tryz.prog wr=_:=fun ty=>Lib.run_next_any_at wr w.heap.size S14 pos ty hit hp;have hget:S14.data.toList[pos]?=some (S14[pos]'hp):=(by simp[hp]; rfl);have ha:(S14[pos]'hp).toNat<128:=xee pos _ hget;have hd:=decode_ascii S14 pos hp ha;have hit2:=Lib.iterAt_heap wr w.heap.size S14 pos (pos+1) hit;have hbw2:=Lib.below_iterAt hbw (k:=w.heap.size) (by omega) S14 (pos+1);rw[hd]at hnx;obtain⟨c,hc⟩:∃c:UInt8,c=S14[pos]'hp:=⟨_,rfl⟩;rw[←hc]at hnx hget ha;clear hd hc;by_cases hq:r=((c.toNat:Nat):Int)
      · have HQ:Hid (r=((c.toNat:Nat):Int)):=hq;have aa:(r==((c.toNat:Nat):Int))=true:=(by simp[hq]);clear hq
        go_wp2
        all_goals go_ret
        all_goals refine⟨jg ?_,hbw2⟩
        all_goals (rw[←HF.out,jja (by rw[HQ.out]; exact xbg c (List.mem_of_getElem? hget))])
      · have HQ:Hid (¬r=((c.toNat:Nat):Int)):=hq;have aa:(r==((c.toNat:Nat):Int))=false:=(by simp[hq]);clear hq
        go_wp2
        go_roundw
        case rel=>
          refine⟨pos+1,hit2,hbw2,fun j hj b hb=>?_⟩;by_cases hj2:j<pos
          · exact HN.out j hj2 b hb
          · have:j=pos:=(by omega);subst this;rw[hget]at hb;injection hb with hb;subst hb;exact fun e=>HQ.out e.symm
        case measure=>
          simp only[World.iterPos,hit2,hit];omega
    · have hnx:∀ty,(Instr.next (.pointer (some ⟨w.heap.size,0,none⟩)) true ty).run Tryz.prog wr=_:=fun ty=>Lib.run_next_end_at wr w.heap.size S14 pos ty hit hp;have HO:Hid (zbb r=false):=xbh (fun b hb=>by
        obtain⟨k,hk,hkb⟩:=List.getElem_of_mem hb;exact HN.out k (by have:S14.data.toList.length=S14.size:=rfl; omega) b (by rw[List.getElem?_eq_getElem hk,hkb]))
      go_wp2_with (first|(go_at_call 154; refine(rblank_any _ _).mono ?_; rintro e w' ⟨rfl,rfl⟩)|(go_at_call 206; refine(zsd _ H0.out.1 H0.out.2 _).mono ?_; rintro e w' ⟨rfl,hb⟩))
      all_goals go_ret
      all_goals refine⟨jg ?_,by first|exact hbw|exact hbw.trans (hb.mono hbw.size)⟩
      all_goals (rw[←HF.out,zzg HO.out]; show(_:Bool)=_; simp[*]; try (intros; omega))
theorem rrest_any(r:Int)(h:OkR r)(w:World):Calls Tryz.prog 157 #[.int .i32 r] w fun e w'=>e=.returned (.bool (firstB r||restB r))∧Below w.heap.size w w':=by
  have HC:Hid _:=rfirst_any r h w;clear h;obtain⟨F,HF⟩:∃F,Hid ((firstB r||restB r)=F):=⟨_,rfl⟩;rw[HF.out]
  go_enter Tryz.func157,Tryz.ntmps157
  go_wp2_with (go_at_call 158; refine Calls.mono HC.out ?_; rintro e w' ⟨rfl,hb⟩)
  all_goals go_ret
  all_goals refine⟨jg ?_,by first|assumption|exact Below.refl _ _⟩
  all_goals (rw[←HF.out]; unfold restB in4; rw[Bool.eq_iff_iff]; simp[*]; try omega)
def hx(k:Nat):UInt8:=(if k<10 then 48+k else 87+k).toUInt8
def hexD(n:Nat):List UInt8:=if n<16 then[hx n]else hexD (n / 16)++[hx (n%16)]
termination_by n
decreasing_by omega
def isT: Value→Nat
  | .bool true => 1
  | _ => 0
def zmc(b:Bool)(k:Nat):List UInt8:=if b=true∨k≠0 then hexD k else[]
theorem jjb{b:Bool}{k:Nat}(h:b=true∨k≠0):zmc b k=zmc false (k / 16)++[hx (k%16)]:=by
  unfold zmc;rw[gj h];by_cases h16:k<16
  · rw[hexD,gj h16,f7 (by simp; omega),Nat.mod_eq_of_lt h16]; rfl
  · rw[hexD,f7 h16,gj (by simp; omega)]
def S16: ByteArray:=⟨#[48,49,50,51,52,53,54,55,56,57,97,98,99,100,101,102]⟩
theorem s16: ∀j:Fin 16,S16.data[j.val]'(j.isLt)=hx j.val:=by decide +kernel
theorem xbi(c:UInt8)(t:List UInt8):(⟨#[c]⟩:ByteArray)++⟨t.toArray⟩=⟨(c::t).toArray⟩:=by
  apply ByteArray.ext;simp
theorem xef(wr:World)(c:Value)(t:TypeId):(wr.alloc (.cells #[c] t)).cell? ((⟨wr.heap.size,0,none⟩:Addr).add 0)=some c:=by
  have hh:(wr.alloc (.cells #[c] t)).heap[wr.heap.size]?=some (.cells #[c] t):=by
    show(wr.heap.push (.cells #[c] t))[wr.heap.size]?=_;simp
  show(wr.alloc (.cells #[c] t)).cell? ⟨wr.heap.size,0,none⟩=some c;rw[Lib.cell_of_heap hh];rfl
theorem rhex_any(n:Nat)(hn:n≤1114111)(w:World):Calls Tryz.prog 155 #[.int .i32 ((n:Nat):Int)] w fun e w'=>e=.returned (.string ⟨(hexD n).toArray⟩)∧Below w.heap.size w w':=by
  go_enter Tryz.func155,Tryz.ntmps155
  go_wp2
  go_loopw [0,3,4] (fun v s f wr=>∃(k:Nat) (t:List UInt8) (b:Bool),v=.int .i32 ((k:Nat):Int)∧s=.string ⟨t.toArray⟩∧f=.bool b∧k≤1114111∧t.length+k+isT f≤1114112∧Below w.heap.size w wr∧Hid (hexD n=zmc b k++t)) (fun v s f wr=>(intOf v).toNat+isT f)
  case atStart=>exact⟨n,[],true,rfl,rfl,rfl,hn,by simp[isT]; omega,Below.refl _ _,by show hexD n=zmc true n++[]; unfold zmc; simp⟩
  case round=>
    obtain⟨k,t,b,rfl,rfl,rfl,hk,htl,hbw,HT⟩:=hrel;have hcv:∀c:UInt8,(convert 27 9 (.slice (some ⟨wr.heap.size,0,none⟩) 1 1)).run Tryz.prog (wr.alloc (.cells #[.int .u8 ((c.toNat:Nat):Int)] 5))=.ok (.string ⟨#[c]⟩) (wr.alloc (.cells #[.int .u8 ((c.toNat:Nat):Int)] 5)):=fun c=>
      run_convert_bytes_back _ _ _ _ ⟨wr.heap.size,0,none⟩ 1 [c] ib ir gi (fun j hj=>by
        obtain rfl:j=0:=(by simpa using hj);exact xef _ _ _)
    have hlast:∀b,(b=true∨k≠0)→Hid (hexD n=zmc b k++t)→hexD n=zmc false (k / 16)++(hx (k%16)::t):=fun b hb h=>by
      have h2:hexD n=zmc b k++t:=h;rw[h2,jjb hb,f4]; rfl
    have hS:∀h,(⟨#[48,49,50,51,52,53,54,55,56,57,97,98,99,100,101,102]⟩:ByteArray)[k%16]'h=hx (k%16):=fun h=>s16 ⟨k%16,Nat.mod_lt _ (by decide)⟩;have hal:∀o,Below w.heap.size w (wr.alloc o):=fun o=>hbw.alloc hbw.size _;rcases b with _|_
    · by_cases ab:k=0
      · subst ab;have HT2:hexD n=t:=HT.out;have HT3:Hid (hexD n=t):=HT2;clear HT HT2
        go_wp2
        go_ret
        exact⟨by rw[←HT3.out]; rfl,hbw⟩
      · have _:(0:Int)<(k:Int):=(by omega);have aa:=hlast false (.inr ab) HT;have HL:Hid _:=aa;clear aa hlast HT
        go_wp2
        refine⟨⟨k / 16,hx (k%16)::t,false,by simp,by rw[xbi],rfl,by omega,by simp[isT]at *; omega,hal _,HL.out⟩,by simp[intOf,isT]; omega⟩
    · have aa:=hlast true (.inl rfl) HT;have HL:Hid _:=aa;clear aa hlast HT
      go_wp2
      refine⟨⟨k / 16,hx (k%16)::t,false,by simp,by rw[xbi],rfl,by omega,by simp[isT]at *; omega,hal _,HL.out⟩,by simp[intOf,isT]; omega⟩
def Tz16(w:World):Prop:=w.cell? ⟨6,15,none⟩=some (.int .u8 4)
theorem xbj(w:World)(h:Tz16 w):Calls Tryz.prog 344 #[.int .u64 16] w fun e w'=>e=.returned (.int .i64 4)∧w'=w:=by
  have h':w.cell? ⟨6,15,none⟩=some (.int .u8 4):=h;have key:IntKind.u64.wrap (bits BinOp.and IntKind.u64 16 (IntKind.u64.wrap (-16))*285870213051353865) / 288230376151711744=15:=by decide +kernel
  go_enter Tryz.func344,Tryz.ntmps344
  go_wp2_with (simp only[key])
  go_ret
  exact⟨rfl,rfl⟩
theorem tz_16(w:World)(h:Tz16 w):Calls Tryz.prog 337 #[.int .u64 16] w fun e w'=>e=.returned (.int .i64 4)∧w'=w:=by
  go_enter Tryz.func337,Tryz.ntmps337
  go_wp2_with (go_at_call 344; refine(xbj _ h).mono ?_; rintro e w' ⟨rfl,rfl⟩)
  go_ret
  exact⟨rfl,rfl⟩
end Go.Proofs.YtmnlfahgklnpeaaGreatDoor.C
namespace Go.Proofs.YtmnlfahgklnpeaaGreatDoor.G
open Go.RowKit Go.Lib

def jrh(ds:List Value):List Value:=List.replicate (65-ds.length) (.int .u8 0)++ds
def S36: ByteArray:=⟨#[48,49,50,51,52,53,54,55,56,57,97,98,99,100,101,102,103,104,105,106,107,108,109,110,111,112,113,114,115,116,117,118,119,120,121,122]⟩
theorem s36: ∀j:Fin 16,(S36.data.toList.getD j.val 0)=C.hx j.val:=by decide +kernel
theorem zbc{m:Nat}(h:m<18446744073709551616):bits .and .u64 ((m:Nat):Int) 15=((m%16:Nat):Int):=by
  have e:=and_u64 m 15 h (by decide);rw[show m &&& 15=m%16 from Nat.and_two_pow_sub_one_eq_mod m 4]at e;exact e
section
variable {P:Program} {w0 w:World} {L:List Ck} {l:List (Nat×Value)} {dst:Option Tmp} {ty:TypeId} {pos:String} {after:Array Edge} {guard:Option (Nat×Bool)} {v:Value}
theorem xb{t:TypeId}(ht:P.underlying t=some .string){x y:Operand}{m:Nat}{z:Int}(hx:ev l x=some (.string S36))(hy:ev l y=some (.int .u64 z))(hz:z=((m:Nat):Int))(hm:m<16):Does P l ⟨dst,.index t x y,ty,pos,after,guard⟩ w (.int .u8 (((C.hx m).toNat:Nat):Int)) w:=fun ρ h=>by
  subst hz;have hi:m<S36.size:=by show m<36; omega
  have:=run_index_string (P:=P) w t S36 .u64 ((m:Nat):Int) ht;have hi':m<S36.data.size:=hi;have e:S36.data.toList.getD m 0=S36[m]:=by
    rw[List.getD_eq_getElem?_getD,Array.getElem?_toList,Array.getElem?_eq_getElem hi'];rfl
  rw[←s36 ⟨m,hm⟩,e];simp[execOp,h x _ hx,h y _ hy,this,hi]
theorem ym{t:TypeId}{x y:Operand}{u u':Value}(hx:ev l x=some u)(hy:ev l y=some u')(hr:∀w,(Instr.sliceAt t u (some u') none none).run P w=.ok v w):Does P l ⟨dst,.slice t x (some y) none none,ty,pos,after,guard⟩ w v w:=fun ρ h=>by
  simp[execOp,h x _ hx,h y _ hy,hr]
theorem qsc(hM:Mg w0 w L)(k:Nat){g:Nat}{e:TypeId}{ds:List UInt8}(hk:L[k]?=some (.obj g (.cells (jrh (Lib.byteCells ds)).toArray e)))(hl:ds.length≤65):Rb w (some ⟨g,65-ds.length,none⟩) ds:=by
  refine⟨fun hne=>⟨g,65-ds.length,rfl,(Array.getElem?_eq_some_iff.1 (hM.obj k hk)).1,fun j hj=>?_⟩⟩;refine hM.cell k hk _ ?_;unfold jrh;rw[Lib.byteCells_length,List.getElem?_append_right (by rw[List.length_replicate]; omega),List.length_replicate,show 65-ds.length+j-(65-ds.length)=j by omega];unfold Lib.byteCells;rw[List.getElem?_map,List.getElem?_eq_getElem hj];simp[List.getD,List.getElem?_eq_getElem hj]
end
theorem qsd{n:Nat}(h:n<16):C.hexD n=[C.hx n]:=by rw[C.hexD,gj h]
theorem yh{n:Nat}(h:¬n<16){l:List UInt8}(k:C.hexD (n / 16)=l):C.hexD n=l++[C.hx (n%16)]:=by rw[C.hexD,f7 h,k]
open Go.RowKit
theorem vq{w w':World}(h:C.Tz16 w)(hb:Below w.heap.size w w'):C.Tz16 w':=by
 unfold C.Tz16 at *
 have hlt:6<w.heap.size:=by
  apply Classical.byContradiction;intro k;simp[World.cell?,Array.getElem?_eq_none (Nat.le_of_not_lt k)]at h
 rw[hb.cell hlt];exact h
theorem xca{w:World}:Calls Tryz.prog 336 #[iV 16] w (RB w (bV true)):=by
 have M:=Mg.start w;refine wof Tryz.func336 Tryz.ntmps336 fun Q hret hnorm hP a A=>?_;refine wsr fun _ aa=>sda A λA=>?_;refine qwr aa fun _ ab=>?_;iterate 2 refine sdm A λA=>?_
 refine sdo (v:=iV 15) A dbK λA=>?_;refine sdo (v:=iV 0) A dbK λA=>?_;refine sdo (v:=bV true) A dbK λA=>?_;refine sda A λA=>?_;refine qr1 ab hret A ?_;exact⟨rfl,M.bel⟩
theorem xcb{w:World}(hz:C.Tz16 w){n:Nat}(hn:n≤1114111):Calls Tryz.prog 328 #[.slice none 0 0,.int .u64 ((n:Nat):Int),iV 16,bV false,bV false] w (RB w (.tuple #[.slice none 0 0,.string ⟨(C.hexD n).toArray⟩])):=by
 have M:=Mg.start w;refine wof Tryz.func328 Tryz.ntmps328 fun Q hret hnorm hP a A=>?_;refine wsr fun _ d9=>?_;iterate 2 refine sda A λA=>?_
 refine qwk d9 fun _ ed=>wsr fun _ ee=>sdm A λA=>?_;refine sdo (v:=bV false) A dbK λA=>?_;iterate 2 refine sdm A λA=>?_
 refine sdo (v:=bV false) A dbK λA=>?_;refine sdk (v:=bV false) A λA=>?_;iterate 2 refine sdm A λA=>?_
 refine sdo (v:=bV false) A dbK λA=>?_;refine sdk (v:=bV false) A λA=>?_;refine qcf ee A ?_;refine wp_skip (ed _ _ (wsr fun K4 eg=>zj (vs:=(jrh [])) (t:=302) A M rfl rfl rfl pg (qm (z:=.agg #[.int .u8 0,.int .u8 0,.int .u8 0,.int .u8 0,.int .u8 0,.int .u8 0,.int .u8 0,.int .u8 0,.int .u8 0,.int .u8 0,.int .u8 0,.int .u8 0,.int .u8 0,.int .u8 0,.int .u8 0,.int .u8 0,.int .u8 0,.int .u8 0,.int .u8 0,.int .u8 0,.int .u8 0,.int .u8 0,.int .u8 0,.int .u8 0,.int .u8 0,.int .u8 0,.int .u8 0,.int .u8 0,.int .u8 0,.int .u8 0,.int .u8 0,.int .u8 0,.int .u8 0,.int .u8 0,.int .u8 0,.int .u8 0,.int .u8 0,.int .u8 0,.int .u8 0,.int .u8 0,.int .u8 0,.int .u8 0,.int .u8 0,.int .u8 0,.int .u8 0,.int .u8 0,.int .u8 0,.int .u8 0,.int .u8 0,.int .u8 0,.int .u8 0,.int .u8 0,.int .u8 0,.int .u8 0,.int .u8 0,.int .u8 0,.int .u8 0,.int .u8 0,.int .u8 0,.int .u8 0,.int .u8 0,.int .u8 0,.int .u8 0,.int .u8 0,.int .u8 0]) (by kernel_rfl) rfl) (by decide) ?_));intro g5 _ M a A;refine qwr eg fun _ eh=>sda A λA=>?_;refine qwk eh fun _ ei=>wsr fun _ eo=>sdm A λA=>?_;refine qcf eo A ?_;refine wp_skip (ei _ _ (wsk fun _ ag=>wsr fun _ aq=>sdm A λA=>?_));refine gcl A M ec (xca) fun _ _ M a A=>?_;refine qct aq A ?_;refine wsr fun _ ar=>sdm A λA=>?_;refine sdo (v:=.int .u64 16) A (zk rfl (ar_conv i8 Tryz.underlying142 (in_u64 (by decide) (by decide)))) λA=>?_;refine sct A ec (C.tz_16 _ (vq hz M.bel)) ?_;rintro _ _ ⟨rfl,hw9⟩;subst hw9;refine⟨_,rfl,?_⟩;intro a A;refine sdo (v:=.int .u64 4) A (zk rfl (ar_conv i8 Tryz.underlying142 (in_u64 (by decide) (by decide)))) λA=>?_;refine sda A λA=>?_;refine qwr ar fun _ au=>sdm A λA=>?_;refine sdo (v:=.int .u64 16) A (zk rfl (ar_conv i8 Tryz.underlying91 (in_u64 (by decide) (by decide)))) λA=>?_;refine sda A λA=>?_;refine qwr au fun _ av=>sdm A λA=>?_
 refine sdo (v:=.int .u64 16) A (zk rfl (ar_conv i8 Tryz.underlying142 (in_u64 (by decide) (by decide)))) λA=>?_;refine sdo (v:=.int .u64 15) A dbK λA=>?_;refine sda A λA=>?_;refine qwk av fun _ ah=>wp_block (wp_loop_rounds 7 ?_);refine uy ?_;intro _ aw;refine wsk fun _ ax=>wsr fun _ ai=>?_;iterate 2 refine sdm A λA=>?_
 rcases tf (decide (16≤((n:Nat):Int)))with aa|aa
 ·have aa':=f5 aa;refine sdc A zt aa λA=>?_;refine qct ai A ?_;refine wp_skip (ax _ _ (wp_block (wsr fun _ ay=>sdm A λA=>?_)));refine sdo (v:=iV 64) A dbK λA=>?_;refine sda A λA=>?_;refine qwr ay fun _ az=>?_;iterate 3 refine sdm A λA=>?_
  refine sdo (v:=.int .u64 (((n%16:Nat):Int))) A (qb rfl rfl (ar_and (zbc (by omega)))) λA=>?_;refine sdo (v:=.int .u8 ((((C.hx (n%16)).toNat:Nat):Int))) A (xb (m:=n%16) gi rfl rfl rfl (by omega)) λA=>?_;refine sdo (v:=pA g5 64) A (jj rfl rfl (fun w=>by kernel_rfl)) λA=>?_;refine qt A M rfl rfl (qj rfl rfl rfl (by kernel_rfl) M 0 rfl rfl rfl) 0 rfl rfl rfl ?_;intro _ M;refine qa (az _ _ (wrl ?_));iterate 2 refine sdm A λA=>?_
  refine sdo (v:=.int .u64 (((n / 16:Nat):Int))) A (qb rfl rfl (ar_shr (n:=4) rfl rfl (show((n:Nat):Int) / 2^4=((n / 16:Nat):Int)by omega))) λA=>?_;refine sda A λA=>?_;refine qa (aw _ _ (uy ?_));intro _ bd;refine wsk fun _ bf=>wsr fun _ aj=>?_;iterate 2 refine sdm A λA=>?_
  rcases tf (decide (16≤((n / 16:Nat):Int)))with ab|ab
  ·have ab':=f5 ab;refine sdc A zt ab λA=>?_;refine qct aj A ?_;refine wp_skip (bf _ _ (wp_block (wsr fun _ bg=>sdm A λA=>?_)));refine sdo (v:=iV 63) A dbK λA=>?_;refine sda A λA=>?_;refine qwr bg fun _ bh=>?_;iterate 3 refine sdm A λA=>?_
   refine sdo (v:=.int .u64 (((n / 16%16:Nat):Int))) A (qb rfl rfl (ar_and (zbc (by omega)))) λA=>?_;refine sdo (v:=.int .u8 ((((C.hx (n / 16%16)).toNat:Nat):Int))) A (xb (m:=n / 16%16) gi rfl rfl rfl (by omega)) λA=>?_;refine sdo (v:=pA g5 63) A (jj rfl rfl (fun w=>by kernel_rfl)) λA=>?_;refine qt A M rfl rfl (qj rfl rfl rfl (by kernel_rfl) M 0 rfl rfl rfl) 0 rfl rfl rfl ?_;intro _ M;refine qa (bh _ _ (wrl ?_));iterate 2 refine sdm A λA=>?_
   refine sdo (v:=.int .u64 (((n / 16 / 16:Nat):Int))) A (qb rfl rfl (ar_shr (n:=4) rfl rfl (show((n / 16:Nat):Int) / 2^4=((n / 16 / 16:Nat):Int)by omega))) λA=>?_;refine sda A λA=>?_;refine qa (bd _ _ (uy ?_));intro _ bi;refine wsk fun _ bj=>wsr fun _ ak=>?_;iterate 2 refine sdm A λA=>?_
   rcases tf (decide (16≤((n / 16 / 16:Nat):Int)))with ac|ac
   ·have ac':=f5 ac;refine sdc A zt ac λA=>?_;refine qct ak A ?_;refine wp_skip (bj _ _ (wp_block (wsr fun _ bn=>sdm A λA=>?_)));refine sdo (v:=iV 62) A dbK λA=>?_;refine sda A λA=>?_;refine qwr bn fun _ bp=>?_;iterate 3 refine sdm A λA=>?_
    refine sdo (v:=.int .u64 (((n / 16 / 16%16:Nat):Int))) A (qb rfl rfl (ar_and (zbc (by omega)))) λA=>?_;refine sdo (v:=.int .u8 ((((C.hx (n / 16 / 16%16)).toNat:Nat):Int))) A (xb (m:=n / 16 / 16%16) gi rfl rfl rfl (by omega)) λA=>?_;refine sdo (v:=pA g5 62) A (jj rfl rfl (fun w=>by kernel_rfl)) λA=>?_;refine qt A M rfl rfl (qj rfl rfl rfl (by kernel_rfl) M 0 rfl rfl rfl) 0 rfl rfl rfl ?_;intro _ M;refine qa (bp _ _ (wrl ?_));iterate 2 refine sdm A λA=>?_
    refine sdo (v:=.int .u64 (((n / 16 / 16 / 16:Nat):Int))) A (qb rfl rfl (ar_shr (n:=4) rfl rfl (show((n / 16 / 16:Nat):Int) / 2^4=((n / 16 / 16 / 16:Nat):Int)by omega))) λA=>?_;refine sda A λA=>?_;refine qa (bi _ _ (uy ?_));intro _ bq;refine wsk fun _ br=>wsr fun _ am=>?_;iterate 2 refine sdm A λA=>?_
    rcases tf (decide (16≤((n / 16 / 16 / 16:Nat):Int)))with ae|ae
    ·have ae':=f5 ae;refine sdc A zt ae λA=>?_;refine qct am A ?_;refine wp_skip (br _ _ (wp_block (wsr fun _ bw=>sdm A λA=>?_)));refine sdo (v:=iV 61) A dbK λA=>?_;refine sda A λA=>?_;refine qwr bw fun _ bz=>?_;iterate 3 refine sdm A λA=>?_
     refine sdo (v:=.int .u64 (((n / 16 / 16 / 16%16:Nat):Int))) A (qb rfl rfl (ar_and (zbc (by omega)))) λA=>?_;refine sdo (v:=.int .u8 ((((C.hx (n / 16 / 16 / 16%16)).toNat:Nat):Int))) A (xb (m:=n / 16 / 16 / 16%16) gi rfl rfl rfl (by omega)) λA=>?_;refine sdo (v:=pA g5 61) A (jj rfl rfl (fun w=>by kernel_rfl)) λA=>?_;refine qt A M rfl rfl (qj rfl rfl rfl (by kernel_rfl) M 0 rfl rfl rfl) 0 rfl rfl rfl ?_;intro _ M;refine qa (bz _ _ (wrl ?_));iterate 2 refine sdm A λA=>?_
     refine sdo (v:=.int .u64 (((n / 16 / 16 / 16 / 16:Nat):Int))) A (qb rfl rfl (ar_shr (n:=4) rfl rfl (show((n / 16 / 16 / 16:Nat):Int) / 2^4=((n / 16 / 16 / 16 / 16:Nat):Int)by omega))) λA=>?_;refine sda A λA=>?_;refine qa (bq _ _ (uy ?_));intro _ cc;refine wsk fun _ cd=>wsr fun _ ap=>?_;iterate 2 refine sdm A λA=>?_
     rcases tf (decide (16≤((n / 16 / 16 / 16 / 16:Nat):Int)))with af|af
     ·have af':=f5 af;refine sdc A zt af λA=>?_;refine qct ap A ?_;refine wp_skip (cd _ _ (wp_block (wsr fun _ ce=>sdm A λA=>?_)));refine sdo (v:=iV 60) A dbK λA=>?_;refine sda A λA=>?_;refine qwr ce fun _ cg=>?_;iterate 3 refine sdm A λA=>?_
      refine sdo (v:=.int .u64 (((n / 16 / 16 / 16 / 16%16:Nat):Int))) A (qb rfl rfl (ar_and (zbc (by omega)))) λA=>?_;refine sdo (v:=.int .u8 ((((C.hx (n / 16 / 16 / 16 / 16%16)).toNat:Nat):Int))) A (xb (m:=n / 16 / 16 / 16 / 16%16) gi rfl rfl rfl (by omega)) λA=>?_;refine sdo (v:=pA g5 60) A (jj rfl rfl (fun w=>by kernel_rfl)) λA=>?_;refine qt A M rfl rfl (qj rfl rfl rfl (by kernel_rfl) M 0 rfl rfl rfl) 0 rfl rfl rfl ?_;intro _ M;refine qa (cg _ _ (wrl ?_));iterate 2 refine sdm A λA=>?_
      refine sdo (v:=.int .u64 (((n / 16 / 16 / 16 / 16 / 16:Nat):Int))) A (qb rfl rfl (ar_shr (n:=4) rfl rfl (show((n / 16 / 16 / 16 / 16:Nat):Int) / 2^4=((n / 16 / 16 / 16 / 16 / 16:Nat):Int)by omega))) λA=>?_;refine sda A λA=>?_;refine qa (cc _ _ (uy ?_));intro _ _;refine wsk fun _ _=>wsr fun _ ch=>?_;iterate 2 refine sdm A λA=>?_
      refine sdo (v:=bV false) A (qb rfl rfl (fun w=>(zt w).trans (by rw[show(decide (16≤((n / 16 / 16 / 16 / 16 / 16:Nat):Int)))=false from(gn (by omega))]))) λA=>?_;refine qcf ch A ?_;refine wp_exit (ah _ _ (wsr fun _ ci=>sdm A λA=>?_));refine sdo (v:=iV 59) A dbK λA=>?_;refine sda A λA=>?_;refine qa (ci _ _ (wrl ?_));iterate 2 refine sdm A λA=>?_
      refine sdo (v:=.int .u8 ((((C.hx (n / 16 / 16 / 16 / 16 / 16)).toNat:Nat):Int))) A (xb (m:=n / 16 / 16 / 16 / 16 / 16) gi rfl rfl rfl (by omega)) λA=>?_;refine sdo (v:=pA g5 59) A (jj rfl rfl (fun w=>by kernel_rfl)) λA=>?_;refine qt A M rfl rfl (qj rfl rfl rfl (by kernel_rfl) M 0 rfl rfl rfl) 0 rfl rfl rfl ?_;intro _ M;refine qwk ag fun _ cj=>wsr fun _ ck=>sdm A λA=>?_;refine qcf ck A ?_;refine wp_skip (cj _ _ (wsk fun _ cl=>wsr fun _ cm=>sdm A λA=>?_));refine qcf cm A ?_;refine wp_skip (cl _ _ (wsr fun _ cn=>sdm A λA=>?_));refine sdo (v:=.slice (some ⟨g5,59,none⟩) 6 6) A (ym rfl rfl (fun w=>by kernel_rfl)) λA=>?_;have hrb9:=qsc (ds:=[C.hx (n / 16 / 16 / 16 / 16 / 16),C.hx (n / 16 / 16 / 16 / 16%16),C.hx (n / 16 / 16 / 16%16),C.hx (n / 16 / 16%16),C.hx (n / 16%16),C.hx (n%16)]) M 0 rfl (by simp);refine sdo (v:=.string (⟨([C.hx (n / 16 / 16 / 16 / 16 / 16),C.hx (n / 16 / 16 / 16 / 16%16),C.hx (n / 16 / 16 / 16%16),C.hx (n / 16 / 16%16),C.hx (n / 16%16),C.hx (n%16)]:List UInt8).toArray⟩)) A (uj rfl (uh ib ir gi hrb9 _)) λA=>?_;refine sda A λA=>?_;refine qa (cn _ _ (wp_ret (hret _ _ (en2 A rfl (qf rfl) (qf rfl) ?_))));exact⟨by rw[show C.hexD n=[C.hx (n / 16 / 16 / 16 / 16 / 16),C.hx (n / 16 / 16 / 16 / 16%16),C.hx (n / 16 / 16 / 16%16),C.hx (n / 16 / 16%16),C.hx (n / 16%16),C.hx (n%16)]from yh (by omega) (yh (by omega) (yh (by omega) (yh (by omega) (yh (by omega) (qsd (by omega))))))],M.bel⟩
     ·have af':=fy af;refine sdc A zt af λA=>?_;refine qcf ap A ?_;refine wp_exit (ah _ _ (wsr fun _ co=>sdm A λA=>?_));refine sdo (v:=iV 60) A dbK λA=>?_;refine sda A λA=>?_;refine qa (co _ _ (wrl ?_));iterate 2 refine sdm A λA=>?_
      refine sdo (v:=.int .u8 ((((C.hx (n / 16 / 16 / 16 / 16)).toNat:Nat):Int))) A (xb (m:=n / 16 / 16 / 16 / 16) gi rfl rfl rfl (by omega)) λA=>?_;refine sdo (v:=pA g5 60) A (jj rfl rfl (fun w=>by kernel_rfl)) λA=>?_;refine qt A M rfl rfl (qj rfl rfl rfl (by kernel_rfl) M 0 rfl rfl rfl) 0 rfl rfl rfl ?_;intro _ M;refine qwk ag fun _ cp=>wsr fun _ cq=>sdm A λA=>?_;refine qcf cq A ?_;refine wp_skip (cp _ _ (wsk fun _ cr=>wsr fun _ cw=>sdm A λA=>?_));refine qcf cw A ?_;refine wp_skip (cr _ _ (wsr fun _ cx=>sdm A λA=>?_));refine sdo (v:=.slice (some ⟨g5,60,none⟩) 5 5) A (ym rfl rfl (fun w=>by kernel_rfl)) λA=>?_;have hrb9:=qsc (ds:=[C.hx (n / 16 / 16 / 16 / 16),C.hx (n / 16 / 16 / 16%16),C.hx (n / 16 / 16%16),C.hx (n / 16%16),C.hx (n%16)]) M 0 rfl (by simp);refine sdo (v:=.string (⟨([C.hx (n / 16 / 16 / 16 / 16),C.hx (n / 16 / 16 / 16%16),C.hx (n / 16 / 16%16),C.hx (n / 16%16),C.hx (n%16)]:List UInt8).toArray⟩)) A (uj rfl (uh ib ir gi hrb9 _)) λA=>?_;refine sda A λA=>?_;refine qa (cx _ _ (wp_ret (hret _ _ (en2 A rfl (qf rfl) (qf rfl) ?_))));exact⟨by rw[show C.hexD n=[C.hx (n / 16 / 16 / 16 / 16),C.hx (n / 16 / 16 / 16%16),C.hx (n / 16 / 16%16),C.hx (n / 16%16),C.hx (n%16)]from yh (by omega) (yh (by omega) (yh (by omega) (yh (by omega) (qsd (by omega)))))],M.bel⟩
    ·have ae':=fy ae;refine sdc A zt ae λA=>?_;refine qcf am A ?_;refine wp_exit (ah _ _ (wsr fun _ cy=>sdm A λA=>?_));refine sdo (v:=iV 61) A dbK λA=>?_;refine sda A λA=>?_;refine qa (cy _ _ (wrl ?_));iterate 2 refine sdm A λA=>?_
     refine sdo (v:=.int .u8 ((((C.hx (n / 16 / 16 / 16)).toNat:Nat):Int))) A (xb (m:=n / 16 / 16 / 16) gi rfl rfl rfl (by omega)) λA=>?_;refine sdo (v:=pA g5 61) A (jj rfl rfl (fun w=>by kernel_rfl)) λA=>?_;refine qt A M rfl rfl (qj rfl rfl rfl (by kernel_rfl) M 0 rfl rfl rfl) 0 rfl rfl rfl ?_;intro _ M;refine qwk ag fun _ cz=>wsr fun _ db=>sdm A λA=>?_;refine qcf db A ?_;refine wp_skip (cz _ _ (wsk fun _ dd=>wsr fun _ de=>sdm A λA=>?_));refine qcf de A ?_;refine wp_skip (dd _ _ (wsr fun _ df=>sdm A λA=>?_));refine sdo (v:=.slice (some ⟨g5,61,none⟩) 4 4) A (ym rfl rfl (fun w=>by kernel_rfl)) λA=>?_;have hrb9:=qsc (ds:=[C.hx (n / 16 / 16 / 16),C.hx (n / 16 / 16%16),C.hx (n / 16%16),C.hx (n%16)]) M 0 rfl (by simp);refine sdo (v:=.string (⟨([C.hx (n / 16 / 16 / 16),C.hx (n / 16 / 16%16),C.hx (n / 16%16),C.hx (n%16)]:List UInt8).toArray⟩)) A (uj rfl (uh ib ir gi hrb9 _)) λA=>?_;refine sda A λA=>?_;refine qa (df _ _ (wp_ret (hret _ _ (en2 A rfl (qf rfl) (qf rfl) ?_))));exact⟨by rw[show C.hexD n=[C.hx (n / 16 / 16 / 16),C.hx (n / 16 / 16%16),C.hx (n / 16%16),C.hx (n%16)]from yh (by omega) (yh (by omega) (yh (by omega) (qsd (by omega))))],M.bel⟩
   ·have ac':=fy ac;refine sdc A zt ac λA=>?_;refine qcf ak A ?_;refine wp_exit (ah _ _ (wsr fun _ dg=>sdm A λA=>?_));refine sdo (v:=iV 62) A dbK λA=>?_;refine sda A λA=>?_;refine qa (dg _ _ (wrl ?_));iterate 2 refine sdm A λA=>?_
    refine sdo (v:=.int .u8 ((((C.hx (n / 16 / 16)).toNat:Nat):Int))) A (xb (m:=n / 16 / 16) gi rfl rfl rfl (by omega)) λA=>?_;refine sdo (v:=pA g5 62) A (jj rfl rfl (fun w=>by kernel_rfl)) λA=>?_;refine qt A M rfl rfl (qj rfl rfl rfl (by kernel_rfl) M 0 rfl rfl rfl) 0 rfl rfl rfl ?_;intro _ M;refine qwk ag fun _ dh=>wsr fun _ di=>sdm A λA=>?_;refine qcf di A ?_;refine wp_skip (dh _ _ (wsk fun _ dj=>wsr fun _ dk=>sdm A λA=>?_));refine qcf dk A ?_;refine wp_skip (dj _ _ (wsr fun _ dn=>sdm A λA=>?_));refine sdo (v:=.slice (some ⟨g5,62,none⟩) 3 3) A (ym rfl rfl (fun w=>by kernel_rfl)) λA=>?_;have hrb9:=qsc (ds:=[C.hx (n / 16 / 16),C.hx (n / 16%16),C.hx (n%16)]) M 0 rfl (by simp);refine sdo (v:=.string (⟨([C.hx (n / 16 / 16),C.hx (n / 16%16),C.hx (n%16)]:List UInt8).toArray⟩)) A (uj rfl (uh ib ir gi hrb9 _)) λA=>?_;refine sda A λA=>?_;refine qa (dn _ _ (wp_ret (hret _ _ (en2 A rfl (qf rfl) (qf rfl) ?_))));exact⟨by rw[show C.hexD n=[C.hx (n / 16 / 16),C.hx (n / 16%16),C.hx (n%16)]from yh (by omega) (yh (by omega) (qsd (by omega)))],M.bel⟩
  ·have ab':=fy ab;refine sdc A zt ab λA=>?_;refine qcf aj A ?_;refine wp_exit (ah _ _ (wsr fun _ dq=>sdm A λA=>?_));refine sdo (v:=iV 63) A dbK λA=>?_;refine sda A λA=>?_;refine qa (dq _ _ (wrl ?_));iterate 2 refine sdm A λA=>?_
   refine sdo (v:=.int .u8 ((((C.hx (n / 16)).toNat:Nat):Int))) A (xb (m:=n / 16) gi rfl rfl rfl (by omega)) λA=>?_;refine sdo (v:=pA g5 63) A (jj rfl rfl (fun w=>by kernel_rfl)) λA=>?_;refine qt A M rfl rfl (qj rfl rfl rfl (by kernel_rfl) M 0 rfl rfl rfl) 0 rfl rfl rfl ?_;intro _ M;refine qwk ag fun _ dr=>wsr fun _ dt=>sdm A λA=>?_;refine qcf dt A ?_;refine wp_skip (dr _ _ (wsk fun _ du=>wsr fun _ dv=>sdm A λA=>?_));refine qcf dv A ?_;refine wp_skip (du _ _ (wsr fun _ dw=>sdm A λA=>?_));refine sdo (v:=.slice (some ⟨g5,63,none⟩) 2 2) A (ym rfl rfl (fun w=>by kernel_rfl)) λA=>?_;have hrb9:=qsc (ds:=[C.hx (n / 16),C.hx (n%16)]) M 0 rfl (by simp);refine sdo (v:=.string (⟨([C.hx (n / 16),C.hx (n%16)]:List UInt8).toArray⟩)) A (uj rfl (uh ib ir gi hrb9 _)) λA=>?_;refine sda A λA=>?_;refine qa (dw _ _ (wp_ret (hret _ _ (en2 A rfl (qf rfl) (qf rfl) ?_))));exact⟨by rw[show C.hexD n=[C.hx (n / 16),C.hx (n%16)]from yh (by omega) (qsd (by omega))],M.bel⟩
 ·have aa':=fy aa;refine sdc A zt aa λA=>?_;refine qcf ai A ?_;refine wp_exit (ah _ _ (wsr fun _ dx=>sdm A λA=>?_));refine sdo (v:=iV 64) A dbK λA=>?_;refine sda A λA=>?_;refine qa (dx _ _ (wrl ?_));iterate 2 refine sdm A λA=>?_
  refine sdo (v:=.int .u8 ((((C.hx n).toNat:Nat):Int))) A (xb (m:=n) gi rfl rfl rfl (by omega)) λA=>?_;refine sdo (v:=pA g5 64) A (jj rfl rfl (fun w=>by kernel_rfl)) λA=>?_;refine qt A M rfl rfl (qj rfl rfl rfl (by kernel_rfl) M 0 rfl rfl rfl) 0 rfl rfl rfl ?_;intro _ M;refine qwk ag fun _ dy=>wsr fun _ dz=>sdm A λA=>?_;refine qcf dz A ?_;refine wp_skip (dy _ _ (wsk fun _ d5=>wsr fun _ d6=>sdm A λA=>?_));refine qcf d6 A ?_;refine wp_skip (d5 _ _ (wsr fun _ d7=>sdm A λA=>?_));refine sdo (v:=.slice (some ⟨g5,64,none⟩) 1 1) A (ym rfl rfl (fun w=>by kernel_rfl)) λA=>?_;have hrb9:=qsc (ds:=[C.hx n]) M 0 rfl (by simp);refine sdo (v:=.string (⟨([C.hx n]:List UInt8).toArray⟩)) A (uj rfl (uh ib ir gi hrb9 _)) λA=>?_;refine sda A λA=>?_;refine qa (d7 _ _ (wp_ret (hret _ _ (en2 A rfl (qf rfl) (qf rfl) ?_))));exact⟨by rw[show C.hexD n=[C.hx n]from qsd (by omega)],M.bel⟩
theorem xcc{w:World}(hz:C.Tz16 w){n:Nat}(hn:n≤1114111):Calls Tryz.prog 309 #[iV ((n:Nat):Int),iV 16] w (RB w (.string ⟨(C.hexD n).toArray⟩)):=by
 have M:=Mg.start w;refine wof Tryz.func309 Tryz.ntmps309 fun Q hret hnorm hP a A=>?_;refine wsr fun _ aa=>sda A λA=>?_;refine qwk aa fun _ ab=>wsr fun _ ac=>sdm A λA=>?_;refine sdo (v:=bV false) A dbK λA=>?_;refine qcf ac A ?_;refine wp_skip (ab _ _ (wsr fun K4 ae=>sdm A λA=>?_));refine sdo (v:=.int .u64 (((n:Nat):Int))) A (zk rfl (ar_conv Tryz.underlying2 Tryz.underlying91 (in_u64 (by omega) (by omega)))) λA=>?_;iterate 2 refine sdm A λA=>?_
 refine sdo (v:=bV false) A (qb rfl rfl (fun w=>(qy w).trans (by rw[show(decide (((n:Nat):Int)<0))=false from(gn (by omega))]))) λA=>?_;refine gcl A M ec (xcb (vq hz M.bel) hn) fun _ _ M a A=>?_;refine sdm A λA=>?_;iterate 2 refine sde A λA=>?_
 iterate 2 refine sda A λA=>?_
 refine qwr ae fun _ af=>sdm A λA=>?_;refine sda A λA=>?_;refine qr1 af hret A ?_;exact⟨rfl,M.bel⟩
theorem xib{w:World}(hz:C.Tz16 w){n:Nat}(hn:n≤1114111):Calls Tryz.prog 282 #[iV ((n:Nat):Int),iV 16] w (RB w (.string ⟨(C.hexD n).toArray⟩)):=by
 have M:=Mg.start w;refine wof Tryz.func282 Tryz.ntmps282 fun Q hret hnorm hP a A=>?_;refine wsr fun _ aa=>sda A λA=>?_;refine qwr aa fun _ ab=>?_;iterate 2 refine sdm A λA=>?_
 refine gcl A M ec (xcc (vq hz M.bel) hn) fun _ _ M a A=>?_;refine sda A λA=>?_;refine qr1 ab hret A ?_;exact⟨rfl,M.bel⟩
open Go.RowKit Go.Shelf
def QT(T:List Ck):Prop:=∀d∈T,∃g o,d=.obj g o∧qia o
theorem QT.nil: QT []:=fun d h=>by cases h
theorem QT.cons{g:Nat}{cs:Array Value}{t:TypeId}{T:List Ck}(h:t≠BY)(hT:QT T):QT (.obj g (.cells cs t)::T):=fun d hd=>by
  rcases ik.1 hd with rfl|hd
  · exact⟨_,_,rfl,kj h⟩
  · exact hT d hd
theorem jri{w0 w:World}{gw:Nat}{ob:Obj}{v:Value}{q:Nat}{xs:List Value}{T:List Ck}(hM:Mg w0 w (.obj gw ob::.row BY 1 v q xs::T))(ho:qia ob)(hT:QT T){r:Int}(hr0:-2147483648≤r)(hr1:r≤2147483647)(hlen:q+4≤140737488355328):
    Calls Tryz.prog 254 #[v,.int .i32 r] w fun e w'=>∃v',e=.returned v'∧Mg w0 w' (.obj gw ob::.row BY 1 v' (q+(Lib.runeCells r).length) (xs++Lib.runeCells r)::T):=by
  refine(Any.utf8_AppendRune_plain Tryz.laysAppend (by kernel_rfl) w0.heap.size v q xs r hr0 hr1 w (hM.has 1 rfl) hlen hM.bel.size).mono ?_;rintro e w' ⟨v',rfl,hown,o,hgr⟩;refine⟨v',rfl,?_⟩;have aa:Mg w0 (w.alloc o) (.obj gw ob::.row BY 1 v q xs::T):=hM.call ((Below.refl _ _).alloc (gm _) _);have key:∀g o',Ck.holds w0.heap.size (w.alloc o) (.obj g o')→Ap (.row BY 1 v q xs) (.obj g o')→qia o'→v'.ownBlock≠some g:=fun g o' hd ha hq hg=>by
    have hd':=Ck.grown hd (aa.has 1 rfl) (by simp) ha hgr;rcases hown.2 with⟨rfl,_⟩|⟨g2,cap,cur,rfl,hbg,hgc,_⟩
    · cases hg
    · have e1:g2=g:=io hg;subst e1;exact hq cur (0,0) (io (hd'.2.symm.trans hgc))
  refine aa.turn 1 (c':=.row BY 1 v' _ _) rfl (by simp) hgr hown (fun d hd ha=>?_);rcases ik.1 hd with rfl|hd
  · exact key _ _ (aa.has 0 rfl) ha ho
  · rcases ik.1 hd with rfl|hd2
    · rcases ha with h0|h0
      · by_cases h1:v'.ownBlock=none
        · exact .inl h1
        · exact .inr (fun e=>h1 (e.trans h0))
      · exact absurd rfl h0
    · obtain⟨g,o',rfl,hq⟩:=hT d hd2;exact key _ _ (aa.all _ (ix _ hd)) ha hq
theorem TwC_is1_27: Is1 Tryz.prog 27:=⟨⟨_,ib,rfl⟩,by kernel_rfl⟩
theorem TwC_fld_71_1: FieldAt Tryz.prog 71 1 1:=⟨_,_,Tryz.underlying71,rfl,rfl,by kernel_rfl⟩
theorem jrj{bs:List UInt8}{b:UInt8}:bs.length+1=(bs++[b]).length:=by simp
theorem zzh{bs:List UInt8}{r:Int}:bs.length+(Lib.runeCells r).length=(bs++Lib.encodeRune r).length:=by rw[fv,Lib.runeCells_length]
theorem zx{w0 w:World}{gw:Nat}{p v:Value}{pl:Bool}{bs:List UInt8}{T:List Ck}(hp:p=.pointer none∨p=(pA gw 0))(hM0:Mg w0 w (.obj gw (.cells #[p,v,bV pl] 182)::.row BY 1 v bs.length (Lib.byteCells bs)::T))(hT:QT T){b:UInt8}(hroom:bs.length+1≤1000000000):Calls Tryz.prog 242 #[pA gw 0,.int .u8 ((b.toNat:Nat):Int)] w fun e w'=>e=.returned .nilIface∧∃v',Mg w0 w' (.obj gw (.cells #[pA gw 0,v',bV pl] 182)::.row BY 1 v' (bs++[b]).length (Lib.byteCells (bs++[b]))::T):=by
 have hqX:∀d∈T,zvb d:=fun d hd=>by obtain⟨g,o,rfl,hq⟩:=hT d hd; exact hq
 have M:Mg w0 w (.obj gw (.cells #[p,v,bV pl] 182)::.row BY 1 (v) bs.length ((Lib.byteCells bs))::T):=hM0;refine wof Tryz.func242 Tryz.ntmps242 fun Q hret hnorm hP a A=>?_;refine wsr fun _ ac=>sda A λA=>?_;refine qwr ac fun _ ae=>sdm A λA=>?_;refine sct A ec (zxh hp M) ?_;rintro _ _ ⟨rfl,hMc⟩;replace M:=hMc;refine⟨_,rfl,?_⟩;intro a A;refine qwr ae fun K4 af=>?_;iterate 2 refine sdm A λA=>?_
 refine sdn A λA=>?_;refine sdf A 1 TwC_fld_71_1 λA=>?_;refine sdl A M TwC_is1_27 0 λA=>?_;refine sdm A λA=>?_;refine xjd (vs:=[.int .u8 (((b.toNat:Nat):Int))]) A M rfl rfl rfl (qg rfl (by kernel_rfl)) rfl rfl (qi (by simp) (qi (by simp) (za hqX))) ?_;intro g5 _ M a A;refine qwi (k:=2) (q:=bs.length) (m:=1) (xs:=(Lib.byteCells bs)) (news:=[.int .u8 (((b.toNat:Nat):Int))]) A rfl rfl rfl (jla ib (by kernel_rfl) M 2 rfl rfl 0 rfl rfl rfl rfl (by omega)) (fun _=>rfl) ?_;intro _ _ M a A;obtain⟨ag,aa,rfl⟩:=yd (M.has 2 rfl);refine sdn A λA=>?_;refine sdf A 1 TwC_fld_71_1 λA=>?_;refine qt A M rfl rfl (qj rfl rfl rfl (by kernel_rfl) M 1 rfl rfl rfl) 1 rfl rfl rfl ?_;intro _ M;refine qwr af fun _ ab=>sda A λA=>?_;refine qr1 ab hret A ?_;refine⟨rfl,.slice ag ((bs.length+1)) aa,?_⟩;have ah:=M.sub (L':=_) (cN (cC (cC (.refl _))));rw[←jrj,Lib.byteCells_append];exact ah
theorem kb{w0 w:World}{gw:Nat}{p v:Value}{pl:Bool}{bs:List UInt8}{T:List Ck}(hp:p=.pointer none∨p=(pA gw 0))(hM0:Mg w0 w (.obj gw (.cells #[p,v,bV pl] 182)::.row BY 1 v bs.length (Lib.byteCells bs)::T))(hT:QT T){r:Int}(hr0:-2147483648≤r)(hr1:r≤2147483647)(hroom:bs.length+4≤140737488355328):Calls Tryz.prog 207 #[pA gw 0,.int .i32 r] w fun e w'=>∃z,e=.returned z∧∃v',Mg w0 w' (.obj gw (.cells #[pA gw 0,v',bV pl] 182)::.row BY 1 v' (bs++Lib.encodeRune r).length (Lib.byteCells (bs++Lib.encodeRune r))::T):=by
 obtain⟨ab,ac,rfl⟩:=yd (hM0.has 1 rfl);have M:Mg w0 w (.obj gw (.cells #[p,.slice ab bs.length ac,bV pl] 182)::.row BY 1 (.slice ab bs.length ac) bs.length ((Lib.byteCells bs))::T):=hM0;refine wof Tryz.func207 Tryz.ntmps207 fun Q hret hnorm hP a A=>?_;refine wsr fun _ af=>?_;iterate 2 refine sda A λA=>?_
 refine qwr af fun _ ag=>sdm A λA=>?_;refine sct A ec (zxh hp M) ?_;rintro _ _ ⟨rfl,hMc⟩;replace M:=hMc;refine⟨_,rfl,?_⟩;intro a A;refine qwr ag fun K4 ah=>sdm A λA=>?_;refine sdn A λA=>?_;refine sdf A 1 TwC_fld_71_1 λA=>?_;refine sdl A M TwC_is1_27 0 λA=>?_;refine sdo A (qr ib rfl) λA=>?_;refine sda A λA=>?_;refine qwr ah fun _ ai=>?_;iterate 2 refine sdm A λA=>?_
 refine sdn A λA=>?_;refine sdf A 1 TwC_fld_71_1 λA=>?_;refine sdl A M TwC_is1_27 0 λA=>?_;refine sdm A λA=>?_;refine sct A ec (jri M (kj (by decide)) hT hr0 hr1 hroom) ?_;rintro _ _ ⟨_,rfl,ae⟩;obtain⟨aj,ak,rfl⟩:=yd (ae.has 1 rfl);replace M:=ae;refine⟨_,rfl,?_⟩;intro a A;refine sdn A λA=>?_;refine sdf A 1 TwC_fld_71_1 λA=>?_;refine qt A M rfl rfl (qj rfl rfl rfl (by kernel_rfl) M 0 rfl rfl rfl) 0 rfl rfl rfl ?_;intro _ M;refine qwr ai fun _ aa=>sdm A λA=>?_;refine sdn A λA=>?_;refine sdf A 1 TwC_fld_71_1 λA=>?_;refine sdl A M TwC_is1_27 0 λA=>?_;refine sdo A (qr ib rfl) λA=>?_;refine sdm A λA=>?_;refine sdo (v:=iV (IntKind.i64.wrap ((((bs.length+(Lib.runeCells r).length):Nat):Int)-((bs.length:Nat):Int)))) A (qb rfl rfl (ar_sub rfl)) λA=>?_;iterate 2 refine sda A λA=>?_
 refine qa (aa _ _ (wp_ret (hret _ _ (en2 A rfl (qf rfl) (qf rfl) ?_))));refine⟨_,rfl,.slice aj ((bs.length+(Lib.runeCells r).length)) ak,?_⟩;rw[←zzh,Lib.byteCells_append,Lib.byteCells_encodeRune];exact M
theorem TwD_fld_182_0: FieldAt Tryz.prog 182 0 0:=⟨_,_,lh,rfl,rfl,by kernel_rfl⟩
theorem zzi{w0 w:World}{gw:Nat}{p v:Value}{pl:Bool}{bs:List UInt8}{T:List Ck}(hp:p=.pointer none∨p=(pA gw 0))(hM0:Mg w0 w (.obj gw (.cells #[p,v,bV pl] 182)::.row BY 1 v bs.length (Lib.byteCells bs)::T))(hT:QT T)  (hroom:bs.length+([35,116]).length≤1000000000):Calls Tryz.prog 193 #[pA gw 0,bV true] w fun e w'=>e=.returned (.tuple #[])∧∃v',Mg w0 w' (.obj gw (.cells #[pA gw 0,v',bV pl] 182)::.row BY 1 v' (bs++([35,116])).length (Lib.byteCells (bs++([35,116])))::T):=by
 have M:Mg w0 w (.obj gw (.cells #[p,v,bV pl] 182)::.row BY 1 (v) bs.length ((Lib.byteCells bs))::T):=hM0;refine wof Tryz.func193 Tryz.ntmps193 fun Q hret hnorm hP a A=>?_;refine wsr fun _ aa=>sdm A λA=>?_;refine qct aa A ?_;refine wrl (sdm A λA=>?_);refine sdn A λA=>?_;refine sdf A 0 TwD_fld_182_0 λA=>?_;refine sct A ec (jo hp (toW (X:=[]) M) (s:=⟨#[35,116]⟩) (by simp only[fv,fw,fx,Array.size,ByteArray.size,gg]at *; omega)) ?_;rintro _ _ ⟨rfl,v2,ab⟩;replace M:=(zi (X:=[]) ab);refine⟨_,rfl,?_⟩;intro a A;refine qa (hnorm _ _ (jq (v:=.tuple #[]) A rfl .nil rfl ?_));refine⟨rfl,v2,?_⟩;have ac:=M.sub (L':=_::_::T) (cC (cC (.refl _)));simpa only[f4,gh,gq,f8]using ac
theorem zsf{w0 w:World}{gw:Nat}{p v:Value}{pl:Bool}{bs:List UInt8}{T:List Ck}(hp:p=.pointer none∨p=(pA gw 0))(hM0:Mg w0 w (.obj gw (.cells #[p,v,bV pl] 182)::.row BY 1 v bs.length (Lib.byteCells bs)::T))(hT:QT T)  (hroom:bs.length+([35,102]).length≤1000000000):Calls Tryz.prog 193 #[pA gw 0,bV false] w fun e w'=>e=.returned (.tuple #[])∧∃v',Mg w0 w' (.obj gw (.cells #[pA gw 0,v',bV pl] 182)::.row BY 1 v' (bs++([35,102])).length (Lib.byteCells (bs++([35,102])))::T):=by
 have M:Mg w0 w (.obj gw (.cells #[p,v,bV pl] 182)::.row BY 1 (v) bs.length ((Lib.byteCells bs))::T):=hM0;refine wof Tryz.func193 Tryz.ntmps193 fun Q hret hnorm hP a A=>?_;refine wsr fun _ aa=>sdm A λA=>?_;refine qcf aa A ?_;refine wrl (sdm A λA=>?_);refine sdn A λA=>?_;refine sdf A 0 TwD_fld_182_0 λA=>?_;refine sct A ec (jo hp (toW (X:=[]) M) (s:=⟨#[35,102]⟩) (by simp only[fv,fw,fx,Array.size,ByteArray.size,gg]at *; omega)) ?_;rintro _ _ ⟨rfl,v2,ab⟩;replace M:=(zi (X:=[]) ab);refine⟨_,rfl,?_⟩;intro a A;refine qa (hnorm _ _ (jq (v:=.tuple #[]) A rfl .nil rfl ?_));refine⟨rfl,v2,?_⟩;have ac:=M.sub (L':=_::_::T) (cC (cC (.refl _)));simpa only[f4,gh,gq,f8]using ac
theorem jsa{w0 w:World}{gw:Nat}{v:Value}{pl:Bool}{bs:List UInt8}{T:List Ck}(hM0:Mg w0 w (.obj gw (.cells #[pA gw 0,v,bV pl] 182)::.row BY 1 v bs.length (Lib.byteCells bs)::T)):Calls Tryz.prog 250 #[pA gw 0,iV 0] w fun e w'=>e=.returned (.tuple #[])∧Mg w0 w' (.obj gw (.cells #[pA gw 0,v,bV pl] 182)::.row BY 1 v bs.length (Lib.byteCells bs)::T):=by
 have M:Mg w0 w (.obj gw (.cells #[pA gw 0,v,bV pl] 182)::.row BY 1 (v) bs.length ((Lib.byteCells bs))::T):=hM0;refine wof Tryz.func250 Tryz.ntmps250 fun Q hret hnorm hP a A=>?_;refine wsr fun _ aa=>sdm A λA=>?_;refine sdo (v:=bV false) A dbK λA=>?_;refine qcf aa A ?_;refine wp_skip (hnorm _ _ (jq (v:=.tuple #[]) A rfl .nil rfl ?_));exact⟨rfl,M⟩
theorem jsb{w0 w:World}{gw:Nat}{p v:Value}{pl:Bool}{bs:List UInt8}{T:List Ck}(hp:p=.pointer none∨p=(pA gw 0))(hM0:Mg w0 w (.obj gw (.cells #[p,v,bV pl] 182)::.row BY 1 v bs.length (Lib.byteCells bs)::T))(hT:QT T){i:Int}(hi:0<i)(hroom:bs.length+([32]).length≤1000000000):Calls Tryz.prog 250 #[pA gw 0,iV i] w fun e w'=>e=.returned (.tuple #[])∧∃v',Mg w0 w' (.obj gw (.cells #[pA gw 0,v',bV pl] 182)::.row BY 1 v' (bs++([32])).length (Lib.byteCells (bs++([32])))::T):=by
 have M:Mg w0 w (.obj gw (.cells #[p,v,bV pl] 182)::.row BY 1 (v) bs.length ((Lib.byteCells bs))::T):=hM0;refine wof Tryz.func250 Tryz.ntmps250 fun Q hret hnorm hP a A=>?_;refine wsr fun _ aa=>sdm A λA=>?_;refine sdo (v:=bV true) A (qb rfl rfl (fun w=>(jh w).trans (by rw[show(decide (0<i))=true from(gv hi)]))) λA=>?_;refine qct aa A ?_;refine wrl (sdm A λA=>?_);refine sdn A λA=>?_;refine sdf A 0 TwD_fld_182_0 λA=>?_;refine sct A ec (zx hp (toW (X:=[]) M) hT (b:=32) (by simp only[fv,fw,fx,Array.size,ByteArray.size,gg]at *; omega)) ?_;rintro _ _ ⟨rfl,v2,ab⟩;replace M:=(zi (X:=[]) ab);refine⟨_,rfl,?_⟩;intro a A;refine qa (hnorm _ _ (jq (v:=.tuple #[]) A rfl .nil rfl ?_));refine⟨rfl,v2,?_⟩;have ac:=M.sub (L':=_::_::T) (cC (cC (.refl _)));simpa only[f4,gh,gq,f8]using ac
theorem xic{w0 w:World}{gw:Nat}{p v:Value}{pl:Bool}{bs:List UInt8}{T:List Ck}(hp:p=.pointer none∨p=(pA gw 0))(hM0:Mg w0 w (.obj gw (.cells #[p,v,bV pl] 182)::.row BY 1 v bs.length (Lib.byteCells bs)::T))(hT:QT T){s:ByteArray}(hroom:bs.length+([35,60]++s.data.toList++[62]).length≤1000000000):Calls Tryz.prog 201 #[pA gw 0,.string s] w fun e w'=>e=.returned (.tuple #[])∧∃v',Mg w0 w' (.obj gw (.cells #[pA gw 0,v',bV pl] 182)::.row BY 1 v' (bs++([35,60]++s.data.toList++[62])).length (Lib.byteCells (bs++([35,60]++s.data.toList++[62])))::T):=by
 have M:Mg w0 w (.obj gw (.cells #[p,v,bV pl] 182)::.row BY 1 (v) bs.length ((Lib.byteCells bs))::T):=hM0;refine wof Tryz.func201 Tryz.ntmps201 fun Q hret hnorm hP a A=>?_;refine wsr fun _ ab=>sdm A λA=>?_;refine sdn A λA=>?_;refine sdf A 0 TwD_fld_182_0 λA=>?_;refine sct A ec (jo hp (toW (X:=[]) M) (s:=⟨#[35,60]⟩) (by simp only[fv,fw,fx,Array.size,ByteArray.size,gg]at *; omega)) ?_;rintro _ _ ⟨rfl,_,ac⟩;replace M:=(zi (X:=[]) ac);refine⟨_,rfl,?_⟩;intro a A;refine qwr ab fun _ ae=>sdm A λA=>?_;refine sdn A λA=>?_;refine sdf A 0 TwD_fld_182_0 λA=>?_;refine sdm A λA=>?_;refine sct A ec (jo (.inr rfl) (toW (X:=[]) M) (s:=s) (by simp only[fv,fw,fx,Array.size,ByteArray.size,gg]at *; omega)) ?_;rintro _ _ ⟨rfl,_,af⟩;replace M:=(zi (X:=[]) af);refine⟨_,rfl,?_⟩;intro a A;refine qa (ae _ _ (wrl (sdm A λA=>?_)));refine sdn A λA=>?_;refine sdf A 0 TwD_fld_182_0 λA=>?_;refine sct A ec (zx (.inr rfl) (toW (X:=[]) M) hT (b:=62) (by simp only[fv,fw,fx,Array.size,ByteArray.size,gg]at *; omega)) ?_;rintro _ _ ⟨rfl,v9,aa⟩;replace M:=(zi (X:=[]) aa);refine⟨_,rfl,?_⟩;intro a A;refine qa (hnorm _ _ (jq (v:=.tuple #[]) A rfl .nil rfl ?_));refine⟨rfl,v9,?_⟩
 have ag:=M.sub (L':=_::_::T) (cC (cC (.refl _)));simpa only[f4,gh,gq,f8]using ag
end Go.Proofs.YtmnlfahgklnpeaaGreatDoor.G
namespace Go.Proofs.YtmnlfahgklnpeaaGreatDoor.C
open Go.RowKit

def dc(k:Nat):UInt8:=(48+k).toUInt8
def decD(n:Nat):List UInt8:=if n<10 then[dc n]else decD (n / 10)++[dc (n%10)]
termination_by n
decreasing_by omega
def zmd(b:Bool)(k:Nat):List UInt8:=if b=true∨k≠0 then decD k else[]
theorem jjc{b:Bool}{k:Nat}(h:b=true∨k≠0):zmd b k=zmd false (k / 10)++[dc (k%10)]:=by
  unfold zmd;rw[gj h];by_cases h16:k<10
  · rw[decD,gj h16,f7 (by simp; omega),Nat.mod_eq_of_lt h16]; rfl
  · rw[decD,f7 h16,gj (by simp; omega)]
theorem xid(k:Nat):((dc (k%10)).toNat:Int)=48+((k:Nat):Int)%10:=by
  unfold dc;have:k%10<10:=Nat.mod_lt _ (by decide);have h2:((48+k%10).toUInt8).toNat=48+k%10:=by simp; omega
  rw[h2]; omega
theorem rdec_any(n:Nat)(hn:n≤255)(w:World):Calls Tryz.prog 112 #[.int .i64 ((n:Nat):Int)] w fun e w'=>e=.returned (.string ⟨(decD n).toArray⟩)∧Below w.heap.size w w':=by
  go_enter Tryz.func112,Tryz.ntmps112
  go_wp2
  go_loopw [0,3,4] (fun v s f wr=>∃(k:Nat) (t:List UInt8) (b:Bool),v=.int .i64 ((k:Nat):Int)∧s=.string ⟨t.toArray⟩∧f=.bool b∧k≤255∧t.length+k+isT f≤256∧Below w.heap.size w wr∧Hid (decD n=zmd b k++t)) (fun v s f wr=>(intOf v).toNat+isT f)
  case atStart=>exact⟨n,[],true,rfl,rfl,rfl,hn,by simp[isT]; omega,Below.refl _ _,by show decD n=zmd true n++[]; unfold zmd; simp⟩
  case round=>
    obtain⟨k,t,b,rfl,rfl,rfl,hk,htl,hbw,HT⟩:=hrel;have hcv:∀c:UInt8,(convert 27 9 (.slice (some ⟨wr.heap.size,0,none⟩) 1 1)).run Tryz.prog (wr.alloc (.cells #[.int .u8 ((c.toNat:Nat):Int)] 5))=.ok (.string ⟨#[c]⟩) (wr.alloc (.cells #[.int .u8 ((c.toNat:Nat):Int)] 5)):=fun c=>
      run_convert_bytes_back _ _ _ _ ⟨wr.heap.size,0,none⟩ 1 [c] ib ir gi (fun j hj=>by
        obtain rfl:j=0:=(by simpa using hj);exact xef _ _ _)
    have hlast:∀b,(b=true∨k≠0)→Hid (decD n=zmd b k++t)→decD n=zmd false (k / 10)++(dc (k%10)::t):=fun b hb h=>by
      have h2:decD n=zmd b k++t:=h;rw[h2,jjc hb,f4]; rfl
    have hcv2:(convert 27 9 (.slice (some ⟨wr.heap.size,0,none⟩) 1 1)).run Tryz.prog (wr.alloc (.cells #[.int .u8 (48+((k:Nat):Int)%10)] 5))=.ok (.string ⟨#[dc (k%10)]⟩) (wr.alloc (.cells #[.int .u8 (48+((k:Nat):Int)%10)] 5)):=by
      rw[←xid k]; exact hcv (dc (k%10))
    clear hcv;have hal:∀o,Below w.heap.size w (wr.alloc o):=fun o=>hbw.alloc hbw.size _;rcases b with _|_
    · by_cases ab:k=0
      · subst ab;have HT2:decD n=t:=HT.out;have HT3:Hid (decD n=t):=HT2;clear HT HT2
        go_wp2
        go_ret
        exact⟨by rw[←HT3.out]; rfl,hbw⟩
      · have _:(0:Int)<(k:Int):=(by omega);have aa:=hlast false (.inr ab) HT;have HL:Hid _:=aa;clear aa hlast HT
        go_wp2
        refine⟨⟨k / 10,dc (k%10)::t,false,by simp,by rw[xbi],rfl,by omega,by simp[isT]at *; omega,hal _,HL.out⟩,by simp[intOf,isT]; omega⟩
    · have aa:=hlast true (.inl rfl) HT;have HL:Hid _:=aa;clear aa hlast HT
      go_wp2
      refine⟨⟨k / 10,dc (k%10)::t,false,by simp,by rw[xbi],rfl,by omega,by simp[isT]at *; omega,hal _,HL.out⟩,by simp[intOf,isT]; omega⟩
def strC(r:Int):List UInt8:=
  if r=34 then[92,34]else if r=92 then[92,92]else if r=7 then[92,97]else if r=8 then[92,98]else if r=9 then[92,116]else if r=10 then[92,110]else if r=11 then[92,118]else if r=12 then[92,102]else if r=13 then[92,114]
  else if ctlB r=true∨r=8232∨r=65279 then[92,120]++hexD r.toNat++[59]else Lib.encodeRune r
theorem hexD_len: ∀n:Nat,n≤1114111→(hexD n).length≤6:=by
  have key:∀(f n:Nat),1≤f→n<16^f→(hexD n).length≤f:=by
    intro f
    induction f with
    | zero => intro n h; omega
    | succ f ih =>
      intro n _ hn;rw[hexD];by_cases h16:n<16
      · rw[gj h16]; simp
      · rw[f7 h16];have hf:1≤f:=by
          rcases f with _|f
          · simp at hn; omega
          · omega
        have:=ih (n / 16) hf (by rw[Nat.div_lt_iff_lt_mul (by decide)]; rw[Nat.pow_succ]at hn; exact hn);simp; omega
  intro n hn;exact key 6 n (by decide) (by have:(16:Nat)^6=16777216:=(by decide); omega)
theorem strC_len(r:Int)(h0:0≤r)(h1:r≤1114111):(strC r).length≤9:=by
  unfold strC;have h6:=hexD_len r.toNat (by omega);have h4:=encodeRune_len r;repeat (split; · simp)
  split
  · simp; omega
  · omega
end Go.Proofs.YtmnlfahgklnpeaaGreatDoor.C
namespace Go.Proofs.YtmnlfahgklnpeaaGreatDoor.G
open Go.RowKit Go.Lib

def jw(r:Int):List UInt8:=[92,120]++C.hexD r.toNat
def qad(pl:Bool)(r:Int):List UInt8:=if pl=true then encodeRune r else[35]++(if C.nameL r≠⟨#[]⟩then[92]++(C.nameL r).data.toList else if(C.blankB r||C.ctlB r)=true then jw r else[92]++encodeRune r)
def qlc(pl:Bool)(s:ByteArray):List UInt8:=if pl=true then s.data.toList else[34]++(ze s.data.toList).flatMap C.strC++[34]
def inS(first:Bool)(r:Int):List UInt8:=if(C.firstB r||(!first&&C.restB r))=true then encodeRune r else jw r++[59]
def inL(first:Bool):List Int→List UInt8
  | [] => []
  | r :: rs => inS first r ++ inL false rs
def qaj(pl:Bool)(s:ByteArray):List UInt8:=if pl=true∨s=⟨#[43]⟩∨s=⟨#[45]⟩∨s=⟨#[46,46,46]⟩then s.data.toList else if s=⟨#[]⟩then[124,124]else if hasPrefix s.data.toList [45,62]=true then[45,62]++inL false (ze (s.data.toList.drop 2))else inL true (ze s.data.toList)
def quh(first:Bool):List UInt8→List UInt8
  | [] => []
  | b :: bs => (if first = true then [] else [32]) ++ C.decD b.toNat ++ quh false bs
def zmf(rl:List UInt8):List UInt8:=[35,118,117,56,40]++quh true rl++[41]
def vd(pl:Bool)(k n:Int)(q:Q6)(s:ByteArray)(rl:List UInt8):List UInt8:=
  if k=1 then[40,41]else if k=2 then(if n=1 then[35,116]else[35,102])else if k=3 then jv 10 q else if k=4 then qad pl n else if k=5 then qlc pl s else if k=6 then qaj pl s else if k=7 then zmf rl else if k=10 then[35,60,118,111,105,100,62]else[35,60]++s.data.toList++[62]
def isQ(t:Tr):Bool:=decide (t.k=6)&&decide (t.s=⟨#[113,117,111,116,101]⟩)
mutual
def wrT(pl:Bool):Tr→List UInt8
  | .mk k n q s rl ts => if k = 8 then prT pl ts else if k = 9 then [35, 40] ++ wrL pl true ts ++ [41] else vd pl k n q s rl
def prT(pl:Bool):List Tr→List UInt8
  | [] => []
  | [_] => []
  | a :: b :: _ => if (isQ a && qtT b) = true then [39] ++ itT pl b else [40] ++ wrT pl a ++ tlT pl b ++ [41]
def tlT(pl:Bool):Tr→List UInt8
  | .mk k n q s rl ts => if k = 8 then tl2 pl ts else if k = 1 then [] else [32, 46, 32] ++ (if k = 9 then [35, 40] ++ wrL pl true ts ++ [41] else vd pl k n q s rl)
def tl2(pl:Bool):List Tr→List UInt8
  | [] => []
  | [_] => []
  | a :: b :: _ => [32] ++ wrT pl a ++ tlT pl b
def wrL(pl:Bool)(first:Bool):List Tr→List UInt8
  | [] => []
  | t :: ts => (if first = true then [] else [32]) ++ wrT pl t ++ wrL pl false ts
def itT(pl:Bool):Tr→List UInt8
  | .mk _ _ _ _ _ ts => it2 pl ts
def it2(pl:Bool):List Tr→List UInt8
  | [] => []
  | a :: _ => wrT pl a
def qtT: Tr→Bool
  | .mk k _ _ _ _ ts => decide (k = 8) && decide ((ts.getD 1 (.mk 0 0 Q6.none ⟨#[]⟩ [] [])).k = 1)
end
end Go.Proofs.YtmnlfahgklnpeaaGreatDoor.G
namespace Go.Proofs
open Go.Shelf
def Tryz.laysItoa_ren: Go.Shelf.Ren:=⟨fun|171=>251|243=>286|246=>309|283=>325|284=>326|285=>327|286=>328|129=>137|317=>334|318=>335|319=>336|320=>337|337=>343|338=>344|n=>n,fun|3=>3|9=>9|2=>2|4=>4|171=>293|0=>0|53=>91|37=>27|5=>5|173=>295|212=>301|51=>144|20=>20|213=>302|46=>142|232=>306|233=>307|n=>n,fun|17=>4|18=>5|19=>6|n=>n⟩
theorem Tryz.laysItoa: Go.Proofs.LaysM.n171 Tryz.prog Tryz.laysItoa_ren:={
  mixed:=by kernel_rfl
  f129:=Tryz.func137.trans (congrArg some (by kernel_rfl))
  f171:=Tryz.func251.trans (congrArg some (by kernel_rfl))
  f243:=Tryz.func286.trans (congrArg some (by kernel_rfl))
  f246:=Tryz.func309.trans (congrArg some (by kernel_rfl))
  f283:=Tryz.func325.trans (congrArg some (by kernel_rfl))
  f284:=Tryz.func326.trans (congrArg some (by kernel_rfl))
  f285:=Tryz.func327.trans (congrArg some (by kernel_rfl))
  f286:=Tryz.func328.trans (congrArg some (by kernel_rfl))
  f317:=Tryz.func334.trans (congrArg some (by kernel_rfl))
  f318:=Tryz.func335.trans (congrArg some (by kernel_rfl))
  f319:=Tryz.func336.trans (congrArg some (by kernel_rfl))
  f320:=Tryz.func337.trans (congrArg some (by kernel_rfl))
  f337:=Tryz.func343.trans (congrArg some (by kernel_rfl))
  f338:=Tryz.func344.trans (congrArg some (by kernel_rfl))
  t0:=Tryz.underlying0
  a0:=Tryz.isAgg0
  z0:=Tryz.sizeOf0
  v0:=Tryz.zeroValue0
  t2:=Tryz.underlying2
  a2:=Tryz.isAgg2
  z2:=Tryz.sizeOf2
  v2:=Tryz.zeroValue2
  t3:=Tryz.underlying3
  a3:=Tryz.isAgg3
  z3:=Tryz.sizeOf3
  v3:=Tryz.zeroValue3
  t4:=Tryz.underlying4
  a4:=Tryz.isAgg4
  z4:=Tryz.sizeOf4
  v4:=Tryz.zeroValue4
  t5:=Tryz.underlying5
  a5:=Tryz.isAgg5
  z5:=Tryz.sizeOf5
  v5:=Tryz.zeroValue5
  t9:=Tryz.underlying9
  a9:=Tryz.isAgg9
  z9:=Tryz.sizeOf9
  v9:=Tryz.zeroValue9
  t20:=Tryz.underlying20
  a20:=Tryz.isAgg20
  z20:=Tryz.sizeOf20
  v20:=Tryz.zeroValue20
  t37:=Tryz.underlying27
  a37:=Tryz.isAgg27
  z37:=Tryz.sizeOf27
  v37:=Tryz.zeroValue27
  t46:=Tryz.underlying142
  a46:=Tryz.isAgg142
  z46:=Tryz.sizeOf142
  v46:=Tryz.zeroValue142
  t51:=Tryz.underlying144
  a51:=Tryz.isAgg144
  z51:=Tryz.sizeOf144
  v51:=Tryz.zeroValue144
  t53:=Tryz.underlying91
  a53:=Tryz.isAgg91
  z53:=Tryz.sizeOf91
  v53:=Tryz.zeroValue91
  t171:=Tryz.underlying293
  a171:=Tryz.isAgg293
  z171:=Tryz.sizeOf293
  v171:=Tryz.zeroValue293
  t173:=Tryz.underlying295
  a173:=Tryz.isAgg295
  z173:=Tryz.sizeOf295
  v173:=Tryz.zeroValue295
  t212:=Tryz.underlying301
  a212:=Tryz.isAgg301
  z212:=Tryz.sizeOf301
  v212:=Tryz.zeroValue301
  t213:=Tryz.underlying302
  a213:=Tryz.isAgg302
  z213:=Tryz.sizeOf302
  t232:=Tryz.underlying306
  a232:=Tryz.isAgg306
  z232:=Tryz.sizeOf306
  v232:=Tryz.zeroValue306
  t233:=Tryz.underlying307
  a233:=Tryz.isAgg307
  z233:=Tryz.sizeOf307
  v233:=Tryz.zeroValue307
  g17:=by kernel_rfl
  g18:=by kernel_rfl
  g19:=by kernel_rfl
  i0:=by kernel_rfl
  i2:=by kernel_rfl
  i3:=by kernel_rfl
  i4:=by kernel_rfl
  i5:=by kernel_rfl
  i9:=by kernel_rfl
  i20:=by kernel_rfl
  i37:=by kernel_rfl
  i46:=by kernel_rfl
  i51:=by kernel_rfl
  i53:=by kernel_rfl
  i171:=by kernel_rfl
  i173:=by kernel_rfl
  i212:=by kernel_rfl
  i232:=by kernel_rfl
  i233:=by kernel_rfl
  m17:=by kernel_rfl
  m18:=by kernel_rfl
  m19:=by kernel_rfl }
end Go.Proofs
namespace Go.Proofs.YtmnlfahgklnpeaaGreatDoor.C
open Go.RowKit

def Tp10 (w : World) : Prop := Lib.TabIs Tryz.prog w "internal/strconv.uint64pow10" .u64 Lib.pow10Tab
theorem Tp10.below{w w':World}(h:Tp10 w)(hb:Below w.heap.size w w'):Tp10 w':=Joins.tab_stays (g:=4) (by kernel_rfl) h hb (gm _)
theorem jsf: ∀k:Fin 256,Lib.itoa (k.val:Int)=decD k.val:=by decide +kernel
theorem zsj(w:World)(k:Nat):Below w.heap.size w (w.drewN k):=by
  induction k with
  | zero => exact Below.refl _ _
  | succ k ih => exact ih.drew
theorem itoa_any{w:World}(h:Tp10 w){n:Nat}(hn:n<256):Calls Tryz.prog 251 #[.int .i64 ((n:Nat):Int)] w fun e w'=>e=.returned (.string ⟨(decD n).toArray⟩)∧Below w.heap.size w w':=by
  refine(Any.strconv_Itoa Tryz.laysItoa ((n:Nat):Int) (by omega) (by omega) w h).mono fun e w' ⟨h1,k,os,h2⟩=>?_;have e:=jsf ⟨n,hn⟩;simp only at e;rw[e]at h1;refine⟨h1,?_⟩;subst h2;have hb:=zsj w k;refine⟨hb.os,hb.tape,hb.output,?_,fun j hj=>?_⟩
  · have:=hb.size;show w.heap.size≤((w.drewN k).heap++os).size;rw[Array.size_append]; omega
  · show((w.drewN k).heap++os)[j]?=_;rw[Array.getElem?_append_left (j8 hj hb.size)];exact hb.block j hj
end Go.Proofs.YtmnlfahgklnpeaaGreatDoor.C
namespace Go.Proofs.YtmnlfahgklnpeaaGreatDoor.G
open Go.RowKit Go.Lib

theorem QT.it{g:Nat}{s:ByteArray}{p:Nat}{T:List Ck}(hT:QT T):QT (.obj g (.stringIter s p)::T):=fun d hd=>by
  rcases ik.1 hd with rfl|hd
  · exact⟨_,_,rfl,qmb _ _⟩
  · exact hT d hd
def abt(m:Nat):UInt8:=[97,98,116,110,118,102,114].getD m 0
def S7: ByteArray:=⟨#[97,98,116,110,118,102,114]⟩
theorem s7: ∀j:Fin 7,(S7.data.toList.getD j.val 0)=abt j.val:=by decide +kernel
theorem zmg{P:Program}{w:World}{l:List (Nat×Value)}{dst:Option Tmp}{ty:TypeId}{pos:String}{after:Array Edge}{guard:Option (Nat×Bool)}{t:TypeId}(ht:P.underlying t=some .string){x y:Operand}{m:Nat}{z:Int}(hx:ev l x=some (.string S7))(hy:ev l y=some (.int .i32 z))(hz:z=((m:Nat):Int))(hm:m<7):Does P l ⟨dst,.index t x y,ty,pos,after,guard⟩ w (.int .u8 (((abt m).toNat:Nat):Int)) w:=fun ρ h=>by
  subst hz;have hi:m<S7.size:=by show m<7; omega
  have:=run_index_string (P:=P) w t S7 .i32 ((m:Nat):Int) ht;have hi':m<S7.data.size:=hi;have e:S7.data.toList.getD m 0=S7[m]:=by
    rw[List.getD_eq_getElem?_getD,Array.getElem?_toList,Array.getElem?_eq_getElem hi'];rfl
  rw[←s7 ⟨m,hm⟩,e];simp[execOp,h x _ hx,h y _ hy,this,hi]
theorem jsg{n:Nat}(h0:7≤n)(h1:n≤13):C.strC ((n:Nat):Int)=[92]++[abt (n-7)]:=by
  have h:n=7∨n=8∨n=9∨n=10∨n=11∨n=12∨n=13:=by omega
  rcases h with rfl|rfl|rfl|rfl|rfl|rfl|rfl<;>rfl
theorem qkh{n:Nat}(h:n=34∨n=92):C.strC ((n:Nat):Int)=[92]++encodeRune ((n:Nat):Int):=by rcases h with rfl|rfl<;>rfl
theorem kt{n:Nat}(h:¬(7≤n∧n≤13))(h2:¬(n=34∨n=92))(h3:C.ctlB ((n:Nat):Int)=true∨((n:Nat):Int)=8232∨((n:Nat):Int)=65279):C.strC ((n:Nat):Int)=jw ((n:Nat):Int)++[59]:=by
  unfold C.strC jw;rw[f7 (by omega),f7 (by omega),f7 (by omega),f7 (by omega),f7 (by omega),f7 (by omega),f7 (by omega),f7 (by omega),f7 (by omega),gj h3]
theorem qnd{n:Nat}(h:¬(7≤n∧n≤13))(h2:¬(n=34∨n=92))(h3:¬(C.ctlB ((n:Nat):Int)=true∨((n:Nat):Int)=8232∨((n:Nat):Int)=65279)):C.strC ((n:Nat):Int)=encodeRune ((n:Nat):Int):=by
  unfold C.strC;rw[f7 (by omega),f7 (by omega),f7 (by omega),f7 (by omega),f7 (by omega),f7 (by omega),f7 (by omega),f7 (by omega),f7 (by omega),f7 h3]
theorem qae(n:Nat):jw ((n:Nat):Int)=[92,120]++C.hexD n:=by unfold jw; rw[Int.toNat_natCast]
theorem qfg{n:Nat}(h:n≤1114111):(jw ((n:Nat):Int)).length≤8:=by
  rw[qae,fv];have:=C.hexD_len n h;simp only[fw,fx];omega
theorem qfh(r:Int):(C.nameL r).data.toList.length≤9:=by
  unfold C.nameL;repeat' split
  all_goals decide
theorem qne(r:Int):(C.nameL r).size≤9:=by rw[←zm]; exact qfh r
theorem kp{n:Nat}(h:C.OkR ((n:Nat):Int)):n≤1114111:=by unfold C.OkR at h; omega
section
variable {pl:Bool} {n:Nat}
theorem xif(h:pl=true):qad pl ((n:Nat):Int)=encodeRune ((n:Nat):Int):=gj h
theorem jsh(h:pl=false)(h1:C.nameL ((n:Nat):Int)≠⟨#[]⟩):qad pl ((n:Nat):Int)=[35]++([92]++(C.nameL ((n:Nat):Int)).data.toList):=by unfold qad; rw[f7 (by rw[h]; decide),gj h1]
theorem zmh(h:pl=false)(h1:C.nameL ((n:Nat):Int)=⟨#[]⟩)(h2:(C.blankB ((n:Nat):Int)||C.ctlB ((n:Nat):Int))=true):qad pl ((n:Nat):Int)=[35]++jw ((n:Nat):Int):=by unfold qad; rw[f7 (by rw[h]; decide),f7 (fun k=>k h1),gj h2]
theorem jsi(h:pl=false)(h1:C.nameL ((n:Nat):Int)=⟨#[]⟩)(h2:(C.blankB ((n:Nat):Int)||C.ctlB ((n:Nat):Int))=false):qad pl ((n:Nat):Int)=[35]++([92]++encodeRune ((n:Nat):Int)):=by unfold qad; rw[f7 (by rw[h]; decide),f7 (fun k=>k h1),f7 (by rw[h2]; decide)]
end
open Go.RowKit
theorem TwG_is1_4: Is1 Tryz.prog 4:=⟨⟨_,lf,rfl⟩,by kernel_rfl⟩
theorem TwG_fld_182_0: FieldAt Tryz.prog 182 0 0:=⟨_,_,lh,rfl,rfl,by kernel_rfl⟩
theorem TwG_fld_182_1: FieldAt Tryz.prog 182 1 2:=⟨_,_,lh,rfl,rfl,by kernel_rfl⟩
theorem qlf{w0 w:World}{gw:Nat}{p v:Value}{pl:Bool}{bs:List UInt8}{T:List Ck}(hp:p=.pointer none∨p=(pA gw 0))(hM0:Mg w0 w (.obj gw (.cells #[p,v,bV pl] 182)::.row BY 1 v bs.length (Lib.byteCells bs)::T))(hT:QT T){n:Nat}(hn:n≤1114111)(hz:C.Tz16 w0)(hroom:bs.length+16≤1000000000):Calls Tryz.prog 246 #[pA gw 0,.int .i32 ((n:Nat):Int)] w fun e w'=>e=.returned (.tuple #[])∧∃v',Mg w0 w' (.obj gw (.cells #[pA gw 0,v',bV pl] 182)::.row BY 1 v' (bs++(jw ((n:Nat):Int))).length (Lib.byteCells (bs++(jw ((n:Nat):Int))))::T):=by
 have _:=C.hexD_len n hn;have M:Mg w0 w (.obj gw (.cells #[p,v,bV pl] 182)::.row BY 1 (v) bs.length ((Lib.byteCells bs))::T):=hM0;refine wof Tryz.func246 Tryz.ntmps246 fun Q hret hnorm hP a A=>?_;refine wsr fun _ aa=>sdm A λA=>?_;refine sdn A λA=>?_;refine sdf A 0 TwG_fld_182_0 λA=>?_;refine sct A ec (jo hp (toW (X:=[]) M) (s:=⟨#[92,120]⟩) (by first|omega|(simp only[fv,fw,fx]; omega)|(simp only[fv,fw,fx,ByteArray.size,gg,Array.size]; omega))) ?_;rintro _ _ ⟨rfl,_,ab⟩;replace M:=(zi (X:=[]) ab);refine⟨_,rfl,?_⟩;intro a A;refine qa (aa _ _ (xg (S:=fun w1=>Mg w0 w1 ([])) (by kernel_rfl) ?_));replace M:=M.drew;refine atk A 0 rfl hP (M.sub (cN (cN ns))) (λ_ M=>zr rfl) λA=>?_;refine atk A 1 rfl hP (M.sub (cN (cN ns))) (λ_ M=>qef rfl) λA=>?_;refine atk (v:=pA gw 0) A 2 rfl hP (M.sub (cN (cN ns))) (λ_ M=>qp TwG_fld_182_0 rfl rfl) λA=>?_;refine atk A 3 rfl hP (M.sub (cN (cN ns))) (λ_ M=>zr rfl) λA=>?_;refine atk (v:=iV (((n:Nat):Int))) A 4 rfl hP (M.sub (cN (cN ns))) (λ_ M=>zk rfl (ar_conv iz Tryz.underlying2 (in_i64 (by omega) (by omega)))) λA=>?_;refine zn (by kernel_rfl) (jc A 5 rfl rfl rfl rfl ec (xib (vq hz M.bel) hn) ?_);rintro _ _ ⟨rfl,ac⟩;replace M:=M.call ac;refine⟨_,rfl,(M.sub (cN (cN ns))),?_⟩;intro a A;refine zn (by kernel_rfl) (jc A 6 rfl rfl rfl rfl ec (jo (.inr rfl) (toW (X:=[]) M) (s:=⟨(C.hexD n).toArray⟩) (by first|omega|(simp only[fv,fw,fx]; omega)|(simp only[fv,fw,fx,ByteArray.size,gg,Array.size]; omega))) ?_);rintro _ _ ⟨rfl,v8,ae⟩
 replace M:=(zi (X:=[]) ae);refine⟨_,rfl,(M.sub (cN (cN ns))),?_⟩;intro a A;refine jl (by kernel_rfl) ?_;refine hnorm _ _ (jq (v:=.tuple #[]) A rfl .nil rfl ?_);refine⟨rfl,v8,?_⟩;have af:=M.sub (L':=_::_::T) (cC (cC (.refl _)));rw[show jw ((n:Nat):Int)=([92,120])++(C.hexD n)from qae n];simpa only[f4,gh,gq,f8]using af
theorem xla{w0 w:World}{gw:Nat}{p v:Value}{pl:Bool}{bs:List UInt8}{T:List Ck}(hp:p=.pointer none∨p=(pA gw 0))(hM0:Mg w0 w (.obj gw (.cells #[p,v,bV pl] 182)::.row BY 1 v bs.length (Lib.byteCells bs)::T))(hT:QT T){n:Nat}(ho:C.OkR ((n:Nat):Int))(hz:C.Tz16 w0)(hroom:bs.length+64≤1000000000):Calls Tryz.prog 195 #[pA gw 0,.int .i32 ((n:Nat):Int)] w fun e w'=>e=.returned (.tuple #[])∧∃v',Mg w0 w' (.obj gw (.cells #[pA gw 0,v',bV pl] 182)::.row BY 1 v' (bs++(qad pl ((n:Nat):Int))).length (Lib.byteCells (bs++(qad pl ((n:Nat):Int))))::T):=by
 have hn:=kp ho;have _:=qfg hn;have _:=qfh ((n:Nat):Int);have _:=qne ((n:Nat):Int);have M:Mg w0 w (.obj gw (.cells #[p,v,bV pl] 182)::.row BY 1 (v) bs.length ((Lib.byteCells bs))::T):=hM0;refine wof Tryz.func195 Tryz.ntmps195 fun Q hret hnorm hP a A=>?_;refine wsk fun _ ax=>wsr fun _ ay=>sdm A λA=>?_;refine sdn A λA=>?_;refine sdf A 2 TwG_fld_182_1 λA=>?_;refine sdl A M TwG_is1_4 0 λA=>?_;refine qa (ay _ _ ?_);refine wp_cond_split (t:=pl) (A.ev rfl) (fun ag=>?_) (fun ag=>?_)
 ·refine wsr fun K4 az=>sdm A λA=>?_;refine sdn A λA=>?_;refine sdf A 0 TwG_fld_182_0 λA=>?_;refine sdm A λA=>?_;refine sct A ec (kb hp (toW (X:=[]) M) hT (r:=((n:Nat):Int)) (by omega) (by omega) (by first|omega|(simp only[fv,fw,fx]; omega)|(simp only[fv,fw,fx,ByteArray.size,gg,Array.size]; omega))) ?_;rintro _ _ ⟨z7,rfl,v5,bd⟩;replace M:=(zi (X:=[]) bd);refine⟨_,rfl,?_⟩;intro a A;refine qa (az _ _ (wp_ret (hret _ _ (jq (v:=.tuple #[]) A rfl .nil rfl ?_))));refine⟨rfl,v5,?_⟩;have ae:=M.sub (L':=_::_::T) (cC (cC (.refl _)));rw[show qad pl ((n:Nat):Int)=(Lib.encodeRune (((n:Nat):Int)))from xif ag];simpa only[f4,gh,gq,f8]using ae
 ·refine wp_skip (ax _ _ (wsr fun _ bf=>sdm A λA=>?_));refine sdn A λA=>?_;refine sdf A 0 TwG_fld_182_0 λA=>?_;refine sct A ec (zx hp (toW (X:=[]) M) hT (b:=35) (by first|omega|(simp only[fv,fw,fx]; omega)|(simp only[fv,fw,fx,ByteArray.size,gg,Array.size]; omega))) ?_;rintro _ _ ⟨rfl,_,ai⟩;replace M:=(zi (X:=[]) ai);refine⟨_,rfl,?_⟩;intro a A;refine qwr bf fun _ aj=>sdm A λA=>?_;refine sct A ec (C.nameOf_any ((n:Nat):Int) _) ?_;rintro _ _ ⟨rfl,hw15⟩;subst hw15;refine⟨_,rfl,?_⟩;intro a A;refine sda A λA=>?_;refine qa (aj _ _ (wp_block (wsr fun _ ah=>sdm A λA=>?_)));rcases tf (decide (C.nameL ((n:Nat):Int)=⟨#[]⟩))with aa|aa
  ·have aa':=f5 aa;refine sdo (v:=bV false) A (qb rfl rfl (fun w=>(kx gi w).trans (by rw[aa]<;>rfl))) λA=>?_;refine sda A λA=>?_;refine qcf ah A ?_;refine wsr fun _ af=>sdm A λA=>?_;rcases tf (C.blankB ((n:Nat):Int))with ab|ab
   ·refine sct A ec ((ab▸C.blank_any ((n:Nat):Int) _)) ?_;rintro _ _ ⟨rfl,hw21⟩;subst hw21;refine⟨_,rfl,?_⟩;intro a A;refine sdm A λA=>?_;iterate 2 refine sks A λA=>?_
    refine sdk (v:=bV true) A λA=>?_;refine sda A λA=>?_;refine qct af A ?_;refine wrl ?_;iterate 2 refine sdm A λA=>?_
    refine sct A ec (qlf (.inr rfl) (toW (X:=[]) M) hT (n:=n) (by omega) hz (by first|omega|(simp only[fv,fw,fx]; omega)|(simp only[fv,fw,fx,ByteArray.size,gg,Array.size]; omega))) ?_;rintro _ _ ⟨rfl,bg,ak⟩;replace M:=(zi (X:=[]) ak);refine⟨_,rfl,?_⟩;intro a A;refine qa (hnorm _ _ (jq (v:=.tuple #[]) A rfl .nil rfl ?_));refine⟨rfl,bg,?_⟩;have ae:=M.sub (L':=_::_::T) (cC (cC (.refl _)));rw[show qad pl ((n:Nat):Int)=([35])++(jw (((n:Nat):Int)))from zmh ag aa' (by rw[ab]; rfl)];simpa only[f4,gh,gq,f8]using ae
   ·refine sct A ec ((ab▸C.blank_any ((n:Nat):Int) _)) ?_;rintro _ _ ⟨rfl,hw27⟩;subst hw27;refine⟨_,rfl,?_⟩;intro a A;iterate 2 refine sdm A λA=>?_
    rcases tf (C.ctlB ((n:Nat):Int))with ac|ac
    ·refine sct A ec ((ac▸C.ctl_any ((n:Nat):Int) _)) ?_;rintro _ _ ⟨rfl,hw30⟩;subst hw30;refine⟨_,rfl,?_⟩;intro a A;refine sdk (v:=bV true) A λA=>?_;refine sda A λA=>?_;refine qct af A ?_;refine wrl ?_;iterate 2 refine sdm A λA=>?_
     refine sct A ec (qlf (.inr rfl) (toW (X:=[]) M) hT (n:=n) (by omega) hz (by first|omega|(simp only[fv,fw,fx]; omega)|(simp only[fv,fw,fx,ByteArray.size,gg,Array.size]; omega))) ?_;rintro _ _ ⟨rfl,bh,am⟩;replace M:=(zi (X:=[]) am);refine⟨_,rfl,?_⟩;intro a A;refine qa (hnorm _ _ (jq (v:=.tuple #[]) A rfl .nil rfl ?_));refine⟨rfl,bh,?_⟩;have ae:=M.sub (L':=_::_::T) (cC (cC (.refl _)));rw[show qad pl ((n:Nat):Int)=([35])++(jw (((n:Nat):Int)))from zmh ag aa' (by rw[ab,ac]; rfl)];simpa only[f4,gh,gq,f8]using ae
    ·refine sct A ec ((ac▸C.ctl_any ((n:Nat):Int) _)) ?_;rintro _ _ ⟨rfl,hw36⟩;subst hw36;refine⟨_,rfl,?_⟩;intro a A;refine sdk (v:=bV false) A λA=>?_;refine sda A λA=>?_;refine qcf af A ?_;refine wsr fun _ ap=>sdm A λA=>?_;refine sdn A λA=>?_;refine sdf A 0 TwG_fld_182_0 λA=>?_;refine sct A ec (zx (.inr rfl) (toW (X:=[]) M) hT (b:=92) (by first|omega|(simp only[fv,fw,fx]; omega)|(simp only[fv,fw,fx,ByteArray.size,gg,Array.size]; omega))) ?_;rintro _ _ ⟨rfl,_,aq⟩;replace M:=(zi (X:=[]) aq);refine⟨_,rfl,?_⟩;intro a A;refine qa (ap _ _ (wrl (sdm A λA=>?_)));refine sdn A λA=>?_;refine sdf A 0 TwG_fld_182_0 λA=>?_;refine sdm A λA=>?_;refine sct A ec (kb (.inr rfl) (toW (X:=[]) M) hT (r:=((n:Nat):Int)) (by omega) (by omega) (by first|omega|(simp only[fv,fw,fx]; omega)|(simp only[fv,fw,fx,ByteArray.size,gg,Array.size]; omega))) ?_;rintro _ _ ⟨z45,rfl,bi,ar⟩;replace M:=(zi (X:=[]) ar);refine⟨_,rfl,?_⟩;intro a A;refine qa (hnorm _ _ (jq (v:=.tuple #[]) A rfl .nil rfl ?_));refine⟨rfl,bi,?_⟩;have ae:=M.sub (L':=_::_::T) (cC (cC (.refl _)));rw[show qad pl ((n:Nat):Int)=([35])++(([92])++(Lib.encodeRune (((n:Nat):Int))))from jsi ag aa' (by rw[ab,ac]; rfl)]
     simpa only[f4,gh,gq,f8]using ae
  ·have aa':=fy aa;refine sdo (v:=bV true) A (qb rfl rfl (fun w=>(kx gi w).trans (by rw[aa]<;>rfl))) λA=>?_;refine sda A λA=>?_;refine qct ah A ?_;refine wsr fun _ au=>sdm A λA=>?_;refine sdn A λA=>?_;refine sdf A 0 TwG_fld_182_0 λA=>?_;refine sct A ec (zx (.inr rfl) (toW (X:=[]) M) hT (b:=92) (by first|omega|(simp only[fv,fw,fx]; omega)|(simp only[fv,fw,fx,ByteArray.size,gg,Array.size]; omega))) ?_;rintro _ _ ⟨rfl,_,av⟩;replace M:=(zi (X:=[]) av);refine⟨_,rfl,?_⟩;intro a A;refine qa (au _ _ (wrl (sdm A λA=>?_)));refine sdn A λA=>?_;refine sdf A 0 TwG_fld_182_0 λA=>?_;refine sdm A λA=>?_;refine sct A ec (jo (.inr rfl) (toW (X:=[]) M) (s:=C.nameL ((n:Nat):Int)) (by first|omega|(simp only[fv,fw,fx]; omega)|(simp only[fv,fw,fx,ByteArray.size,gg,Array.size]; omega))) ?_;rintro _ _ ⟨rfl,bj,aw⟩;replace M:=(zi (X:=[]) aw);refine⟨_,rfl,?_⟩;intro a A;refine qa (hnorm _ _ (jq (v:=.tuple #[]) A rfl .nil rfl ?_));refine⟨rfl,bj,?_⟩;have ae:=M.sub (L':=_::_::T) (cC (cC (.refl _)));rw[show qad pl ((n:Nat):Int)=([35])++(([92])++((C.nameL ((n:Nat):Int)).data.toList))from jsh ag aa'];simpa only[f4,gh,gq,f8]using ae
theorem xig{w0 w:World}{gw:Nat}{p v:Value}{pl:Bool}{bs:List UInt8}{T:List Ck}(hp:p=.pointer none∨p=(pA gw 0))(hM0:Mg w0 w (.obj gw (.cells #[p,v,bV pl] 182)::.row BY 1 v bs.length (Lib.byteCells bs)::T))(hT:QT T){n:Nat}(ho:C.OkR ((n:Nat):Int))(hz:C.Tz16 w0)(hroom:bs.length+64≤1000000000):Calls Tryz.prog 247 #[pA gw 0,.int .i32 ((n:Nat):Int)] w fun e w'=>e=.returned (.tuple #[])∧∃v',Mg w0 w' (.obj gw (.cells #[pA gw 0,v',bV pl] 182)::.row BY 1 v' (bs++(C.strC ((n:Nat):Int))).length (Lib.byteCells (bs++(C.strC ((n:Nat):Int))))::T):=by
 have hn:=kp ho;have _:=qfg hn;have _:=qfh ((n:Nat):Int);have _:=qne ((n:Nat):Int);have M:Mg w0 w (.obj gw (.cells #[p,v,bV pl] 182)::.row BY 1 (v) bs.length ((Lib.byteCells bs))::T):=hM0;refine wof Tryz.func247 Tryz.ntmps247 fun Q hret hnorm hP a A=>?_;refine wp_block (wsr fun _ bn=>sdm A λA=>?_);rcases tf (decide (7≤((n:Nat):Int)))with ar|ar
 ·have ar':=f5 ar;refine sdc A zt ar λA=>?_;iterate 2 refine sdm A λA=>?_
  rcases tf (decide (((n:Nat):Int)≤13))with au|au
  ·have au':=f5 au;refine sdc A xi au λA=>?_;refine sdk (v:=bV true) A λA=>?_;refine sda A λA=>?_;refine qct bn A ?_;refine wsr fun K4 dg=>sdm A λA=>?_;refine sdn A λA=>?_;refine sdf A 0 TwG_fld_182_0 λA=>?_;refine sct A ec (zx hp (toW (X:=[]) M) hT (b:=92) (by first|omega|(simp only[fv,fw,fx]; omega)|(simp only[fv,fw,fx,ByteArray.size,gg,Array.size]; omega))) ?_;rintro _ _ ⟨rfl,_,dh⟩;replace M:=(zi (X:=[]) dh);refine⟨_,rfl,?_⟩;intro a A;refine qa (dg _ _ (xg (S:=fun w1=>Mg w0 w1 ([])) (by kernel_rfl) ?_));replace M:=M.drew;refine atk A 0 rfl hP (M.sub (cN (cN ns))) (λ_ M=>zr rfl) λA=>?_;refine atk A 1 rfl hP (M.sub (cN (cN ns))) (λ_ M=>qef rfl) λA=>?_;refine atk (v:=pA gw 0) A 2 rfl hP (M.sub (cN (cN ns))) (λ_ M=>qp TwG_fld_182_0 rfl rfl) λA=>?_;refine atk A 3 rfl hP (M.sub (cN (cN ns))) (λ_ M=>zr rfl) λA=>?_;refine atk (v:=.int .i32 (((n-7:Nat):Int))) A 4 rfl hP (M.sub (cN (cN ns))) (λ_ M=>qb rfl rfl (ar_sub ((in_i32 (by omega) (by omega)).trans (by omega)))) λA=>?_;refine atk (v:=.int .u8 ((((abt (n-7)).toNat:Nat):Int))) A 5 rfl hP (M.sub (cN (cN ns))) (λ_ M=>zmg (m:=n-7) gi rfl rfl rfl (by omega)) λA=>?_;refine zn (by kernel_rfl) (jc A 6 rfl rfl rfl rfl ec (zx (.inr rfl) (toW (X:=[]) M) hT (b:=abt (n-7)) (by first|omega|(simp only[fv,fw,fx]; omega)|(simp only[fv,fw,fx,ByteArray.size,gg,Array.size]; omega))) ?_);rintro _ _ ⟨rfl,v9,bp⟩
   replace M:=(zi (X:=[]) bp);refine⟨_,rfl,(M.sub (cN (cN ns))),?_⟩;intro a A;refine jl (by kernel_rfl) ?_;refine hnorm _ _ (jq (v:=.tuple #[]) A rfl .nil rfl ?_);refine⟨rfl,v9,?_⟩;have aa:=M.sub (L':=_::_::T) (cC (cC (.refl _)));rw[show C.strC ((n:Nat):Int)=([92])++([abt (n-7)])from jsg (by omega) (by omega)];simpa only[f4,gh,gq,f8]using aa
  ·have au':=fy au;refine sdc A xi au λA=>?_;refine sdk (v:=bV false) A λA=>?_;refine sda A λA=>?_;refine qcf bn A ?_;refine wsr fun _ av=>sdm A λA=>?_;rcases tf ((((n:Nat):Int)==34))with ae|ae
   ·have ae':=gr ae;refine sdc A qe ae λA=>?_;refine sdm A λA=>?_;iterate 2 refine sks A λA=>?_
    refine sdk (v:=bV true) A λA=>?_;refine sda A λA=>?_;refine qct av A ?_;refine wsr fun _ bq=>sdm A λA=>?_;refine sdn A λA=>?_;refine sdf A 0 TwG_fld_182_0 λA=>?_;refine sct A ec (zx hp (toW (X:=[]) M) hT (b:=92) (by first|omega|(simp only[fv,fw,fx]; omega)|(simp only[fv,fw,fx,ByteArray.size,gg,Array.size]; omega))) ?_;rintro _ _ ⟨rfl,_,br⟩;replace M:=(zi (X:=[]) br);refine⟨_,rfl,?_⟩;intro a A;refine qa (bq _ _ (wrl (sdm A λA=>?_)));refine sdn A λA=>?_;refine sdf A 0 TwG_fld_182_0 λA=>?_;refine sdm A λA=>?_;refine sct A ec (kb (.inr rfl) (toW (X:=[]) M) hT (r:=((n:Nat):Int)) (by omega) (by omega) (by first|omega|(simp only[fv,fw,fx]; omega)|(simp only[fv,fw,fx,ByteArray.size,gg,Array.size]; omega))) ?_;rintro _ _ ⟨z22,rfl,di,bw⟩;replace M:=(zi (X:=[]) bw);refine⟨_,rfl,?_⟩;intro a A;refine qa (hnorm _ _ (jq (v:=.tuple #[]) A rfl .nil rfl ?_));refine⟨rfl,di,?_⟩;have aa:=M.sub (L':=_::_::T) (cC (cC (.refl _)));rw[show C.strC ((n:Nat):Int)=([92])++(Lib.encodeRune (((n:Nat):Int)))from qkh (by omega)];simpa only[f4,gh,gq,f8]using aa
   ·have ae':=f6 ae;refine sdc A qe ae λA=>?_;iterate 2 refine sdm A λA=>?_
    rcases tf ((((n:Nat):Int)==92))with af|af
    ·have af':=gr af;refine sdc A qe af λA=>?_;refine sdk (v:=bV true) A λA=>?_;refine sda A λA=>?_;refine qct av A ?_;refine wsr fun _ bz=>sdm A λA=>?_;refine sdn A λA=>?_;refine sdf A 0 TwG_fld_182_0 λA=>?_;refine sct A ec (zx hp (toW (X:=[]) M) hT (b:=92) (by first|omega|(simp only[fv,fw,fx]; omega)|(simp only[fv,fw,fx,ByteArray.size,gg,Array.size]; omega))) ?_;rintro _ _ ⟨rfl,_,cc⟩;replace M:=(zi (X:=[]) cc);refine⟨_,rfl,?_⟩;intro a A;refine qa (bz _ _ (wrl (sdm A λA=>?_)));refine sdn A λA=>?_;refine sdf A 0 TwG_fld_182_0 λA=>?_;refine sdm A λA=>?_;refine sct A ec (kb (.inr rfl) (toW (X:=[]) M) hT (r:=((n:Nat):Int)) (by omega) (by omega) (by first|omega|(simp only[fv,fw,fx]; omega)|(simp only[fv,fw,fx,ByteArray.size,gg,Array.size]; omega))) ?_;rintro _ _ ⟨z32,rfl,dj,cd⟩;replace M:=(zi (X:=[]) cd);refine⟨_,rfl,?_⟩;intro a A;refine qa (hnorm _ _ (jq (v:=.tuple #[]) A rfl .nil rfl ?_));refine⟨rfl,dj,?_⟩;have aa:=M.sub (L':=_::_::T) (cC (cC (.refl _)));rw[show C.strC ((n:Nat):Int)=([92])++(Lib.encodeRune (((n:Nat):Int)))from qkh (by omega)];simpa only[f4,gh,gq,f8]using aa
    ·have af':=f6 af;refine sdc A qe af λA=>?_;refine sdk (v:=bV false) A λA=>?_;refine sda A λA=>?_;refine qcf av A ?_;refine wsr fun _ ap=>sdm A λA=>?_;rcases tf (C.ctlB ((n:Nat):Int))with ak|ak
     ·refine sct A ec ((ak▸C.ctl_any ((n:Nat):Int) _)) ?_;rintro _ _ ⟨rfl,hw36⟩;subst hw36;refine⟨_,rfl,?_⟩;intro a A;refine sdm A λA=>?_;iterate 2 refine sks A λA=>?_
      refine sdk (v:=bV true) A λA=>?_;refine sdm A λA=>?_;iterate 2 refine sks A λA=>?_
      refine sdk (v:=bV true) A λA=>?_;refine sda A λA=>?_;refine qct ap A ?_;refine wsr fun _ ce=>?_;iterate 2 refine sdm A λA=>?_
      refine sct A ec (qlf hp (toW (X:=[]) M) hT (n:=n) (by omega) hz (by first|omega|(simp only[fv,fw,fx]; omega)|(simp only[fv,fw,fx,ByteArray.size,gg,Array.size]; omega))) ?_;rintro _ _ ⟨rfl,_,cg⟩;replace M:=(zi (X:=[]) cg);refine⟨_,rfl,?_⟩;intro a A;refine qa (ce _ _ (wrl (sdm A λA=>?_)));refine sdn A λA=>?_;refine sdf A 0 TwG_fld_182_0 λA=>?_;refine sct A ec (zx (.inr rfl) (toW (X:=[]) M) hT (b:=59) (by first|omega|(simp only[fv,fw,fx]; omega)|(simp only[fv,fw,fx,ByteArray.size,gg,Array.size]; omega))) ?_;rintro _ _ ⟨rfl,dk,ch⟩;replace M:=(zi (X:=[]) ch);refine⟨_,rfl,?_⟩;intro a A;refine qa (hnorm _ _ (jq (v:=.tuple #[]) A rfl .nil rfl ?_));refine⟨rfl,dk,?_⟩;have aa:=M.sub (L':=_::_::T) (cC (cC (.refl _)));rw[show C.strC ((n:Nat):Int)=(jw (((n:Nat):Int)))++([59])from kt (by omega) (by omega) (.inl ak)];simpa only[f4,gh,gq,f8]using aa
     ·refine sct A ec ((ak▸C.ctl_any ((n:Nat):Int) _)) ?_;rintro _ _ ⟨rfl,hw47⟩;subst hw47;refine⟨_,rfl,?_⟩;intro a A;iterate 2 refine sdm A λA=>?_
      rcases tf ((((n:Nat):Int)==8232))with ag|ag
      ·have ag':=gr ag;refine sdc A qe ag λA=>?_;refine sdk (v:=bV true) A λA=>?_;refine sdm A λA=>?_;iterate 2 refine sks A λA=>?_
       refine sdk (v:=bV true) A λA=>?_;refine sda A λA=>?_;refine qct ap A ?_;refine wsr fun _ ci=>?_;iterate 2 refine sdm A λA=>?_
       refine sct A ec (qlf hp (toW (X:=[]) M) hT (n:=n) (by omega) hz (by first|omega|(simp only[fv,fw,fx]; omega)|(simp only[fv,fw,fx,ByteArray.size,gg,Array.size]; omega))) ?_;rintro _ _ ⟨rfl,_,cj⟩;replace M:=(zi (X:=[]) cj);refine⟨_,rfl,?_⟩;intro a A;refine qa (ci _ _ (wrl (sdm A λA=>?_)));refine sdn A λA=>?_;refine sdf A 0 TwG_fld_182_0 λA=>?_;refine sct A ec (zx (.inr rfl) (toW (X:=[]) M) hT (b:=59) (by first|omega|(simp only[fv,fw,fx]; omega)|(simp only[fv,fw,fx,ByteArray.size,gg,Array.size]; omega))) ?_;rintro _ _ ⟨rfl,dn,ck⟩;replace M:=(zi (X:=[]) ck);refine⟨_,rfl,?_⟩;intro a A;refine qa (hnorm _ _ (jq (v:=.tuple #[]) A rfl .nil rfl ?_));refine⟨rfl,dn,?_⟩;have aa:=M.sub (L':=_::_::T) (cC (cC (.refl _)));rw[show C.strC ((n:Nat):Int)=(jw (((n:Nat):Int)))++([59])from kt (by omega) (by omega) (.inr (by omega))];simpa only[f4,gh,gq,f8]using aa
      ·have ag':=f6 ag;refine sdc A qe ag λA=>?_;refine sdk (v:=bV false) A λA=>?_;iterate 2 refine sdm A λA=>?_
       rcases tf ((((n:Nat):Int)==65279))with ah|ah
       ·have ah':=gr ah;refine sdc A qe ah λA=>?_;refine sdk (v:=bV true) A λA=>?_;refine sda A λA=>?_;refine qct ap A ?_;refine wsr fun _ cl=>?_;iterate 2 refine sdm A λA=>?_
        refine sct A ec (qlf hp (toW (X:=[]) M) hT (n:=n) (by omega) hz (by first|omega|(simp only[fv,fw,fx]; omega)|(simp only[fv,fw,fx,ByteArray.size,gg,Array.size]; omega))) ?_;rintro _ _ ⟨rfl,_,cm⟩;replace M:=(zi (X:=[]) cm);refine⟨_,rfl,?_⟩;intro a A;refine qa (cl _ _ (wrl (sdm A λA=>?_)));refine sdn A λA=>?_;refine sdf A 0 TwG_fld_182_0 λA=>?_;refine sct A ec (zx (.inr rfl) (toW (X:=[]) M) hT (b:=59) (by first|omega|(simp only[fv,fw,fx]; omega)|(simp only[fv,fw,fx,ByteArray.size,gg,Array.size]; omega))) ?_;rintro _ _ ⟨rfl,dq,cn⟩;replace M:=(zi (X:=[]) cn);refine⟨_,rfl,?_⟩;intro a A;refine qa (hnorm _ _ (jq (v:=.tuple #[]) A rfl .nil rfl ?_));refine⟨rfl,dq,?_⟩;have aa:=M.sub (L':=_::_::T) (cC (cC (.refl _)));rw[show C.strC ((n:Nat):Int)=(jw (((n:Nat):Int)))++([59])from kt (by omega) (by omega) (.inr (by omega))];simpa only[f4,gh,gq,f8]using aa
       ·have ah':=f6 ah;refine sdc A qe ah λA=>?_;refine sdk (v:=bV false) A λA=>?_;refine sda A λA=>?_;refine qcf ap A ?_;refine wrl (sdm A λA=>?_);refine sdn A λA=>?_;refine sdf A 0 TwG_fld_182_0 λA=>?_;refine sdm A λA=>?_;refine sct A ec (kb hp (toW (X:=[]) M) hT (r:=((n:Nat):Int)) (by omega) (by omega) (by first|omega|(simp only[fv,fw,fx]; omega)|(simp only[fv,fw,fx,ByteArray.size,gg,Array.size]; omega))) ?_;rintro _ _ ⟨z71,rfl,dr,co⟩;replace M:=(zi (X:=[]) co);refine⟨_,rfl,?_⟩;intro a A;refine qa (hnorm _ _ (jq (v:=.tuple #[]) A rfl .nil rfl ?_));refine⟨rfl,dr,?_⟩;have aa:=M.sub (L':=_::_::T) (cC (cC (.refl _)));rw[show C.strC ((n:Nat):Int)=(Lib.encodeRune (((n:Nat):Int)))from qnd (by omega) (by omega) (fun k=>by rcases k with k|k; rw[ak]at k; cases k; omega)];simpa only[f4,gh,gq,f8]using aa
 ·have ar':=fy ar;refine sdc A zt ar λA=>?_;refine sdm A λA=>?_;iterate 2 refine sks A λA=>?_
  refine sdk (v:=bV false) A λA=>?_;refine sda A λA=>?_;refine qcf bn A ?_;refine wsr fun _ aw=>sdm A λA=>?_;rcases tf ((((n:Nat):Int)==34))with ai|ai
  ·have ai':=gr ai;refine sdc A qe ai λA=>?_;refine sdm A λA=>?_;iterate 2 refine sks A λA=>?_
   refine sdk (v:=bV true) A λA=>?_;refine sda A λA=>?_;refine qct aw A ?_;refine wsr fun _ cp=>sdm A λA=>?_;refine sdn A λA=>?_;refine sdf A 0 TwG_fld_182_0 λA=>?_;refine sct A ec (zx hp (toW (X:=[]) M) hT (b:=92) (by first|omega|(simp only[fv,fw,fx]; omega)|(simp only[fv,fw,fx,ByteArray.size,gg,Array.size]; omega))) ?_;rintro _ _ ⟨rfl,_,cq⟩;replace M:=(zi (X:=[]) cq);refine⟨_,rfl,?_⟩;intro a A;refine qa (cp _ _ (wrl (sdm A λA=>?_)));refine sdn A λA=>?_;refine sdf A 0 TwG_fld_182_0 λA=>?_;refine sdm A λA=>?_;refine sct A ec (kb (.inr rfl) (toW (X:=[]) M) hT (r:=((n:Nat):Int)) (by omega) (by omega) (by first|omega|(simp only[fv,fw,fx]; omega)|(simp only[fv,fw,fx,ByteArray.size,gg,Array.size]; omega))) ?_;rintro _ _ ⟨z82,rfl,dt,cr⟩;replace M:=(zi (X:=[]) cr);refine⟨_,rfl,?_⟩;intro a A;refine qa (hnorm _ _ (jq (v:=.tuple #[]) A rfl .nil rfl ?_));refine⟨rfl,dt,?_⟩;have aa:=M.sub (L':=_::_::T) (cC (cC (.refl _)));rw[show C.strC ((n:Nat):Int)=([92])++(Lib.encodeRune (((n:Nat):Int)))from qkh (by omega)];simpa only[f4,gh,gq,f8]using aa
  ·have ai':=f6 ai;refine sdc A qe ai λA=>?_;iterate 2 refine sdm A λA=>?_
   rcases tf ((((n:Nat):Int)==92))with aj|aj
   ·have aj':=gr aj;refine sdc A qe aj λA=>?_;refine sdk (v:=bV true) A λA=>?_;refine sda A λA=>?_;refine qct aw A ?_;refine wsr fun _ cw=>sdm A λA=>?_;refine sdn A λA=>?_;refine sdf A 0 TwG_fld_182_0 λA=>?_;refine sct A ec (zx hp (toW (X:=[]) M) hT (b:=92) (by first|omega|(simp only[fv,fw,fx]; omega)|(simp only[fv,fw,fx,ByteArray.size,gg,Array.size]; omega))) ?_;rintro _ _ ⟨rfl,_,cx⟩;replace M:=(zi (X:=[]) cx);refine⟨_,rfl,?_⟩;intro a A;refine qa (cw _ _ (wrl (sdm A λA=>?_)));refine sdn A λA=>?_;refine sdf A 0 TwG_fld_182_0 λA=>?_;refine sdm A λA=>?_;refine sct A ec (kb (.inr rfl) (toW (X:=[]) M) hT (r:=((n:Nat):Int)) (by omega) (by omega) (by first|omega|(simp only[fv,fw,fx]; omega)|(simp only[fv,fw,fx,ByteArray.size,gg,Array.size]; omega))) ?_;rintro _ _ ⟨z92,rfl,du,cy⟩;replace M:=(zi (X:=[]) cy);refine⟨_,rfl,?_⟩;intro a A;refine qa (hnorm _ _ (jq (v:=.tuple #[]) A rfl .nil rfl ?_));refine⟨rfl,du,?_⟩;have aa:=M.sub (L':=_::_::T) (cC (cC (.refl _)));rw[show C.strC ((n:Nat):Int)=([92])++(Lib.encodeRune (((n:Nat):Int)))from qkh (by omega)];simpa only[f4,gh,gq,f8]using aa
   ·have aj':=f6 aj;refine sdc A qe aj λA=>?_;refine sdk (v:=bV false) A λA=>?_;refine sda A λA=>?_;refine qcf aw A ?_;refine wsr fun _ aq=>sdm A λA=>?_;rcases tf (C.ctlB ((n:Nat):Int))with am|am
    ·refine sct A ec ((am▸C.ctl_any ((n:Nat):Int) _)) ?_;rintro _ _ ⟨rfl,hw96⟩;subst hw96;refine⟨_,rfl,?_⟩;intro a A;refine sdm A λA=>?_;iterate 2 refine sks A λA=>?_
     refine sdk (v:=bV true) A λA=>?_;refine sdm A λA=>?_;iterate 2 refine sks A λA=>?_
     refine sdk (v:=bV true) A λA=>?_;refine sda A λA=>?_;refine qct aq A ?_;refine wsr fun _ cz=>?_;iterate 2 refine sdm A λA=>?_
     refine sct A ec (qlf hp (toW (X:=[]) M) hT (n:=n) (by omega) hz (by first|omega|(simp only[fv,fw,fx]; omega)|(simp only[fv,fw,fx,ByteArray.size,gg,Array.size]; omega))) ?_;rintro _ _ ⟨rfl,_,ax⟩;replace M:=(zi (X:=[]) ax);refine⟨_,rfl,?_⟩;intro a A;refine qa (cz _ _ (wrl (sdm A λA=>?_)));refine sdn A λA=>?_;refine sdf A 0 TwG_fld_182_0 λA=>?_;refine sct A ec (zx (.inr rfl) (toW (X:=[]) M) hT (b:=59) (by first|omega|(simp only[fv,fw,fx]; omega)|(simp only[fv,fw,fx,ByteArray.size,gg,Array.size]; omega))) ?_;rintro _ _ ⟨rfl,db,ay⟩;replace M:=(zi (X:=[]) ay);refine⟨_,rfl,?_⟩;intro a A;refine qa (hnorm _ _ (jq (v:=.tuple #[]) A rfl .nil rfl ?_));refine⟨rfl,db,?_⟩;have aa:=M.sub (L':=_::_::T) (cC (cC (.refl _)));rw[show C.strC ((n:Nat):Int)=(jw (((n:Nat):Int)))++([59])from kt (by omega) (by omega) (.inl am)];simpa only[f4,gh,gq,f8]using aa
    ·refine sct A ec ((am▸C.ctl_any ((n:Nat):Int) _)) ?_;rintro _ _ ⟨rfl,hw107⟩;subst hw107;refine⟨_,rfl,?_⟩;intro a A;iterate 2 refine sdm A λA=>?_
     rcases tf ((((n:Nat):Int)==8232))with ab|ab
     ·have ab':=gr ab;refine sdc A qe ab λA=>?_;refine sdk (v:=bV true) A λA=>?_;refine sdm A λA=>?_;iterate 2 refine sks A λA=>?_
      refine sdk (v:=bV true) A λA=>?_;refine sda A λA=>?_;refine qct aq A ?_;refine wsr fun _ az=>?_;iterate 2 refine sdm A λA=>?_
      refine sct A ec (qlf hp (toW (X:=[]) M) hT (n:=n) (by omega) hz (by first|omega|(simp only[fv,fw,fx]; omega)|(simp only[fv,fw,fx,ByteArray.size,gg,Array.size]; omega))) ?_;rintro _ _ ⟨rfl,_,bd⟩;replace M:=(zi (X:=[]) bd);refine⟨_,rfl,?_⟩;intro a A;refine qa (az _ _ (wrl (sdm A λA=>?_)));refine sdn A λA=>?_;refine sdf A 0 TwG_fld_182_0 λA=>?_;refine sct A ec (zx (.inr rfl) (toW (X:=[]) M) hT (b:=59) (by first|omega|(simp only[fv,fw,fx]; omega)|(simp only[fv,fw,fx,ByteArray.size,gg,Array.size]; omega))) ?_;rintro _ _ ⟨rfl,dd,bf⟩;replace M:=(zi (X:=[]) bf);refine⟨_,rfl,?_⟩;intro a A;refine qa (hnorm _ _ (jq (v:=.tuple #[]) A rfl .nil rfl ?_));refine⟨rfl,dd,?_⟩;have aa:=M.sub (L':=_::_::T) (cC (cC (.refl _)));rw[show C.strC ((n:Nat):Int)=(jw (((n:Nat):Int)))++([59])from kt (by omega) (by omega) (.inr (by omega))];simpa only[f4,gh,gq,f8]using aa
     ·have ab':=f6 ab;refine sdc A qe ab λA=>?_;refine sdk (v:=bV false) A λA=>?_;iterate 2 refine sdm A λA=>?_
      rcases tf ((((n:Nat):Int)==65279))with ac|ac
      ·have ac':=gr ac;refine sdc A qe ac λA=>?_;refine sdk (v:=bV true) A λA=>?_;refine sda A λA=>?_;refine qct aq A ?_;refine wsr fun _ bg=>?_;iterate 2 refine sdm A λA=>?_
       refine sct A ec (qlf hp (toW (X:=[]) M) hT (n:=n) (by omega) hz (by first|omega|(simp only[fv,fw,fx]; omega)|(simp only[fv,fw,fx,ByteArray.size,gg,Array.size]; omega))) ?_;rintro _ _ ⟨rfl,_,bh⟩;replace M:=(zi (X:=[]) bh);refine⟨_,rfl,?_⟩;intro a A;refine qa (bg _ _ (wrl (sdm A λA=>?_)));refine sdn A λA=>?_;refine sdf A 0 TwG_fld_182_0 λA=>?_;refine sct A ec (zx (.inr rfl) (toW (X:=[]) M) hT (b:=59) (by first|omega|(simp only[fv,fw,fx]; omega)|(simp only[fv,fw,fx,ByteArray.size,gg,Array.size]; omega))) ?_;rintro _ _ ⟨rfl,de,bi⟩;replace M:=(zi (X:=[]) bi);refine⟨_,rfl,?_⟩;intro a A;refine qa (hnorm _ _ (jq (v:=.tuple #[]) A rfl .nil rfl ?_));refine⟨rfl,de,?_⟩;have aa:=M.sub (L':=_::_::T) (cC (cC (.refl _)));rw[show C.strC ((n:Nat):Int)=(jw (((n:Nat):Int)))++([59])from kt (by omega) (by omega) (.inr (by omega))];simpa only[f4,gh,gq,f8]using aa
      ·have ac':=f6 ac;refine sdc A qe ac λA=>?_;refine sdk (v:=bV false) A λA=>?_;refine sda A λA=>?_;refine qcf aq A ?_;refine wrl (sdm A λA=>?_);refine sdn A λA=>?_;refine sdf A 0 TwG_fld_182_0 λA=>?_;refine sdm A λA=>?_;refine sct A ec (kb hp (toW (X:=[]) M) hT (r:=((n:Nat):Int)) (by omega) (by omega) (by first|omega|(simp only[fv,fw,fx]; omega)|(simp only[fv,fw,fx,ByteArray.size,gg,Array.size]; omega))) ?_;rintro _ _ ⟨z131,rfl,df,bj⟩;replace M:=(zi (X:=[]) bj);refine⟨_,rfl,?_⟩;intro a A;refine qa (hnorm _ _ (jq (v:=.tuple #[]) A rfl .nil rfl ?_));refine⟨rfl,df,?_⟩;have aa:=M.sub (L':=_::_::T) (cC (cC (.refl _)));rw[show C.strC ((n:Nat):Int)=(Lib.encodeRune (((n:Nat):Int)))from qnd (by omega) (by omega) (fun k=>by rcases k with k|k; rw[am]at k; cases k; omega)];simpa only[f4,gh,gq,f8]using aa
end Go.Proofs.YtmnlfahgklnpeaaGreatDoor.G
namespace Go.Proofs
open Go.Shelf
def Tryz.lays99_ren: Go.Shelf.Ren:=⟨fun|99=>248|206=>283|n=>n,fun|9=>9|4=>4|3=>3|n=>n,fun|n=>n⟩
theorem Tryz.lays99: Go.Proofs.Lays.n99 Tryz.prog Tryz.lays99_ren:={
  mixed:=by kernel_rfl
  f99:=Tryz.func248.trans (congrArg some (by kernel_rfl))
  f206:=Tryz.func283.trans (congrArg some (by kernel_rfl))
  t3:=Tryz.underlying3
  a3:=Tryz.isAgg3
  z3:=Tryz.sizeOf3
  v3:=Tryz.zeroValue3
  t4:=Tryz.underlying4
  a4:=Tryz.isAgg4
  z4:=Tryz.sizeOf4
  v4:=Tryz.zeroValue4
  t9:=Tryz.underlying9
  a9:=Tryz.isAgg9
  z9:=Tryz.sizeOf9
  v9:=Tryz.zeroValue9 }
open Go.RowKit Go.Lib in
theorem Tryz.strings_HasPrefix(s p:ByteArray)(w:World):
    Calls Tryz.prog 248 #[.string s,.string p] w fun e w'=>e=.returned (.bool (Lib.hasPrefix s.data.toList p.data.toList))∧w'=w:=Any.strings_HasPrefix Tryz.lays99 s p w
end Go.Proofs
namespace Go.Proofs.YtmnlfahgklnpeaaGreatDoor.G
open Go.RowKit Go.Lib

theorem ve{s:ByteArray}{p r q:Nat}(e:Utf8.decode s p=(r,q)):C.OkR ((r:Nat):Int):=by
  have hd:=decodeL_drop s p;rw[e]at hd;have:=qge (s.data.toList.drop p);rw[hd]at this;simp only at this;unfold C.OkR;omega
theorem zta{fl:Bool}{r:Int}(h:(C.firstB r||(!fl&&C.restB r))=true):inS fl r=encodeRune r:=gj h
theorem ztb{fl:Bool}{r:Int}(h:(C.firstB r||(!fl&&C.restB r))=false):inS fl r=jw r++[59]:=f7 (by rw[h]; decide)
theorem qjf(fl:Bool)(r:Int)(rs:List Int):inL fl (r::rs)=inS fl r++inL false rs:=rfl
theorem xce(fl:Bool):inL fl []=[]:=rfl
theorem ud(fl:Bool){n:Nat}(h:n≤1114111):(inS fl ((n:Nat):Int)).length≤9:=by
  unfold inS;have:=qfg h;have:=qbi ((n:Nat):Int)
  split
  · omega
  · rw[fv]; simp only[fw,fx]; omega
theorem zmi{n:Nat}(h:n≤1114111):(C.strC ((n:Nat):Int)).length≤9:=C.strC_len _ (by omega) (by omega)
theorem qpi: ∀k:Fin 256,(C.decD k.val).length≤3:=by decide +kernel
theorem qvj{f:Bool}{l:List UInt8}{i:Nat}(hi:i<l.length):quh f (l.drop i)=(if f=true then[]else[32])++C.decD (l.getD i 0).toNat++quh false (l.drop (i+1)):=by
  rw[List.drop_eq_getElem_cons hi,show l.getD i 0=l[i]from by simp[List.getD,List.getElem?_eq_getElem hi]];rfl
theorem ztc{f:Bool}{l:List UInt8}{i:Nat}(hi:¬i<l.length):quh f (l.drop i)=[]:=by rw[i7 (by omega)]; rfl
theorem zbf{w:World}{s t:ByteArray}{b:Bool}(h:hasPrefix s.data.toList t.data.toList=b):Calls Tryz.prog 248 #[.string s,.string t] w (RB w (.bool b)):=h▸(Tryz.strings_HasPrefix s t w).mono fun e w' ⟨h,e2⟩=>⟨h,e2▸Below.refl _ _⟩
section
variable {pl:Bool} {s:ByteArray}
theorem qnf(h:pl=true∨s=⟨#[43]⟩∨s=⟨#[45]⟩∨s=⟨#[46,46,46]⟩):qaj pl s=s.data.toList:=gj h
theorem jsj(h:¬(pl=true∨s=⟨#[43]⟩∨s=⟨#[45]⟩∨s=⟨#[46,46,46]⟩))(h1:s=⟨#[]⟩):qaj pl s=[124,124]:=by unfold qaj; rw[f7 h,gj h1]
theorem jta(h:¬(pl=true∨s=⟨#[43]⟩∨s=⟨#[45]⟩∨s=⟨#[46,46,46]⟩))(h1:s≠⟨#[]⟩)(h2:hasPrefix s.data.toList [45,62]=true):qaj pl s=[45,62]++inL false (ze (s.data.toList.drop 2)):=by unfold qaj; rw[f7 h,f7 h1,gj h2]
theorem jtb(h:¬(pl=true∨s=⟨#[43]⟩∨s=⟨#[45]⟩∨s=⟨#[46,46,46]⟩))(h1:s≠⟨#[]⟩)(h2:hasPrefix s.data.toList [45,62]=false):qaj pl s=inL true (ze s.data.toList):=by unfold qaj; rw[f7 h,f7 h1,f7 (by rw[h2]; decide)]
theorem jab(h:hasPrefix s.data.toList [45,62]=true):2≤s.size:=by
  have:=zvd h;rw[zm]at this;exact this
end
theorem jje(s:ByteArray)(p:Nat):ze (s.extract p s.size).data.toList=ze (s.data.toList.drop p):=by rw[qid]
theorem xih(s:ByteArray)(p:Nat):(s.extract p s.size).size=s.size-p:=by
  rw[←zm,qid,il,zm]
theorem xcf{s:ByteArray}(h:s≠⟨#[]⟩):s.size≠0:=fun k=>h (by
  cases s with
  | mk a => congr 1; exact Array.eq_empty_of_size_eq_zero k)
open Go.RowKit
theorem TwH_is1_4: Is1 Tryz.prog 4:=⟨⟨_,lf,rfl⟩,by kernel_rfl⟩
theorem TwH_is1_5: Is1 Tryz.prog 5:=⟨⟨_,ir,rfl⟩,by kernel_rfl⟩
theorem TwH_fld_182_0: FieldAt Tryz.prog 182 0 0:=⟨_,_,lh,rfl,rfl,by kernel_rfl⟩
theorem TwH_fld_182_1: FieldAt Tryz.prog 182 1 2:=⟨_,_,lh,rfl,rfl,by kernel_rfl⟩
theorem xlb{w0 w:World}{gw:Nat}{p v:Value}{pl:Bool}{bs:List UInt8}{T:List Ck}(hp:p=.pointer none∨p=(pA gw 0))(hM0:Mg w0 w (.obj gw (.cells #[p,v,bV pl] 182)::.row BY 1 v bs.length (Lib.byteCells bs)::T))(hT:QT T){s:ByteArray}(hs:s.size≤2000000)(hz:C.Tz16 w0)(hroom:bs.length+(64*s.size+64)≤1000000000):Calls Tryz.prog 196 #[pA gw 0,.string s] w fun e w'=>e=.returned (.tuple #[])∧∃v',Mg w0 w' (.obj gw (.cells #[pA gw 0,v',bV pl] 182)::.row BY 1 v' (bs++(qlc pl s)).length (Lib.byteCells (bs++(qlc pl s)))::T):=by
 have hsl:=zm s;have M:Mg w0 w (.obj gw (.cells #[p,v,bV pl] 182)::.row BY 1 (v) bs.length ((Lib.byteCells bs))::T):=hM0;refine wof Tryz.func196 Tryz.ntmps196 fun Q hret hnorm hP a A=>?_;refine wsk fun _ ax=>wsr fun _ ay=>sdm A λA=>?_;refine sdn A λA=>?_;refine sdf A 2 TwH_fld_182_1 λA=>?_;refine sdl A M TwH_is1_4 0 λA=>?_;refine qa (ay _ _ ?_);refine wp_cond_split (t:=pl) (A.ev rfl) (fun ag=>?_) (fun ag=>?_)
 ·refine wsr fun K4 az=>sdm A λA=>?_;refine sdn A λA=>?_;refine sdf A 0 TwH_fld_182_0 λA=>?_;refine sdm A λA=>?_;refine sct A ec (jo hp (toW (X:=[]) M) (s:=s) (by first|omega|(simp only[fv,fw,fx]; omega)|(simp only[fv,fw,fx,ByteArray.size,gg,Array.size]; omega))) ?_;rintro _ _ ⟨rfl,v5,bd⟩;replace M:=(zi (X:=[]) bd);refine⟨_,rfl,?_⟩;intro a A;refine qa (az _ _ (wp_ret (hret _ _ (jq (v:=.tuple #[]) A rfl .nil rfl ?_))));refine⟨rfl,v5,?_⟩;have ah:=M.sub (L':=_::_::T) (cC (cC (.refl _)));rw[show qlc pl s=s.data.toList from(show qlc pl s=_ from gj ag)];simpa only[f4,gh,gq,f8]using ah
 ·refine wp_skip (ax _ _ (wsr fun _ bf=>sdm A λA=>?_));refine sdn A λA=>?_;refine sdf A 0 TwH_fld_182_0 λA=>?_;refine sct A ec (zx hp (toW (X:=[]) M) hT (b:=34) (by first|omega|(simp only[fv,fw,fx]; omega)|(simp only[fv,fw,fx,ByteArray.size,gg,Array.size]; omega))) ?_;rintro _ _ ⟨rfl,ai,aj⟩;replace M:=(zi (X:=[]) aj);refine⟨_,rfl,?_⟩;intro a A;refine qwk bf fun _ ak=>wsr fun _ am=>sdm A λA=>?_;refine qui A M rfl gi rfl rfl rfl rfl ?_;intro g16 bg M a A;refine qa (am _ _ (wp_block ?_));replace M:Mg w0 bg (.obj g16 (.stringIter s 0)::.obj gw (.cells #[pA gw 0,ai,bV pl] 182)::.row BY 1 (ai) ((((bs++[34])++[])).length) ((Lib.byteCells (((bs++[34])++[]))))::T):=by
   have h9:=M;simp only[f4,gh,f8]at h9 ⊢;exact h9
  refine zg (fun m_ a w1=>∃(p_:Nat) (acc:List UInt8) (vo:Value),m_=1+(s.size-p_)∧(acc++(qdd s p_).flatMap C.strC=(ze s.data.toList).flatMap C.strC∧acc.length≤9*p_∧p_≤s.size)∧Sl a 31 [(0,pA gw 0),(1,.string s),(6,pA gw 0),(7,pA gw 0),(8,pA gw 2),(9,bV pl),(15,pA gw 0),(16,pA gw 0),(17,pA gw 0),(18,.nilIface),(19,.string s),(20,pA g16 0)]∧Mg w0 w1 (.obj g16 (.stringIter s p_)::.obj gw (.cells #[pA gw 0,vo,bV pl] 182)::.row BY 1 (vo) (((bs++[34])++acc).length) ((Lib.byteCells ((bs++[34])++acc)))::T)) _ ⟨0,[],ai,rfl,⟨by rw[f8,qea],ii _,ii _⟩,A.keep _ (by repeat' constructor),M⟩ ?_;clear M A;rintro m_ a _ ⟨p_,acc,vo,rfl,ac,A,M⟩ _ ap;obtain⟨ae,ha9,hp9⟩:=ac;refine wsr fun _ af=>?_;by_cases aa:p_<s.size
  ·obtain⟨ab,cq25,he26⟩:∃r q,Utf8.decode s p_=(r,q):=⟨_,_,rfl⟩;refine zie (L':=(.obj g16 (.stringIter s (p_+cq25))::.obj gw (.cells #[pA gw 0,vo,bV pl] 182)::.row BY 1 (vo) (((bs++[34])++acc).length) ((Lib.byteCells ((bs++[34])++acc)))::T)) A M rfl rfl 0 rfl aa rfl rfl rfl he26 rfl ?_;intro _ M a A;refine sde A λA=>?_;refine qa (af _ _ (wsk fun _ aq=>wp_cond_true (A.ev rfl) ?_));refine wp_skip (aq _ _ (wp_block (wsr fun _ ar=>sde A λA=>?_)));refine sda A λA=>?_;refine qa (ar _ _ (wrl ?_));iterate 2 refine sdm A λA=>?_
   refine sct A ec (xig (.inr rfl) (toW (X:=[.obj g16 (.stringIter s (p_+cq25))]) M) (QT.it hT) (n:=ab) (ve he26) hz (by first|omega|(simp only[fv,fw,fx]; omega)|(simp only[fv,fw,fx,ByteArray.size,gg,Array.size]; omega))) ?_;rintro _ bh ⟨rfl,au,av⟩;replace M:=(zi (X:=[.obj g16 (.stringIter s (p_+cq25))]) av);refine⟨_,rfl,?_⟩;intro a A;refine qa ?_;replace M:Mg w0 bh (.obj g16 (.stringIter s (p_+cq25))::.obj gw (.cells #[pA gw 0,au,bV pl] 182)::.row BY 1 (au) ((((bs++[34])++(acc++C.strC ((ab:Nat):Int)))).length) ((Lib.byteCells (((bs++[34])++(acc++C.strC ((ab:Nat):Int))))))::T):=by
    have h9:=M;simp only[f4,gh,f8]at h9 ⊢;exact h9
   have _:=(qdg aa he26).2;have hs9:=zmi (kp (ve he26));refine ap _ _ _ (by omega) ⟨p_+cq25,acc++C.strC ((ab:Nat):Int),au,rfl,⟨by rw[←ae,jd aa he26,ij,f4],by rw[fv]; omega,by omega⟩,A.keep _ (by repeat' constructor),M⟩
  ·refine zif A M rfl rfl 0 rfl aa rfl rfl rfl λa A=>?_;refine sde A λA=>?_;refine qa (af _ _ (wsk fun _ _=>wp_cond_false (A.ev rfl) ?_));refine wp_exit (ak _ _ (wrl (sdm A λA=>?_)));refine sdn A λA=>?_;refine sdf A 0 TwH_fld_182_0 λA=>?_;refine sct A ec (zx (.inr rfl) (toW (X:=[.obj g16 (.stringIter s p_)]) M) (QT.it hT) (b:=34) (by first|omega|(simp only[fv,fw,fx]; omega)|(simp only[fv,fw,fx,ByteArray.size,gg,Array.size]; omega))) ?_;rintro _ _ ⟨rfl,bi,aw⟩;replace M:=(zi (X:=[.obj g16 (.stringIter s p_)]) aw);refine⟨_,rfl,?_⟩;intro a A;refine qa (hnorm _ _ (jq (v:=.tuple #[]) A rfl .nil rfl ?_));refine⟨rfl,bi,?_⟩;have ah:=M.sub (L':=_::_::T) (cN (cC (cC (.refl _))));rw[show qlc pl s=([34])++(acc++([34]))from(by unfold qlc; rw[f7 (by rw[ag]; decide),←ae,qeb aa,List.flatMap_nil,gh,f4])];simpa only[f4,gh,gq,f8]using ah
theorem jtc{w0 w:World}{gw:Nat}{p v:Value}{pl:Bool}{bs:List UInt8}{T:List Ck}(hp:p=.pointer none∨p=(pA gw 0))(hM0:Mg w0 w (.obj gw (.cells #[p,v,bV pl] 182)::.row BY 1 v bs.length (Lib.byteCells bs)::T))(hT:QT T){s:ByteArray}{fi:Bool}(hne:s.size≠0∨p=(pA gw 0))(hs:s.size≤2000000)(hz:C.Tz16 w0)(hroom:bs.length+(64*s.size+64)≤1000000000):Calls Tryz.prog 249 #[pA gw 0,.string s,bV fi] w fun e w'=>e=.returned (.tuple #[])∧∃v',Mg w0 w' (.obj gw (.cells #[pA gw 0,v',bV pl] 182)::.row BY 1 v' (bs++(inL fi (ze s.data.toList))).length (Lib.byteCells (bs++(inL fi (ze s.data.toList))))::T):=by
 have M:Mg w0 w (.obj gw (.cells #[p,v,bV pl] 182)::.row BY 1 (v) bs.length ((Lib.byteCells bs))::T):=hM0;refine wof Tryz.func249 Tryz.ntmps249 fun Q hret hnorm hP a A=>?_;refine wsr fun _ bn=>sdm A λA=>?_;refine qui A M rfl gi rfl rfl rfl rfl ?_;intro g2 w3 M a A;refine qa (bn _ _ (wp_block ?_));replace M:Mg w0 w3 (.obj g2 (.stringIter s 0)::.obj gw (.cells #[p,v,bV pl] 182)::.row BY 1 (v) (((bs++[])).length) ((Lib.byteCells ((bs++[]))))::T):=by
  have h9:=M;simp only[f4,gh,f8]at h9 ⊢;exact h9
 refine zg (fun m_ a w1=>∃(p_:Nat) (fl:Bool) (acc:List UInt8) (vo:Value) (po:Value),m_=1+(s.size-p_)∧((po=(pA gw 0)∨(p_=0∧po=p))∧acc++inL fl (qdd s p_)=inL fi (ze s.data.toList)∧acc.length≤9*p_∧p_≤s.size)∧Sl a 35 [(0,pA gw 0),(1,.string s),(2,bV fl),(8,.string s),(9,pA g2 0)]∧Mg w0 w1 (.obj g2 (.stringIter s p_)::.obj gw (.cells #[po,vo,bV pl] 182)::.row BY 1 (vo) ((bs++acc).length) ((Lib.byteCells (bs++acc)))::T)) _ ⟨0,fi,[],v,p,rfl,⟨.inr ⟨rfl,rfl⟩,by rw[f8,qea],ii _,ii _⟩,A.keep _ ⟨rfl,rfl,rfl,rfl,rfl,trivial⟩,M⟩ ?_;clear M A;rintro m_ a _ ⟨p_,fl,acc,vo,po,rfl,aj,A,M⟩ _ am;obtain⟨hpq,ac,ha9,hp9⟩:=aj;have hpo:po=.pointer none∨po=(pA gw 0):=by
  rcases hpq with h|⟨_,h⟩
  ·exact .inr h
  ·rw[h]; exact hp
 refine wsr fun _ bj=>?_;by_cases ah:p_<s.size
 ·obtain⟨aa,cq11,he12⟩:∃r q,Utf8.decode s p_=(r,q):=⟨_,_,rfl⟩;refine zie (L':=(.obj g2 (.stringIter s (p_+cq11))::.obj gw (.cells #[po,vo,bV pl] 182)::.row BY 1 (vo) ((bs++acc).length) ((Lib.byteCells (bs++acc)))::T)) A M rfl rfl 0 rfl ah rfl rfl rfl he12 rfl ?_;intro _ M a A;refine sde A λA=>?_;refine qa (bj _ _ (wsk fun _ ap=>wp_cond_true (A.ev rfl) ?_));refine wp_skip (ap _ _ (wp_block (wsk fun _ aq=>?_)));have _:=(qdg ah he12).2;have ak:=kp (ve he12);have hcw8:=qfg ak;have hen4:=qbi ((aa:Nat):Int);refine wrl (sde A λA=>?_);refine sda A λA=>?_;refine qwk aq fun _ af=>wsr fun _ ag=>sdm A λA=>?_;rcases tf (C.firstB (((aa:Nat):Int)))with ab|ab
  ·refine gcl A M ec ((ab▸C.isFirst_any (((aa:Nat):Int)) (ve he12) _)) fun _ _ M a A=>?_;refine sdm A λA=>?_;iterate 3 refine sks A λA=>?_
   iterate 2 refine qbh A rfl rfl rfl λa A=>?_
   refine sks A λA=>?_;refine sdk (v:=bV true) A λA=>?_;refine qct ag A ?_;refine wrl (sdm A λA=>?_);refine sdn A λA=>?_;refine sdf A 0 TwH_fld_182_0 λA=>?_;refine sdm A λA=>?_;refine sct A ec (kb hpo (toW (X:=[.obj g2 (.stringIter s (p_+cq11))]) M) (QT.it hT) (r:=((aa:Nat):Int)) (by omega) (by omega) (by first|omega|(simp only[fv,fw,fx]; omega)|(simp only[fv,fw,fx,ByteArray.size,gg,Array.size]; omega))) ?_;rintro _ bp ⟨z22,rfl,ar,au⟩;replace M:=(zi (X:=[.obj g2 (.stringIter s (p_+cq11))]) au);refine⟨_,rfl,?_⟩;intro a A;refine qa (af _ _ (wrl (sda A λA=>?_)));refine qa ?_;have ai:inS fl ((aa:Nat):Int)=Lib.encodeRune ((aa:Nat):Int):=zta (by rw[ab]; simp);replace M:Mg w0 bp (.obj g2 (.stringIter s (p_+cq11))::.obj gw (.cells #[pA gw 0,ar,bV pl] 182)::.row BY 1 (ar) (((bs++(acc++inS fl ((aa:Nat):Int)))).length) ((Lib.byteCells ((bs++(acc++inS fl ((aa:Nat):Int))))))::T):=by
    have h9:=M;rw[ai];simp only[f4]at h9 ⊢;exact h9
   have hs9:=ud fl ak;refine am _ _ _ (by omega) ⟨p_+cq11,false,acc++inS fl ((aa:Nat):Int),ar,pA gw 0,rfl,⟨.inl rfl,by rw[←ac,jd ah he12,qjf,f4],by rw[fv]; omega,by omega⟩,A.keep _ ⟨rfl,rfl,rfl,rfl,rfl,trivial⟩,M⟩
  ·refine gcl A M ec ((ab▸C.isFirst_any (((aa:Nat):Int)) (ve he12) _)) fun _ _ M a A=>?_;iterate 2 refine sdm A λA=>?_
   rcases fl with _|_
   ·refine sdu A λA=>?_;iterate 2 refine sdm A λA=>?_
    rcases tf (C.restB (((aa:Nat):Int)))with ae|ae
    ·refine gcl A M ec ((ae▸C.isRest_any (((aa:Nat):Int)) (ve he12) _)) fun _ _ M a A=>?_;iterate 2 refine sdk (v:=bV true) A λA=>?_
     refine qct ag A ?_;refine wrl (sdm A λA=>?_);refine sdn A λA=>?_;refine sdf A 0 TwH_fld_182_0 λA=>?_;refine sdm A λA=>?_;refine sct A ec (kb hpo (toW (X:=[.obj g2 (.stringIter s (p_+cq11))]) M) (QT.it hT) (r:=((aa:Nat):Int)) (by omega) (by omega) (by first|omega|(simp only[fv,fw,fx]; omega)|(simp only[fv,fw,fx,ByteArray.size,gg,Array.size]; omega))) ?_;rintro _ bq ⟨z31,rfl,av,aw⟩;replace M:=(zi (X:=[.obj g2 (.stringIter s (p_+cq11))]) aw);refine⟨_,rfl,?_⟩;intro a A;refine qa (af _ _ (wrl (sda A λA=>?_)));refine qa ?_;have ai:inS false ((aa:Nat):Int)=Lib.encodeRune ((aa:Nat):Int):=zta (by rw[ab,ae]; rfl);replace M:Mg w0 bq (.obj g2 (.stringIter s (p_+cq11))::.obj gw (.cells #[pA gw 0,av,bV pl] 182)::.row BY 1 (av) (((bs++(acc++inS false ((aa:Nat):Int)))).length) ((Lib.byteCells ((bs++(acc++inS false ((aa:Nat):Int))))))::T):=by
      have h9:=M;rw[ai];simp only[f4]at h9 ⊢;exact h9
     have hs9:=ud false ak;refine am _ _ _ (by omega) ⟨p_+cq11,false,acc++inS false ((aa:Nat):Int),av,pA gw 0,rfl,⟨.inl rfl,by rw[←ac,jd ah he12,qjf,f4],by rw[fv]; omega,by omega⟩,A.keep _ ⟨rfl,rfl,rfl,rfl,rfl,trivial⟩,M⟩
    ·refine gcl A M ec ((ae▸C.isRest_any (((aa:Nat):Int)) (ve he12) _)) fun _ _ M a A=>?_;iterate 2 refine sdk (v:=bV false) A λA=>?_
     refine qcf ag A ?_;refine wsr fun _ ax=>?_;iterate 2 refine sdm A λA=>?_
     refine sct A ec (qlf hpo (toW (X:=[.obj g2 (.stringIter s (p_+cq11))]) M) (QT.it hT) (n:=aa) (kp (ve he12)) hz (by first|omega|(simp only[fv,fw,fx]; omega)|(simp only[fv,fw,fx,ByteArray.size,gg,Array.size]; omega))) ?_;rintro _ _ ⟨rfl,_,ay⟩;replace M:=(zi (X:=[.obj g2 (.stringIter s (p_+cq11))]) ay);refine⟨_,rfl,?_⟩;intro a A;refine qa (ax _ _ (wrl (sdm A λA=>?_)));refine sdn A λA=>?_;refine sdf A 0 TwH_fld_182_0 λA=>?_;refine sct A ec (zx (.inr rfl) (toW (X:=[.obj g2 (.stringIter s (p_+cq11))]) M) (QT.it hT) (b:=59) (by first|omega|(simp only[fv,fw,fx]; omega)|(simp only[fv,fw,fx,ByteArray.size,gg,Array.size]; omega))) ?_;rintro _ br ⟨rfl,az,bd⟩;replace M:=(zi (X:=[.obj g2 (.stringIter s (p_+cq11))]) bd);refine⟨_,rfl,?_⟩;intro a A;refine qa (af _ _ (wrl (sda A λA=>?_)));refine qa ?_;have ai:inS false ((aa:Nat):Int)=jw ((aa:Nat):Int)++[59]:=ztb (by rw[ab,ae]; rfl);replace M:Mg w0 br (.obj g2 (.stringIter s (p_+cq11))::.obj gw (.cells #[pA gw 0,az,bV pl] 182)::.row BY 1 (az) (((bs++(acc++inS false ((aa:Nat):Int)))).length) ((Lib.byteCells ((bs++(acc++inS false ((aa:Nat):Int))))))::T):=by
      have h9:=M;rw[ai];simp only[f4]at h9 ⊢;exact h9
     have hs9:=ud false ak;refine am _ _ _ (by omega) ⟨p_+cq11,false,acc++inS false ((aa:Nat):Int),az,pA gw 0,rfl,⟨.inl rfl,by rw[←ac,jd ah he12,qjf,f4],by rw[fv]; omega,by omega⟩,A.keep _ ⟨rfl,rfl,rfl,rfl,rfl,trivial⟩,M⟩
   ·refine sdu A λA=>?_;refine sdm A λA=>?_;iterate 2 refine sks A λA=>?_
    iterate 2 refine sdk (v:=bV false) A λA=>?_
    refine qcf ag A ?_;refine wsr fun _ bf=>?_;iterate 2 refine sdm A λA=>?_
    refine sct A ec (qlf hpo (toW (X:=[.obj g2 (.stringIter s (p_+cq11))]) M) (QT.it hT) (n:=aa) (kp (ve he12)) hz (by first|omega|(simp only[fv,fw,fx]; omega)|(simp only[fv,fw,fx,ByteArray.size,gg,Array.size]; omega))) ?_;rintro _ _ ⟨rfl,_,bg⟩;replace M:=(zi (X:=[.obj g2 (.stringIter s (p_+cq11))]) bg);refine⟨_,rfl,?_⟩;intro a A;refine qa (bf _ _ (wrl (sdm A λA=>?_)));refine sdn A λA=>?_;refine sdf A 0 TwH_fld_182_0 λA=>?_;refine sct A ec (zx (.inr rfl) (toW (X:=[.obj g2 (.stringIter s (p_+cq11))]) M) (QT.it hT) (b:=59) (by first|omega|(simp only[fv,fw,fx]; omega)|(simp only[fv,fw,fx,ByteArray.size,gg,Array.size]; omega))) ?_;rintro _ bw ⟨rfl,bh,bi⟩;replace M:=(zi (X:=[.obj g2 (.stringIter s (p_+cq11))]) bi);refine⟨_,rfl,?_⟩;intro a A;refine qa (af _ _ (wrl (sda A λA=>?_)));refine qa ?_;have ai:inS true ((aa:Nat):Int)=jw ((aa:Nat):Int)++[59]:=ztb (by rw[ab]; rfl);replace M:Mg w0 bw (.obj g2 (.stringIter s (p_+cq11))::.obj gw (.cells #[pA gw 0,bh,bV pl] 182)::.row BY 1 (bh) (((bs++(acc++inS true ((aa:Nat):Int)))).length) ((Lib.byteCells ((bs++(acc++inS true ((aa:Nat):Int))))))::T):=by
     have h9:=M;rw[ai];simp only[f4]at h9 ⊢;exact h9
    have hs9:=ud true ak;refine am _ _ _ (by omega) ⟨p_+cq11,false,acc++inS true ((aa:Nat):Int),bh,pA gw 0,rfl,⟨.inl rfl,by rw[←ac,jd ah he12,qjf,f4],by rw[fv]; omega,by omega⟩,A.keep _ ⟨rfl,rfl,rfl,rfl,rfl,trivial⟩,M⟩
 ·refine zif A M rfl rfl 0 rfl ah rfl rfl rfl λa A=>?_;refine sde A λA=>?_;refine qa (bj _ _ (wsk fun _ _=>wp_cond_false (A.ev rfl) ?_));refine wp_exit (hnorm _ _ (jq (v:=.tuple #[]) A rfl .nil rfl ?_));have hpe:po=(pA gw 0):=by
   rcases hpq with h|⟨h0,h⟩
   ·exact h
   ·rcases hne with k|k
    ·omega
    ·rw[h,k]
  rw[hpe]at M;refine⟨rfl,vo,?_⟩;have bz:=M.sub (L':=_::_::T) (cN (cC (cC (.refl _))));rw[show inL fi (ze s.data.toList)=acc from(by rw[←ac,qeb ah,xce,gh])];simpa only[f4,gh,gq,f8]using bz
theorem xme{w0 w:World}{gw:Nat}{p v:Value}{pl:Bool}{bs:List UInt8}{T:List Ck}(hp:p=.pointer none∨p=(pA gw 0))(hM0:Mg w0 w (.obj gw (.cells #[p,v,bV pl] 182)::.row BY 1 v bs.length (Lib.byteCells bs)::T))(hT:QT T){s:ByteArray}(hs:s.size≤2000000)(hz:C.Tz16 w0)(hroom:bs.length+(64*s.size+64)≤1000000000):Calls Tryz.prog 197 #[pA gw 0,.string s] w fun e w'=>e=.returned (.tuple #[])∧∃v',Mg w0 w' (.obj gw (.cells #[pA gw 0,v',bV pl] 182)::.row BY 1 v' (bs++(qaj pl s)).length (Lib.byteCells (bs++(qaj pl s)))::T):=by
 have M:Mg w0 w (.obj gw (.cells #[p,v,bV pl] 182)::.row BY 1 (v) bs.length ((Lib.byteCells bs))::T):=hM0;refine wof Tryz.func197 Tryz.ntmps197 fun Q hret hnorm hP a A=>?_;refine wp_block (wsr fun _ ah=>sdm A λA=>?_);refine sdn A λA=>?_;refine sdf A 2 TwH_fld_182_1 λA=>?_;refine sdl A M TwH_is1_4 0 λA=>?_;refine sdm A λA=>?_;rcases pl with _|_
 ·refine sdm A λA=>?_;rcases tf (decide (s=⟨#[43]⟩))with af|af
  ·have af':=f5 af;refine sdo (v:=bV true) A (qb rfl rfl (fun w=>(je gi w).trans (by rw[af]<;>rfl))) λA=>?_;refine sdk (v:=bV true) A λA=>?_;refine sdm A λA=>?_;iterate 2 refine sks A λA=>?_
   refine sdk (v:=bV true) A λA=>?_;refine sdm A λA=>?_;iterate 2 refine sks A λA=>?_
   refine sdk (v:=bV true) A λA=>?_;refine sda A λA=>?_;refine qct ah A ?_;refine wrl (sdm A λA=>?_);refine sdn A λA=>?_;refine sdf A 0 TwH_fld_182_0 λA=>?_;refine sdm A λA=>?_;refine sct A ec (jo hp (toW (X:=[]) M) (s:=s) (by first|omega|(simp only[fv,fw,fx]; omega)|(simp only[fv,fw,fx,ByteArray.size,gg,Array.size]; omega))) ?_;rintro _ _ ⟨rfl,v3,aw⟩;replace M:=(zi (X:=[]) aw);refine⟨_,rfl,?_⟩;intro a A;refine qa (hnorm _ _ (jq (v:=.tuple #[]) A rfl .nil rfl ?_));refine⟨rfl,v3,?_⟩;have ac:=M.sub (L':=_::_::T) (cC (cC (.refl _)));rw[show qaj false s=s.data.toList from qnf (.inr (.inl af'))];simpa only[f4,gh,gq,f8]using ac
  ·have af':=fy af;refine sdo (v:=bV false) A (qb rfl rfl (fun w=>(je gi w).trans (by rw[af]<;>rfl))) λA=>?_;refine sdk (v:=bV false) A λA=>?_;iterate 2 refine sdm A λA=>?_
   rcases tf (decide (s=⟨#[45]⟩))with ag|ag
   ·have ag':=f5 ag;refine sdo (v:=bV true) A (qb rfl rfl (fun w=>(je gi w).trans (by rw[ag]<;>rfl))) λA=>?_;refine sdk (v:=bV true) A λA=>?_;refine sdm A λA=>?_;iterate 2 refine sks A λA=>?_
    refine sdk (v:=bV true) A λA=>?_;refine sda A λA=>?_;refine qct ah A ?_;refine wrl (sdm A λA=>?_);refine sdn A λA=>?_;refine sdf A 0 TwH_fld_182_0 λA=>?_;refine sdm A λA=>?_;refine sct A ec (jo hp (toW (X:=[]) M) (s:=s) (by first|omega|(simp only[fv,fw,fx]; omega)|(simp only[fv,fw,fx,ByteArray.size,gg,Array.size]; omega))) ?_;rintro _ _ ⟨rfl,v8,ax⟩;replace M:=(zi (X:=[]) ax);refine⟨_,rfl,?_⟩;intro a A;refine qa (hnorm _ _ (jq (v:=.tuple #[]) A rfl .nil rfl ?_));refine⟨rfl,v8,?_⟩;have ac:=M.sub (L':=_::_::T) (cC (cC (.refl _)));rw[show qaj false s=s.data.toList from qnf (.inr (.inr (.inl ag')))];simpa only[f4,gh,gq,f8]using ac
   ·have ag':=fy ag;refine sdo (v:=bV false) A (qb rfl rfl (fun w=>(je gi w).trans (by rw[ag]<;>rfl))) λA=>?_;refine sdk (v:=bV false) A λA=>?_;iterate 2 refine sdm A λA=>?_
    rcases tf (decide (s=⟨#[46,46,46]⟩))with aa|aa
    ·have aa':=f5 aa;refine sdo (v:=bV true) A (qb rfl rfl (fun w=>(je gi w).trans (by rw[aa]<;>rfl))) λA=>?_;refine sdk (v:=bV true) A λA=>?_;refine sda A λA=>?_;refine qct ah A ?_;refine wrl (sdm A λA=>?_);refine sdn A λA=>?_;refine sdf A 0 TwH_fld_182_0 λA=>?_;refine sdm A λA=>?_;refine sct A ec (jo hp (toW (X:=[]) M) (s:=s) (by first|omega|(simp only[fv,fw,fx]; omega)|(simp only[fv,fw,fx,ByteArray.size,gg,Array.size]; omega))) ?_;rintro _ _ ⟨rfl,ay,ak⟩;replace M:=(zi (X:=[]) ak);refine⟨_,rfl,?_⟩;intro a A;refine qa (hnorm _ _ (jq (v:=.tuple #[]) A rfl .nil rfl ?_));refine⟨rfl,ay,?_⟩;have ac:=M.sub (L':=_::_::T) (cC (cC (.refl _)));rw[show qaj false s=s.data.toList from qnf (.inr (.inr (.inr aa')))];simpa only[f4,gh,gq,f8]using ac
    ·have aa':=fy aa;refine sdo (v:=bV false) A (qb rfl rfl (fun w=>(je gi w).trans (by rw[aa]<;>rfl))) λA=>?_;refine sdk (v:=bV false) A λA=>?_;refine sda A λA=>?_;refine qcf ah A ?_;refine wsr fun _ ai=>sdm A λA=>?_;rcases tf (decide (s=⟨#[]⟩))with ab|ab
     ·have ab':=f5 ab;refine sdo (v:=bV true) A (qb rfl rfl (fun w=>(je gi w).trans (by rw[ab]<;>rfl))) λA=>?_;refine sda A λA=>?_;refine qct ai A ?_;refine wrl (sdm A λA=>?_);refine sdn A λA=>?_;refine sdf A 0 TwH_fld_182_0 λA=>?_;refine sct A ec (jo hp (toW (X:=[]) M) (s:=⟨#[124,124]⟩) (by first|omega|(simp only[fv,fw,fx]; omega)|(simp only[fv,fw,fx,ByteArray.size,gg,Array.size]; omega))) ?_;rintro _ _ ⟨rfl,az,am⟩;replace M:=(zi (X:=[]) am);refine⟨_,rfl,?_⟩;intro a A;refine qa (hnorm _ _ (jq (v:=.tuple #[]) A rfl .nil rfl ?_));refine⟨rfl,az,?_⟩;have ac:=M.sub (L':=_::_::T) (cC (cC (.refl _)));rw[show qaj false s=([124,124])from jsj (fun k=>by rcases k with k|k|k|k; cases k; exact af' k; exact ag' k; exact aa' k) ab'];simpa only[f4,gh,gq,f8]using ac
     ·have ab':=fy ab;refine sdo (v:=bV false) A (qb rfl rfl (fun w=>(je gi w).trans (by rw[ab]<;>rfl))) λA=>?_;refine sda A λA=>?_;refine qcf ai A ?_;refine wsr fun _ aj=>sdm A λA=>?_;rcases tf (Lib.hasPrefix s.data.toList [45,62])with ae|ae
      ·refine gcl A M ec (zbf (s:=s) (t:=⟨#[45,62]⟩) ae) fun _ _ M a A=>?_;refine sda A λA=>?_;refine qct aj A ?_;refine wsr fun _ ap=>sdm A λA=>?_;refine sdn A λA=>?_;refine sdf A 0 TwH_fld_182_0 λA=>?_;refine sct A ec (jo hp (toW (X:=[]) M) (s:=⟨#[45,62]⟩) (by first|omega|(simp only[fv,fw,fx]; omega)|(simp only[fv,fw,fx,ByteArray.size,gg,Array.size]; omega))) ?_;rintro _ _ ⟨rfl,_,aq⟩;replace M:=(zi (X:=[]) aq);refine⟨_,rfl,?_⟩;intro a A;refine qa (ap _ _ (wrl ?_));iterate 2 refine sdm A λA=>?_
       have hp2:=jab ae;have hee:=xih s 2;refine sdo (v:=.string (s.extract 2 s.size)) A (qwg (p:=2) gi rfl rfl hp2) λA=>?_;refine sct A ec (jtc (.inr rfl) (toW (X:=[]) M) hT (s:=s.extract 2 s.size) (fi:=false) (.inr rfl) (by omega) hz (by first|omega|(simp only[fv,fw,fx]; omega)|(simp only[fv,fw,fx,ByteArray.size,gg,Array.size]; omega))) ?_;rintro _ _ ⟨rfl,bd,ar⟩;replace M:=(zi (X:=[]) ar);refine⟨_,rfl,?_⟩;intro a A;refine qa (hnorm _ _ (jq (v:=.tuple #[]) A rfl .nil rfl ?_));refine⟨rfl,bd,?_⟩;have ac:=M.sub (L':=_::_::T) (cC (cC (.refl _)));rw[show qaj false s=([45,62])++(inL false (ze (s.extract 2 s.size).data.toList))from(by rw[jta (fun k=>by rcases k with k|k|k|k; cases k; exact af' k; exact ag' k; exact aa' k) ab' ae,jje])];simpa only[f4,gh,gq,f8]using ac
      ·refine gcl A M ec (zbf (s:=s) (t:=⟨#[45,62]⟩) ae) fun _ _ M a A=>?_;refine sda A λA=>?_;refine qcf aj A ?_;refine wrl ?_;iterate 2 refine sdm A λA=>?_
       refine sct A ec (jtc hp (toW (X:=[]) M) hT (s:=s) (fi:=true) (.inl (xcf ab')) (by omega) hz (by first|omega|(simp only[fv,fw,fx]; omega)|(simp only[fv,fw,fx,ByteArray.size,gg,Array.size]; omega))) ?_;rintro _ _ ⟨rfl,bf,au⟩;replace M:=(zi (X:=[]) au);refine⟨_,rfl,?_⟩;intro a A;refine qa (hnorm _ _ (jq (v:=.tuple #[]) A rfl .nil rfl ?_));refine⟨rfl,bf,?_⟩;have ac:=M.sub (L':=_::_::T) (cC (cC (.refl _)));rw[show qaj false s=(inL true (ze s.data.toList))from(by rw[jtb (fun k=>by rcases k with k|k|k|k; cases k; exact af' k; exact ag' k; exact aa' k) ab' ae])];simpa only[f4,gh,gq,f8]using ac
 ·iterate 2 refine sks A λA=>?_
  refine sdk (v:=bV true) A λA=>?_;refine sdm A λA=>?_;iterate 2 refine sks A λA=>?_
  refine sdk (v:=bV true) A λA=>?_;refine sdm A λA=>?_;iterate 2 refine sks A λA=>?_
  refine sdk (v:=bV true) A λA=>?_;refine sda A λA=>?_;refine qct ah A ?_;refine wrl (sdm A λA=>?_);refine sdn A λA=>?_;refine sdf A 0 TwH_fld_182_0 λA=>?_;refine sdm A λA=>?_;refine sct A ec (jo hp (toW (X:=[]) M) (s:=s) (by first|omega|(simp only[fv,fw,fx]; omega)|(simp only[fv,fw,fx,ByteArray.size,gg,Array.size]; omega))) ?_;rintro _ _ ⟨rfl,bg,av⟩;replace M:=(zi (X:=[]) av);refine⟨_,rfl,?_⟩;intro a A;refine qa (hnorm _ _ (jq (v:=.tuple #[]) A rfl .nil rfl ?_));refine⟨rfl,bg,?_⟩;have ac:=M.sub (L':=_::_::T) (cC (cC (.refl _)));rw[show qaj true s=s.data.toList from qnf (.inl rfl)];simpa only[f4,gh,gq,f8]using ac
theorem xii{w0 w:World}{gw:Nat}{p v:Value}{pl:Bool}{bs:List UInt8}{T:List Ck}(hp:p=.pointer none∨p=(pA gw 0))(hM0:Mg w0 w (.obj gw (.cells #[p,v,bV pl] 182)::.row BY 1 v bs.length (Lib.byteCells bs)::T))(hT:QT T){so:Option Addr}{ca:Nat}{l:List UInt8}(hb:Rb w0 so l)(hl:l.length≤2000000)(htp:C.Tp10 w0)(hroom:bs.length+(64*l.length+64)≤1000000000):Calls Tryz.prog 198 #[pA gw 0,.slice so l.length ca] w fun e w'=>e=.returned (.tuple #[])∧∃v',Mg w0 w' (.obj gw (.cells #[pA gw 0,v',bV pl] 182)::.row BY 1 v' (bs++(zmf l)).length (Lib.byteCells (bs++(zmf l)))::T):=by
 have M:Mg w0 w (.obj gw (.cells #[p,v,bV pl] 182)::.row BY 1 (v) bs.length ((Lib.byteCells bs))::T):=hM0;refine wof Tryz.func198 Tryz.ntmps198 fun Q hret hnorm hP a A=>?_;refine wsr fun _ az=>sdm A λA=>?_;refine sdn A λA=>?_;refine sdf A 0 TwH_fld_182_0 λA=>?_;refine sct A ec (jo hp (toW (X:=[]) M) (s:=⟨#[35,118,117,56,40]⟩) (by first|omega|(simp only[fv,fw,fx]; omega)|(simp only[fv,fw,fx,ByteArray.size,gg,Array.size]; omega))) ?_;rintro _ w5 ⟨rfl,v2,bd⟩;replace M:=(zi (X:=[]) bd);refine⟨_,rfl,?_⟩;intro a A;refine qwk az fun _ bf=>wsr fun _ bg=>sdm A λA=>?_;refine sdo A (qr ib rfl) λA=>?_;refine sdm A λA=>?_;refine qa (bg _ _ (wp_block ?_));replace M:Mg w0 w5 (.obj gw (.cells #[pA gw 0,v2,bV pl] 182)::.row BY 1 (v2) ((((bs++[35,118,117,56,40])++[])).length) ((Lib.byteCells (((bs++[35,118,117,56,40])++[]))))::T):=by
  have h9:=M;simp only[f4,gh,f8]at h9 ⊢;exact h9
 refine zg (fun m_ a w1=>∃(i:Nat) (acc:List UInt8) (vo:Value),m_=1+(l.length-i)∧(i≤l.length∧acc++quh (decide (i=0)) (l.drop i)=quh true l∧acc.length≤4*i)∧Sl a 32 [(0,pA gw 0),(1,.slice so l.length ca),(6,pA gw 0),(7,pA gw 0),(8,pA gw 0),(9,.tuple #[iV ((((⟨#[35,118,117,56,40]⟩:ByteArray).size:Nat):Int)),.nilIface]),(10,.slice so l.length ca),(11,iV (((l.length:Nat):Int))),(12,iV (((i:Nat):Int)))]∧Mg w0 w1 (.obj gw (.cells #[pA gw 0,vo,bV pl] 182)::.row BY 1 (vo) (((bs++[35,118,117,56,40])++acc).length) ((Lib.byteCells ((bs++[35,118,117,56,40])++acc)))::T)) _ ⟨0,[],v2,rfl,⟨ii _,rfl,ii _⟩,A.keep _ (by repeat' constructor),M⟩ ?_;clear M A;rintro m_ a _ ⟨i,acc,vo,rfl,ac,A,M⟩ _ ay;obtain⟨_,ae,ha9⟩:=ac;refine wsr fun _ af=>?_;rcases tf (decide (((i:Nat):Int)<((l.length:Nat):Int)))with ab|ab
 ·have ab':=f5 ab;refine sdc A qy ab λA=>?_;refine qa (af _ _ (wsk fun _ ai=>wp_cond_true (A.ev rfl) ?_));refine wp_skip (ai _ _ (wsk fun _ ag=>wp_block (wsr fun _ aj=>sdm A λA=>?_)));obtain⟨bx,ox,bh,bi,bj⟩:=qhf (i:=i) hb (by omega);have hX8:(l.getD i 0).toNat<256:=UInt8.toNat_lt _;have hd3:=qpi ⟨(l.getD i 0).toNat,hX8⟩;simp only at hd3;refine sdo (v:=pA bx (ox+i)) A (ja (k:=i) ib (by kernel_rfl) rfl rfl rfl bh (by omega)) λA=>?_;refine sdo A (qgh M bi (bj i (by omega)) TwH_is1_5 rfl) λA=>?_;iterate 2 refine sda A λA=>?_
  refine qwr aj fun _ ah=>?_;iterate 2 refine sdm A λA=>?_
  rcases tf (decide (i=0))with aa|aa
  ·have aa':=f5 aa;refine sct A ec ((show Calls Tryz.prog 250 #[pA gw 0,iV ((i:Nat):Int)] _ _ from by rw[aa']; exact jsa (toW (X:=[]) M))) ?_;rintro _ _ ⟨rfl,ak⟩;replace M:=(zi (X:=[]) ak);refine⟨_,rfl,?_⟩;intro a A;refine qa (ah _ _ (xg (S:=fun w1=>Mg w0 w1 ([])) (by kernel_rfl) ?_));replace M:=M.drew;refine atk A 0 rfl hP (M.sub (cN (cN ns))) (λ_ M=>zr rfl) λA=>?_;refine atk A 1 rfl hP (M.sub (cN (cN ns))) (λ_ M=>qef rfl) λA=>?_;refine atk (v:=pA gw 0) A 2 rfl hP (M.sub (cN (cN ns))) (λ_ M=>qp TwH_fld_182_0 rfl rfl) λA=>?_;refine atk A 3 rfl hP (M.sub (cN (cN ns))) (λ_ M=>zr rfl) λA=>?_;refine atk (v:=iV ((((l.getD i 0).toNat:Nat):Int))) A 4 rfl hP (M.sub (cN (cN ns))) (λ_ M=>zk rfl (ar_conv ir i8 (in_i64 (by omega) (by omega)))) λA=>?_;refine zn (by kernel_rfl) (jc A 5 rfl rfl rfl rfl ec (C.itoa_any (htp.below M.bel) hX8) ?_);rintro _ _ ⟨rfl,am⟩;replace M:=M.call am;refine⟨_,rfl,(M.sub (cN (cN ns))),?_⟩;intro a A;refine zn (by kernel_rfl) (jc A 6 rfl rfl rfl rfl ec (jo (.inr rfl) (toW (X:=[]) M) (s:=⟨(C.decD (l.getD i 0).toNat).toArray⟩) (by first|omega|(simp only[fv,fw,fx]; omega)|(simp only[fv,fw,fx,ByteArray.size,gg,Array.size]; omega))) ?_);rintro _ bn ⟨rfl,ap,aq⟩;replace M:=(zi (X:=[]) aq);refine⟨_,rfl,(M.sub (cN (cN ns))),?_⟩;intro a A;refine jl (by kernel_rfl) ?_
   refine ag _ _ (wrl (sdo (v:=iV (((i+1:Nat):Int))) A (qb rfl rfl (fun w=>(zq (jk (by omega) (by omega)) w).trans (by rw[show(((i:Nat):Int)+1:Int)=((i+1:Nat):Int)from by omega]))) λA=>?_));refine sdm A λA=>?_;refine qa ?_;replace M:Mg w0 bn (.obj gw (.cells #[pA gw 0,ap,bV pl] 182)::.row BY 1 (ap) ((((bs++[35,118,117,56,40])++(acc++([]++C.decD (l.getD i 0).toNat)))).length) ((Lib.byteCells (((bs++[35,118,117,56,40])++(acc++([]++C.decD (l.getD i 0).toNat))))))::T):=by
    have h9:=M;simp only[f4,gh,f8]at h9 ⊢;exact h9
   refine ay _ _ _ (by omega) ⟨i+1,acc++([]++C.decD (l.getD i 0).toNat),ap,rfl,⟨by omega,by rw[←ae,show decide (i+1=0)=false from gn (by omega),qvj (f:=decide (i=0)) (i:=i) (by omega),aa]; rw[gj rfl]; simp only[f4],by rw[fv,fv]; simp only[fw,fx]; omega⟩,A.keep _ (by repeat' constructor),M⟩
  ·have aa':=fy aa;refine sct A ec (jsb (.inr rfl) (toW (X:=[]) M) hT (i:=((i:Nat):Int)) (by omega) (by first|omega|(simp only[fv,fw,fx]; omega)|(simp only[fv,fw,fx,ByteArray.size,gg,Array.size]; omega))) ?_;rintro _ _ ⟨rfl,_,ar⟩;replace M:=(zi (X:=[]) ar);refine⟨_,rfl,?_⟩;intro a A;refine qa (ah _ _ (xg (S:=fun w1=>Mg w0 w1 ([])) (by kernel_rfl) ?_));replace M:=M.drew;refine atk A 0 rfl hP (M.sub (cN (cN ns))) (λ_ M=>zr rfl) λA=>?_;refine atk A 1 rfl hP (M.sub (cN (cN ns))) (λ_ M=>qef rfl) λA=>?_;refine atk (v:=pA gw 0) A 2 rfl hP (M.sub (cN (cN ns))) (λ_ M=>qp TwH_fld_182_0 rfl rfl) λA=>?_;refine atk A 3 rfl hP (M.sub (cN (cN ns))) (λ_ M=>zr rfl) λA=>?_;refine atk (v:=iV ((((l.getD i 0).toNat:Nat):Int))) A 4 rfl hP (M.sub (cN (cN ns))) (λ_ M=>zk rfl (ar_conv ir i8 (in_i64 (by omega) (by omega)))) λA=>?_;refine zn (by kernel_rfl) (jc A 5 rfl rfl rfl rfl ec (C.itoa_any (htp.below M.bel) hX8) ?_);rintro _ _ ⟨rfl,au⟩;replace M:=M.call au;refine⟨_,rfl,(M.sub (cN (cN ns))),?_⟩;intro a A;refine zn (by kernel_rfl) (jc A 6 rfl rfl rfl rfl ec (jo (.inr rfl) (toW (X:=[]) M) (s:=⟨(C.decD (l.getD i 0).toNat).toArray⟩) (by first|omega|(simp only[fv,fw,fx]; omega)|(simp only[fv,fw,fx,ByteArray.size,gg,Array.size]; omega))) ?_);rintro _ bp ⟨rfl,av,aw⟩
   replace M:=(zi (X:=[]) aw);refine⟨_,rfl,(M.sub (cN (cN ns))),?_⟩;intro a A;refine jl (by kernel_rfl) ?_;refine ag _ _ (wrl (sdo (v:=iV (((i+1:Nat):Int))) A (qb rfl rfl (fun w=>(zq (jk (by omega) (by omega)) w).trans (by rw[show(((i:Nat):Int)+1:Int)=((i+1:Nat):Int)from by omega]))) λA=>?_));refine sdm A λA=>?_;refine qa ?_;replace M:Mg w0 bp (.obj gw (.cells #[pA gw 0,av,bV pl] 182)::.row BY 1 (av) ((((bs++[35,118,117,56,40])++(acc++([32]++C.decD (l.getD i 0).toNat)))).length) ((Lib.byteCells (((bs++[35,118,117,56,40])++(acc++([32]++C.decD (l.getD i 0).toNat))))))::T):=by
    have h9:=M;simp only[f4,gh,f8]at h9 ⊢;exact h9
   refine ay _ _ _ (by omega) ⟨i+1,acc++([32]++C.decD (l.getD i 0).toNat),av,rfl,⟨by omega,by rw[←ae,show decide (i+1=0)=false from gn (by omega),qvj (f:=decide (i=0)) (i:=i) (by omega),aa,f7 (show ¬false=true by decide)]; simp only[f4],by rw[fv,fv]; simp only[fw,fx]; omega⟩,A.keep _ (by repeat' constructor),M⟩
 ·have ab':=fy ab;refine sdc A qy ab λA=>?_;refine qa (af _ _ (wsk fun _ _=>wp_cond_false (A.ev rfl) ?_));refine wp_exit (bf _ _ (wrl (sdm A λA=>?_)));refine sdn A λA=>?_;refine sdf A 0 TwH_fld_182_0 λA=>?_;refine sct A ec (zx (.inr rfl) (toW (X:=[]) M) hT (b:=41) (by first|omega|(simp only[fv,fw,fx]; omega)|(simp only[fv,fw,fx,ByteArray.size,gg,Array.size]; omega))) ?_;rintro _ _ ⟨rfl,bq,ax⟩;replace M:=(zi (X:=[]) ax);refine⟨_,rfl,?_⟩;intro a A;refine qa (hnorm _ _ (jq (v:=.tuple #[]) A rfl .nil rfl ?_));refine⟨rfl,bq,?_⟩;have br:=M.sub (L':=_::_::T) (cC (cC (.refl _)));rw[show zmf l=([35,118,117,56,40])++(acc++([41]))from(by unfold zmf; rw[←ae,ztc (by omega),gh,f4])];simpa only[f4,gh,gq,f8]using br
theorem xeg{a:List Nat}(hd:Dig a):(tD a 10).length≤32*a.length+1:=by
  rw[jse];unfold textS;by_cases hs:sound a=true
  · obtain⟨ea,na⟩:=sound_words hd hs;rw[hs,gv (show(2:Int)≤((10:Nat):Int)∧((10:Nat):Int)≤36 from by omega),Int.toNat_natCast];simp only[if_true]
    split
    · show 1≤_;omega
    · show(txt 10 (val a)).size≤_;rw[zsh];have h3:=zsi (r:=10) (by omega) (val a) (val a) (gm _);have h4:bl (val a)≤32*a.length:=bl_le.2 (by rw[←pw_two]; exact words_length_iff.1 (by rw[←ea]; exact gm _));omega
  · have hs:=lj.2 hs;rw[hs];show(0:Nat)≤_;omega
theorem jtd{t q:List Nat}(ht:Dig t)(hq:Dig q):(szL 10 t q).length≤32*(t.length+q.length)+3:=by
  have h1:=xeg ht;have h2:=xeg hq;unfold szL;rw[fv]
  split
  · simp only[fx]; omega
  · rw[fw]; omega
theorem ztd{q:Q6}(h:jld q):(jv 10 q).length≤32*(q.t1.length+q.q1.length+(q.t2.length+q.q2.length))+9:=by
  have hd:Dig q.t1∧Dig q.q1∧Dig q.t2∧Dig q.q2:=by
    obtain⟨u,v,rfl,_,_⟩:=h;exact⟨words_dig _,words_dig _,words_dig _,words_dig _⟩
  have h1:=jtd hd.1 hd.2.1;have h2:=jtd hd.2.2.1 hd.2.2.2;have h3:(zu 10 q.b1 q.t1 q.q1).length≤32*(q.t1.length+q.q1.length)+4:=by
    unfold zu;rw[fv]
    split<;>simp only[fw,fx]<;>omega
  have h4:(imL 10 q.b2 q.t2 q.q2).length≤32*(q.t2.length+q.q2.length)+4:=by
    unfold imL;rw[fv]
    split<;>split<;>simp only[fw,fx]<;>omega
  unfold jv
  split
  · omega
  · rw[fv,fv]
    split<;>simp only[fw,fx]<;>omega
theorem zgj{f:Int→List UInt8}(hf:∀n:Nat,n≤1114111→(f ((n:Nat):Int)).length≤9):∀(m:Nat) (l:List UInt8),((xq m l).flatMap f).length≤9*m
  | 0, l => by simp [xq]
  | m + 1, l => by
    unfold xq
    split
    · simp
    · rw[ij,fv];have h1:=zgj hf m (l.drop (decodeL l).2);have h2:=hf (decodeL l).1 (by have:=(qge l).1; omega);omega
theorem jac: ∀(m:Nat) (fl:Bool) (l:List UInt8),(inL fl (xq m l)).length≤9*m
  | 0, fl, l => by simp [xq, inL]
  | m + 1, fl, l => by
    unfold xq
    split
    · simp[inL]
    · rw[qjf,fv];have h1:=jac m false (l.drop (decodeL l).2);have h2:=ud fl (n:=(decodeL l).1) (by have:=(qge l).1; omega);omega
theorem xcg(pl:Bool)(s:ByteArray):(qlc pl s).length≤9*s.size+2:=by
  unfold qlc;have h1:=zgj (f:=C.strC) (fun n h=>zmi h) s.data.toList.length s.data.toList;have h2:=zm s
  split
  · omega
  · rw[fv,fv];simp only[fw,fx];unfold ze;omega
theorem xch(pl:Bool)(s:ByteArray):(qaj pl s).length≤9*s.size+2:=by
  unfold qaj;have h1:=jac s.data.toList.length true s.data.toList;have h3:=jac (s.data.toList.drop 2).length false (s.data.toList.drop 2);rw[il]at h3;have h2:=zm s
  split
  · omega
  · split
    · simp only[fw,fx]; omega
    · split
      · rw[fv];simp only[fw,fx];unfold ze;rw[il];omega
      · unfold ze;omega
theorem jei: ∀(f:Bool) (l:List UInt8),(quh f l).length≤4*l.length
  | _, [] => by simp [quh]
  | f, b :: bs => by
    have h1:=jei false bs;have h2:=qpi ⟨b.toNat,b.toNat_lt⟩;simp only at h2;unfold quh;rw[fv,fv,fw]
    split<;>simp only[fw,fx]<;>omega
theorem xci(pl:Bool){n:Int}(h0:0≤n)(h1:n≤1114111):(qad pl n).length≤11:=by
  unfold qad;have h2:=qbi n;have h3:=qfh n;have h4:=qfg (n:=n.toNat) (by omega);rw[Int.toNat_of_nonneg h0]at h4
  split
  · omega
  · rw[fv]
    split
    · rw[fv]; simp only[fw,fx]; omega
    · split
      · simp only[fw,fx]; omega
      · rw[fv]; simp only[fw,fx]; omega
theorem jte(pl:Bool){k n:Int}{q:Q6}{s:ByteArray}{rl:List UInt8}{ml:Nat}(b:Bare k n q s rl.length ml)(hr:k=3→jld q):(vd pl k n q s rl).length+16≤64*(s.size+rl.length+(q.t1.length+q.q1.length+(q.t2.length+q.q2.length))+1):=by
  have hn:=jle b;have h3:=xci pl hn.1 hn.2;have h4:=xcg pl s;have h5:=xch pl s;have h6:=jei true rl;have h7:=zm s;unfold vd zmf
  split
  · simp only[fw,fx]; omega
  split
  · split<;>simp only[fw,fx]<;>omega
  split
  · rename_i hk; have:=ztd (hr hk); omega
  split
  · omega
  split
  · omega
  split
  · omega
  split
  · simp only[fv,fw,fx]; omega
  split
  · simp only[fw,fx]; omega
  · simp only[fv,fw,fx]; omega
theorem zmj(pl:Bool):∀(f:Bool) (ts:List Tr),(∀t∈ts,(wrT pl t).length+16≤64*t.bulk)→(wrL pl f ts).length≤64*Tr.bulks ts
  | _, [], _ => by simp [wrL]
  | f, t :: ts, h => by
    have h1:=zmj pl false ts fun x hx=>h x (ix _ hx);have h2:=h t iw;rw[wrL,Tr.bulks,fv,fv]
    split<;>simp only[fw,fx]<;>omega
theorem qfi(pl:Bool):∀t:Tr,t.good→(wrT pl t).length+16≤64*t.bulk∧(tlT pl t).length+8≤64*t.bulk∧(itT pl t).length+16≤64*t.bulk:=by
  refine Tr.indT fun k n q s rl ts ih hg=>?_;rw[qvb]at hg;have hleaf:=jte pl hg.1 hg.2.1;have hv:=zmj pl true ts fun t ht=>(ih t ht (hg.2.2 t ht)).1;rw[xr];have h2:(tl2 pl ts).length≤64*Tr.bulks ts∧(prT pl ts).length≤64*Tr.bulks ts∧(it2 pl ts).length≤64*Tr.bulks ts:=by
    match ts with
    | [] => simp [tl2, prT, it2]
    | [a] => 
      have h1:=ih a (by simp) (hg.2.2 a (by simp));simp[tl2,prT,it2,Tr.bulks];omega
    | a :: b :: us =>
      have h1:=ih a (by simp) (hg.2.2 a (by simp));have h2:=ih b (by simp) (hg.2.2 b (by simp));rw[tl2,prT,it2,Tr.bulks,Tr.bulks];refine⟨?_,?_,by omega⟩
      · simp only[fv,fw,fx]; omega
      · split<;>simp only[fv,fw,fx]<;>omega
  rw[wrT,tlT,itT];refine⟨?_,?_,by omega⟩
  · split
    · omega
    · split
      · simp only[fv,fw,fx]; omega
      · omega
  · split
    · omega
    · split
      · simp only[fx]; omega
      · rw[fv]
        split<;>simp only[fv,fw,fx]<;>omega
section
variable {t p p0 p1:Dt} {pl:Bool}
theorem qbc: wrT pl t.tr=if t.d.k=8 then prT pl (t.ts.map Dt.tr)else if t.d.k=9 then[35,40]++wrL pl true (t.ts.map Dt.tr)++[41]else vd pl t.d.k t.d.n t.d.y.q t.d.s t.d.rl:=by rw[Dt.tr_eta,wrT]
theorem qpj(h:p.d.k=8)(l2:p.ts.length=2)(i0:p.ts[0]?=some p0)(i1:p.ts[1]?=some p1):tlT pl p.tr=[32]++wrT pl p0.tr++tlT pl p1.tr:=by
  rw[Dt.tr_eta,tlT,gj h,qmc l2 i0 i1];simp only[i6,lg,tl2]
theorem jtf(h:p.d.k=1):tlT pl p.tr=[]:=by rw[Dt.tr_eta,tlT,f7 (by omega),gj h]
theorem jtg(h:p.d.k≠8)(h1:p.d.k≠1):tlT pl p.tr=[32,46,32]++wrT pl p.tr:=by
  rw[qbc]
  conv=>lhs; rw[Dt.tr_eta,tlT,f7 h,f7 h1]
  rw[f7 h]
theorem zte(h:t.d.k=8)(l2:t.ts.length=2)(i0:t.ts[0]?=some p0)(i1:t.ts[1]?=some p1)(hq:(isQ p0.tr&&qtT p1.tr)=true):wrT pl t.tr=[39]++itT pl p1.tr:=by
  rw[qbc,gj h,qmc l2 i0 i1];simp only[i6,lg,prT];rw[gj hq]
theorem zna(h:t.d.k=8)(l2:t.ts.length=2)(i0:t.ts[0]?=some p0)(i1:t.ts[1]?=some p1)(hq:(isQ p0.tr&&qtT p1.tr)=false):wrT pl t.tr=[40]++(wrT pl p0.tr++tlT pl p1.tr)++[41]:=by
  rw[qbc,gj h,qmc l2 i0 i1];simp only[i6,lg,prT];rw[f7 (by rw[hq]; decide)];simp only[f4]
theorem jth{f:Bool}{i:Nat}(hi:t.ts[i]?=some p):wrL pl f ((t.ts.map Dt.tr).drop i)=(if f=true then[]else[32])++wrT pl p.tr++wrL pl false ((t.ts.map Dt.tr).drop (i+1)):=by rw[yv hi,wrL]
theorem xcj{f:Bool}{i:Nat}(h:¬i<t.ts.length):wrL pl f ((t.ts.map Dt.tr).drop i)=[]:=by rw[qbj h,wrL]
theorem qsf: isQ p.tr=(decide (p.d.k=6)&&decide (p.d.s=⟨#[113,117,111,116,101]⟩)):=by rw[Dt.tr_eta]; rfl
theorem ztf(h:p.d.k=8)(l2:p.ts.length=2)(i0:p.ts[0]?=some p0)(i1:p.ts[1]?=some p1):qtT p.tr=decide (p1.d.k=1):=by
  rw[Dt.tr_eta,qtT,gv h,qmc l2 i0 i1,Bool.true_and];simp only[i6,lg];rw[show([p0.tr,p1.tr].getD 1 (.mk 0 0 Q6.none ⟨#[]⟩ [] []))=p1.tr from rfl,Dt.tr_eta p1];rfl
theorem xeh(h:p.d.k≠8):qtT p.tr=false:=by rw[Dt.tr_eta,qtT,gn h,Bool.false_and]
theorem xlc(l2:p.ts.length=2)(i0:p.ts[0]?=some p0)(i1:p.ts[1]?=some p1):itT pl p.tr=wrT pl p0.tr:=by
  rw[Dt.tr_eta,itT,qmc l2 i0 i1];simp only[i6,lg,it2]
theorem qki(l2:p.ts.length=2)(i0:p.ts[0]?=some p0)(i1:p.ts[1]?=some p1):p0.tr.bulk+p1.tr.bulk+1≤p.tr.bulk:=by
  rw[Dt.tr_eta p,xr,qmc l2 i0 i1];simp only[i6,lg,Tr.bulks];omega
theorem zbg{ts:List Dt}{i:Nat}{t:Dt}(hi:ts[i]?=some t):Tr.bulks ((ts.map Dt.tr).drop i)=t.tr.bulk+Tr.bulks ((ts.map Dt.tr).drop (i+1)):=by rw[yv hi,Tr.bulks]
theorem qqa: Tr.bulks (t.ts.map Dt.tr)+1≤t.tr.bulk:=by
  rw[Dt.tr_eta t,xr];omega
end
end Go.Proofs.YtmnlfahgklnpeaaGreatDoor.G
namespace Go.Proofs.YtmnlfahgklnpeaaGreatDoor

section
variable {H:Type}
theorem ztg(d:DataW H):0<Rows.uptoBulk d:=by
  unfold Rows.uptoBulk
  split<;>omega
theorem zth: ∀l:List (DataW H),l.length≤Rows.uptoBulkAll l
  | [] => by simp
  | d :: l => by
    have h1:=ztg d;have h2:=zth l;simp only[Rows.uptoBulkAll,fw];omega
theorem zbh(xs ys:List (DataW H)):xs.length≤Rows.uptoBulk (.slice xs ys):=by
  have:=zth xs;simp only[Rows.uptoBulk];omega
theorem qdh{d:DataW H}:∀{l:List (DataW H)},d∈l→Rows.uptoBulk d≤Rows.uptoBulkAll l
  | c :: l, h => by
    simp only[Rows.uptoBulkAll];rcases ik.1 h with rfl|h
    · omega
    · have:=qdh h;omega
theorem qwa{l:List (DataW H)}(hk:Rows.uptoSmall H l=true){j:Nat}{d:DataW H}(hd:l[j]?=some d):Rows.uptoBulk d≤1048576:=
  gz (qdh (List.mem_of_getElem? hd)) (f5 hk)
end
end Go.Proofs.YtmnlfahgklnpeaaGreatDoor
namespace Go.Proofs.YtmnlfahgklnpeaaGreatDoor.G
open Go.ChangeShapes Go.WideShapes Go.ChangeAt Go.RowKit Go.Joins Go.Deep

section
variable {H:Type} {enc:TypeId×Value→H} {W:World}
end
theorem jjf{w:World}{x:Addr}{len cap:Nat}{zs:List Int}(hl:len≤cap)(hz:zs.length=cap)
    (hc:∀i,i<zs.length→w.cell? (x.add i)=some (.int .u8 (zs.getD i 0))) (hw:∀n∈zs,(Lit.int .u8 n).wf=true) :
    ∃l:List UInt8,l.length=len∧Rb w (some x) l:=by
  have hbd:∀n∈zs,0≤n∧n<256:=by
    intro n hn;have:=bounds_u8 (hw n hn);omega
  refine⟨(zs.take len).map b8,by rw[gy,li]; omega,⟨fun hne=>?_⟩⟩;have hlen:((zs.take len).map b8).length=len:=by rw[gy,li]; omega
  have h0:0<len:=by
    apply Classical.byContradiction;intro h;have:len=0:=(by omega);subst this;simp at hne
  obtain⟨b,off,spot⟩:=x;have hspot:spot=none:=by
    have:=hc 0 (by omega);simp only[World.cell?,Addr.add]at this
    split at this
    · cases spot with
      | none => rfl
      | some s => simp at this
    · cases this
  subst hspot;have hcj:∀j,j<len→w.cell? ⟨b,off+j,none⟩=some (.int .u8 (((((zs.take len).map b8).getD j 0).toNat:Nat):Int)):=by
    intro j hj;have h1:=hc j (by omega);rw[Addr.add_lit]at h1;rw[h1];have hjz:j<zs.length:=(by omega);have h2:=hbd zs[j] (ip hjz);have e1:zs.getD j 0=zs[j]:=(by simp[hjz]);have e2:((zs.take len).map b8).getD j 0=b8 zs[j]:=(by simp[List.getD_eq_getElem?_getD,hj,hjz]);rw[e1,e2,xfc h2.1 h2.2]
  refine⟨b,off,rfl,?_,fun j hj=>hcj j (by omega)⟩;have:=hcj 0 h0;apply Classical.byContradiction;intro h;simp[World.cell?,Array.getElem?_eq_none (Nat.le_of_not_lt h)]at this
section
variable {H:Type} {enc:TypeId×Value→H} {W:World}
end
theorem Rb.take{w:World}{so:Option Addr}{l:List UInt8}(h:Rb w so l)(n:Nat):Rb w so (l.take n):=by
  refine⟨fun hne=>?_⟩;obtain⟨b,off,h1,h2,h3⟩:=h.pos (fun k=>hne (by rw[k]; simp));refine⟨b,off,h1,h2,fun j hj=>?_⟩;rw[li]at hj;rw[h3 j (by omega),List.getD_eq_getElem?_getD,List.getD_eq_getElem?_getD,List.getElem?_take_of_lt (by omega)]
section
variable {P:Program} {w:World} {l:List (Nat×Value)} {dst:Option Tmp} {ty:TypeId} {pos:String} {after:Array Edge} {guard:Option (Nat×Bool)}
end
def Nu.cells(y:Nu):List Value:=[.bool y.q.b1,.slice y.o1 y.q.t1.length y.c1,.slice y.o2 y.q.q1.length y.c2,.bool y.q.b2,.slice y.o3 y.q.t2.length y.c3,.slice y.o4 y.q.q2.length y.c4]
theorem jti{w:World}{b o:Nat}{v:Value}(h:w.cell? ⟨b,o,none⟩=some v):b<w.heap.size:=by
  apply Classical.byContradiction;intro k;simp[World.cell?,Array.getElem?_eq_none (Nat.le_of_not_lt k)]at h
section
variable {H:Type} {enc:TypeId×Value→H} {W:World}
theorem qqb(l:List (DataW H)):Rows.uptoBulk (.agg l)=Rows.uptoBulkAll l+1:=by simp only[Rows.uptoBulk]
theorem zti{fuel:Nat}{v:Value}{x:DataW H×List MemPlace}(h:DataW.trod enc Tryz.prog W 0 (fun _=>true) true fuel 27 [v]=some x):∃so cap l,v=.slice so (l:List UInt8).length cap∧Rb W so l∧l.length≤cap∧cap≤9223372036854775807∧l.length≤Rows.uptoBulk x.1:=by
  rcases open_ints ib ir (by kernel_rfl) h with⟨hcs,_⟩|⟨x,l,c,zs,hcs,_,hl,hm,hz,hx,hcell,hwz⟩
  · simp only[List.cons.injEq,and_true]at hcs;subst hcs;exact⟨none,0,[],rfl,⟨fun k=>absurd rfl k⟩,gm _,by decide,ii _⟩
  · simp only[List.cons.injEq,and_true]at hcs;subst hcs;obtain⟨us,e,ha⟩:=jjf hl (by simpa using hz) hcell hwz;subst e;subst hx;refine⟨_,_,us,rfl,ha,hl,hm,?_⟩;simp only[if_true]at hz;refine gz ?_ (zbh _ _);simp only[lits,gy,li,il];omega
theorem qub{fuel:Nat}{v:Value}{x:DataW H×List MemPlace}(h:DataW.trod enc Tryz.prog W 0 (fun _=>true) true fuel 22 [v]=some x):∃ao c l,v=.slice ao (l:List Nat).length c∧Arg W ao c l∧l.length≤Rows.uptoBulk x.1:=by
  rcases open_ints im Tryz.underlying144 (by kernel_rfl) h with⟨hcs,_⟩|⟨x,l,c,zs,hcs,_,hl,hm,hz,hx,hcell,hwz⟩
  · cases hcs
    exact⟨none,0,[],rfl,arg_nil W,ii _⟩
  · cases hcs
    obtain⟨us,e,ha⟩:=arg_row hl hm (by simpa using hz) hcell hwz;subst e;subst hx;refine⟨_,_,us,rfl,ha,?_⟩;simp only[if_true]at hz;refine gz ?_ (zbh _ _);simp only[lits,gy,li,il];omega
theorem zha{fuel:Nat}{v0 v1 v2:Value}{x:DataW H×List MemPlace}(h:DataW.trod enc Tryz.prog W 0 (fun _=>true) true fuel 24 [v0,v1,v2]=some x):∃b o1 c1 l1 o2 c2 l2,v0=.bool b∧v1=.slice o1 (l1:List Nat).length c1∧v2=.slice o2 (l2:List Nat).length c2∧Arg W o1 c1 l1∧Arg W o2 c2 l2∧l1.length+l2.length≤Rows.uptoBulk x.1:=by
  obtain⟨y0,y1,y2,n,hx,_,h0,h1,h2⟩:=trod_struct3 iv h;have e0:Tryz.prog.cellsOf 4=1:=by kernel_rfl
  have e1:Tryz.prog.cellsOf 22=1:=by kernel_rfl
  simp only[e0,e1,List.drop_zero,List.take_succ_cons,List.take_zero,List.drop_succ_cons]at h0 h1 h2;obtain⟨b,rfl⟩:=trod_bool h0;obtain⟨o1,c1,l1,rfl,a1,k1⟩:=qub h1;obtain⟨o2,c2,l2,rfl,a2,k2⟩:=qub h2;refine⟨b,o1,c1,l1,o2,c2,l2,rfl,rfl,rfl,a1,a2,?_⟩;rw[hx,qqb];simp only[Rows.uptoBulkAll];omega
theorem jjg{fuel:Nat}{cs:List Value}{x:DataW H×List MemPlace}(hl:cs.length=6)(h:DataW.trod enc Tryz.prog W 0 (fun _=>true) true fuel 26 cs=some x):
    ∃y:Nu,cs=y.cells∧y.nm W∧LenQ y.q∧y.q.t1.length+y.q.q1.length+(y.q.t2.length+y.q.q2.length)≤Rows.uptoBulk x.1:=by
  match cs,hl with
  | [_, _, _, _, _, _], _ =>
    obtain⟨y0,y1,n,hx,_,h0,h1⟩:=trod_struct2 j7 h;have e:Tryz.prog.cellsOf 24=3:=(by kernel_rfl);simp only[e,List.drop_zero,List.take_succ_cons,List.take_zero,List.drop_succ_cons]at h0 h1;obtain⟨b1,o1,c1,l1,o2,c2,l2,rfl,rfl,rfl,a1,a2,k1⟩:=zha h0;obtain⟨b2,o3,c3,l3,o4,c4,l4,rfl,rfl,rfl,a3,a4,k2⟩:=zha h1;refine⟨⟨⟨b1,l1,l2,b2,l3,l4⟩,o1,c1,o2,c2,o3,c3,o4,c4⟩,rfl,⟨⟨a1.rd,a1.nil,a1.caps⟩,⟨a2.rd,a2.nil,a2.caps⟩,⟨a3.rd,a3.nil,a3.caps⟩,⟨a4.rd,a4.nil,a4.caps⟩⟩,⟨a1.len,a2.len,a3.len,a4.len⟩,?_⟩;rw[hx,qqb];simp only[Rows.uptoBulkAll];omega
def OpenD(H:Type)(enc:TypeId×Value→H)(W:World)(fuel:Nat):Prop:=∀(cs:List Value) (x:DataW H×List MemPlace),DataW.trod enc Tryz.prog W 0 (fun _=>true) true fuel 30 cs=some x→∃t:Dt,cs=t.cells∧t.rd W∧t.tr.bulk≤Rows.uptoBulk x.1
theorem qng{fuel:Nat}{v:Value}{x:DataW H×List MemPlace}(ih:∀n,n<fuel→OpenD H enc W n)(h:DataW.trod enc Tryz.prog W 0 (fun _=>true) true fuel 28 [v]=some x):
    ∃lo lc ts,v=.slice lo (ts:List Dt).length lc∧ts.length≤lc∧lc≤9223372036854775807∧Rt W lo ts∧(∀t∈ts,t.rd W)∧Tr.bulks (ts.map Dt.tr)≤Rows.uptoBulk x.1:=by
  rcases DataW.trod_slice f9 h with⟨hcs,_⟩|⟨a,len,cap,elems,rest,n,hf,hcs,hx,_,hl,hm,hlen,hel,_,_⟩
  · simp only[List.cons.injEq,and_true]at hcs;subst hcs;exact⟨none,0,[],rfl,gm _,by decide,fun k=>absurd rfl k,fun _ k=>by simp at k,ii _⟩
  · simp only[List.cons.injEq,and_true]at hcs;subst hcs;rw[show Tryz.prog.cellsOf 30=11 from by kernel_rfl]at hel;have each:∀i,∃t:Dt,i<len→t.rd W∧(∀j v,t.cells[j]?=some v→W.cell? ((a.add (i*11)).add j)=some v)∧∃y,elems[i]?=some y∧t.tr.bulk≤Rows.uptoBulk y.1:=by
      intro i;by_cases hi:i<len
      · have h1:=hel i hi;rw[List.getElem?_eq_getElem (by omega)]at h1;obtain⟨cs,h2,h3⟩:=Option.bind_eq_some_iff.1 h1;obtain⟨_,hlc,hcell⟩:=World.cells?_some h2;obtain⟨t,rfl,hr,hb⟩:=ih n (by omega) cs _ h3;exact⟨t,fun _=>⟨hr,fun j v hj=>by rw[hcell j (by have:=(List.getElem?_eq_some_iff.1 hj).1; rw[hlc]at this; exact this)]; exact hj,_,List.getElem?_eq_getElem (by omega),hb⟩⟩
      · exact⟨.mk ⟨0,0,⟨⟨false,[],[],false,[],[]⟩,none,0,none,0,none,0,none,0⟩,⟨#[]⟩,none,0,[],none,0⟩ [],fun k=>absurd k hi⟩
    obtain⟨F,hF⟩:=Classical.skolem.1 each;have hget:∀(j:Nat) (q:Dt),((List.range len).map F)[j]?=some q→j<len∧q=F j:=by
      intro j q hq;rw[List.getElem?_map]at hq;obtain⟨y,h1,h2⟩:=Option.map_eq_some_iff.1 hq;obtain⟨h3,h4⟩:=List.getElem?_eq_some_iff.1 h1;rw[List.length_range]at h3;rw[List.getElem_range]at h4;subst h4;exact⟨h3,h2.symm⟩
    refine⟨some a,cap,(List.range len).map F,by simp,by simpa using hl,hm,fun hne=>?_,fun t ht=>?_,?_⟩
    · have hn:0<len:=by
        apply Classical.byContradiction;intro k;exact hne (by rw[show len=0 from by omega]; rfl)
      obtain⟨b,off,spot⟩:=a;have h0:=(hF 0 hn).2.1 0 _ rfl;have hspot:spot=none:=(by simpa[Addr.add]using World.cell?_spot h0);subst hspot;refine⟨b,off,rfl,fun i t hi=>?_⟩;obtain⟨hlt,rfl⟩:=hget i t hi;have hat:∀j v,(F i).cells[j]?=some v→W.cell? ⟨b,off+i*11+j,none⟩=some v:=fun j v hj=>by
        have:=(hF i hlt).2.1 j v hj
        rwa [Addr.add_lit,Addr.add_lit]at this
      exact⟨jti (hat 0 _ rfl),hat⟩
    · obtain⟨j,hj⟩:=List.mem_iff_getElem?.1 ht;obtain⟨h1,rfl⟩:=hget j t hj;exact(hF j h1).1
    · rw[hx];have key:∀m,m≤len→Tr.bulks (((List.range m).map F).map Dt.tr)≤Rows.uptoBulkAll ((elems.map (·.1)).take m):=by
        intro m
        induction m with
        | zero => intro _; simp [Tr.bulks]
        | succ m ih2 =>
          intro hm2;have hs:∀(l:List Tr) (t:Tr),Tr.bulks (l++[t])=Tr.bulks l+t.bulk:=by
            intro l t
            induction l with
            | nil => simp [Tr.bulks]
            | cons u l ih3 => simp only [gq, Tr.bulks, ih3]; omega
          have hu:∀(l:List (DataW H)) (d:DataW H),Rows.uptoBulkAll (l++[d])=Rows.uptoBulkAll l+Rows.uptoBulk d:=by
            intro l d
            induction l with
            | nil => simp [Rows.uptoBulkAll]
            | cons u l ih3 => simp only [gq, Rows.uptoBulkAll, ih3]; omega
          obtain⟨_,_,y,hy,hb⟩:=hF m (by omega);have:=ih2 (by omega);rw[List.range_succ,j6,j6,List.take_add_one,List.getElem?_map,hy];simp only[i6,lg,Option.map_some,Option.toList_some];rw[hs,hu];omega
      have h1:=key len (gm _);rw[ld (by rw[gy]; omega)]at h1;simp only[Rows.uptoBulk];omega
theorem znb: ∀fuel,OpenD H enc W fuel:=by
  intro fuel
  induction fuel using Nat.strongRecOn with
  | ind fuel ih =>
    intro cs x h;obtain⟨xs,n,hfu,hx,hl,hxl,hf⟩:=DataW.trod_struct iu h;rw[show Tryz.prog.cellsOf 30=11 from by kernel_rfl]at hl
    match cs,hl with
    | [_, _, _, _, _, _, _, _, _, _, _], _ =>
      match xs,hxl with
      | [x0, x1, x2, x3, x4, x5], _ =>
        have g0:=hf 0 _ rfl;have g1:=hf 1 _ rfl;have g2:=hf 2 _ rfl;have g3:=hf 3 _ rfl;have g4:=hf 4 _ rfl;have g5:=hf 5 _ rfl;have c1:Tryz.prog.cellsOf 3=1:=(by kernel_rfl);have c2:Tryz.prog.cellsOf 26=6:=(by kernel_rfl);have c3:Tryz.prog.cellsOf 9=1:=(by kernel_rfl);have c4:Tryz.prog.cellsOf 27=1:=(by kernel_rfl);have c5:Tryz.prog.cellsOf 28=1:=(by kernel_rfl);simp only[c1,c2,c3,c4,c5,List.drop_zero,List.take_succ_cons,List.take_zero,List.drop_succ_cons,List.getElem?_cons_zero,List.getElem?_cons_succ]at g0 g1 g2 g3 g4 g5;obtain⟨k,e0,_,w0⟩:=DataW.trod_int i8 g0;obtain⟨m,e1,_,w1⟩:=DataW.trod_int i8 g1;obtain⟨y,e2,hy,hq,b2⟩:=jjg rfl g2;obtain⟨s,e3,hs,hsm⟩:=DataW.trod_string gi g3;obtain⟨ro,rc,rl,e4,hr,hrc,hrm,b4⟩:=zti g4;obtain⟨lo,lc,ts,e5,hlc,hlm,hrt,hrd,b5⟩:=qng (fun n' hn'=>ih n' (by omega)) g5;have bk:=bounds_i64 w0;have bm:=bounds_i64 w1;refine⟨.mk ⟨k,m,y,s,ro,rc,rl,lo,lc⟩ ts,?_,?_,?_⟩
        · injection e0 with f0;injection e1 with f1;injection e3 with f3;injection e2 with e20 g;injection g with e21 g;injection g with e22 g;injection g with e23 g;injection g with e24 g;injection g with e25 g;subst f0 f1 f3 e4 e5 e20 e21 e22 e23 e24 e25;rfl
        · rw[Dt.rd_iff];exact⟨⟨hy,hq,hr,hrc,hrm,bk.1,bk.2,bm.1,bm.2,hsm⟩,hlc,hlm,hrt,hrd⟩
        · rw[Dt.tr_mk,xr,hx,qqb];have h3:Rows.uptoBulk x3.1=s.size+1:=by
            rw[hs];rw[show Rows.uptoBulk (DataW.lit (H:=H) (.string s.data.toList))=s.data.toList.length+1 from by simp only[Rows.uptoBulk],Array.length_toList];rfl
          simp only[i6,lg,Rows.uptoBulkAll];have:=ztg x0.1;omega
theorem zbi{base:Nat}{v:Value}{d:DataW H}{p:List MemPlace}(hv:Value.okWide Tryz.prog W .any base 30 v)(h:DataW.Trod enc Tryz.prog W 0 (fun _=>true) true 30 v d p):
    ∃t:Dt,v=.agg t.cells.toArray∧t.rd W∧t.tr.bulk≤Rows.uptoBulk d:=by
  obtain⟨cs,rfl,hsz⟩:=okWide_struct iu hv;obtain⟨fuel,hf⟩:=h;obtain⟨t,e,hr,hb⟩:=znb fuel _ _ hf;refine⟨t,?_,hr,hb⟩;rw[←e];rfl
theorem jjh{base:Nat}{v:Value}{d:DataW H}{p:List MemPlace}(hv:Value.okWide Tryz.prog W .any base 28 v)(h:DataW.Trod enc Tryz.prog W 0 (fun _=>true) true 28 v d p):
    ∃lo lc ts,v=.slice lo (ts:List Dt).length lc∧ts.length≤lc∧Rt W lo ts∧(∀t∈ts,t.rd W)∧Tr.bulks (ts.map Dt.tr)≤Rows.uptoBulk d:=by
  obtain⟨a,n,c,rfl⟩:=okWide_slice f9 hv;obtain⟨fuel,hf⟩:=h;obtain⟨lo,lc,ts,e,h1,_,h2,h3,h4⟩:=qng (v:=.slice a n c) (fun n _=>znb n) hf;exact⟨lo,lc,ts,e,h1,h2,h3,h4⟩
end
end Go.Proofs.YtmnlfahgklnpeaaGreatDoor.G
