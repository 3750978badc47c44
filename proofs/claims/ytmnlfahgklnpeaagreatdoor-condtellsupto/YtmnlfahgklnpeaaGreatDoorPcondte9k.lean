/- UdB Ue UdC UdD KcO ArgX ArgV -/
import Derived.Test.YtmnlfahgklnpeaaGreatDoorPcondte9j
import Derived.Deep.Strs
import Derived.Deep.SlicePairs
import Derived.Lib.SmallJoins
import Derived.DataElems
set_option linter.unusedVariables false
set_option linter.unusedSimpArgs false
set_option maxHeartbeats 4000000
set_option maxRecDepth 1000000
namespace Go.Proofs.YtmnlfahgklnpeaaGreatDoor.G
open Go.RowKit
theorem jba{w:World}{s:ByteArray}(hs:s.size≤2000000):Calls Tryz.prog 156 #[.string s] w fun e w'=>∃v,e=.returned v∧Mg w w' [.row 21 1 v (ze s.data.toList).length (qjh (ze s.data.toList))]:=by
 have M:=Mg.start w;refine wof Tryz.func156 Tryz.ntmps156 fun Q hret hnorm hP a A=>?_;refine wsr fun _ am=>sda A λA=>?_;refine qa (am _ _ (wsr fun _ ap=>jr (e:=21) (sz:=1) (m:=0) (vs:=[]) A M rfl rfl rfl (qg rfl (by kernel_rfl)) rfl rfl (.inl (by decide)) ?_));intro g3 _ M a A;refine sda A λA=>?_;refine qwk ap fun _ aq=>wsr fun _ ar=>sdm A λA=>?_;refine qui A M rfl gi rfl rfl rfl rfl ?_;intro g7 _ M a A;refine qa (ar _ _ (wp_block (zg (fun m_ a w1=>∃(p:Nat) (acc:List Int) (vo:Value),m_=1+(s.size-p)∧(acc++qdd s p=ze s.data.toList∧acc.length≤p∧p≤s.size)∧Sl a 17 [(0,.string s),(2,.slice none 0 0),(3,vo),(6,.slice (aO g3) 0 0),(7,.string s),(8,pA g7 0)]∧Mg w w1 (.obj g7 (.stringIter s p)::.row 21 1 (vo) acc.length ((qjh acc))::[])) _ ⟨0,[],.slice (aO g3) 0 0,rfl,⟨by rw[f8,qea],ii _,ii _⟩,A.keep _ (by repeat' constructor),M⟩ ?_)));clear M A;rintro m_ a _ ⟨p,acc,vo,rfl,ac,A,M⟩ _ ag;obtain⟨ae,ha9,hp9⟩:=ac;refine wsr fun _ af=>?_;by_cases aa:p<s.size
 ·obtain⟨ab,cq16,he17⟩:∃r q,Utf8.decode s p=(r,q):=⟨_,_,rfl⟩;refine zie (L':=(.obj g7 (.stringIter s (p+cq16))::.row 21 1 (vo) acc.length ((qjh acc))::[])) A M rfl rfl 0 rfl aa rfl rfl rfl he17 rfl ?_;intro _ M a A;refine sde A λA=>?_;refine qa (af _ _ (wsk fun _ ah=>wp_cond_true (A.ev rfl) ?_));refine wp_skip (ah _ _ (wp_block (wsr fun _ ai=>sde A λA=>?_)));refine sda A λA=>?_;refine qa (ai _ _ (wrl ?_));iterate 2 refine sdm A λA=>?_
  refine jr (e:=21) (sz:=1) (m:=1) (vs:=[.int .i32 (((ab:Nat):Int))]) A M rfl rfl rfl (qg rfl (by kernel_rfl)) rfl rfl (.inl (by decide)) ?_;intro g20 _ M a A;refine xd (e:=21) (sz:=1) (k:=2) (q:=acc.length) (m:=1) (xs:=(qjh acc)) (news:=[.int .i32 (((ab:Nat):Int))]) A rfl rfl rfl (qjj (z:=.int .i32 0) (sz:=1) (by_:=4) j2 (by kernel_rfl) rfl rfl rfl M 2 rfl rfl 0 rfl rfl rfl rfl (by omega)) (fun _=>rfl) ?_;intro ak au M a A;refine sda A λA=>?_;refine qa ?_;replace M:Mg w au (.obj g7 (.stringIter s (p+cq16))::.row 21 1 (ak) ((acc++[((ab:Nat):Int)]).length) ((qjh (acc++[((ab:Nat):Int)])))::[]):=by
   have h9:=M.sub (cN (cC (cC (.refl _))));simpa[qjh]using h9
  have _:=(qdg aa he17).2;refine ag _ _ _ (by omega) ⟨p+cq16,acc++[((ab:Nat):Int)],ak,rfl,⟨by rw[←ae,jd aa he17,f4]; rfl,by rw[fv]; simp only[fw,fx]; omega,by omega⟩,A.keep _ (by repeat' constructor),M⟩
 ·refine zif A M rfl rfl 0 rfl aa rfl rfl rfl λa A=>?_;refine sde A λA=>?_;refine qa (af _ _ (wsk fun _ _=>wp_cond_false (A.ev rfl) ?_));refine wp_exit (aq _ _ (wsr fun _ aj=>sdm A λA=>?_));refine sda A λA=>?_;refine qr1 aj hret A ?_;rw[←ae,qeb aa,gh];exact⟨_,rfl,M.sub (cN (cC (.refl _)))⟩
theorem jvb{w:World}{s:ByteArray}(hs:s.size≤2000000):Calls Tryz.prog 111 #[.string s] w (RB w (.string ⟨(qaj false s).toArray⟩)):=by
 have hcl:=jva s;have M:=Mg.start w;refine wof Tryz.func111 Tryz.ntmps111 fun Q hret hnorm hP a A=>?_;refine wsr fun _ cy=>sda A λA=>?_;refine qwk cy fun _ cz=>wsr fun _ cx=>sdm A λA=>?_;rcases tf (decide (s=⟨#[]⟩))with au|au
 ·have au':=f5 au;refine sdo (v:=bV true) A (qb rfl rfl (fun w=>(je gi w).trans (by rw[au]<;>rfl))) λA=>?_;refine qct cx A ?_;refine wsr fun _ db=>sda A λA=>?_;refine qr1 db hret A ?_;exact⟨by rw[jsj (fun k=>by rcases k with k|k|k|k; cases k; all_goals (rw[au']at k; cases k)) au'],M.bel⟩
 ·have au':=fy au;refine sdo (v:=bV false) A (qb rfl rfl (fun w=>(je gi w).trans (by rw[au]<;>rfl))) λA=>?_;refine qcf cx A ?_;refine wp_skip (cz _ _ (wsk fun _ dd=>wsr fun _ bw=>sdm A λA=>?_));rcases tf (decide (s=⟨#[43]⟩))with ay|ay
  ·have ay':=f5 ay;refine sdo (v:=bV true) A (qb rfl rfl (fun w=>(je gi w).trans (by rw[ay]<;>rfl))) λA=>?_;refine sdm A λA=>?_;iterate 2 refine sks A λA=>?_
   refine sdk (v:=bV true) A λA=>?_;refine sdm A λA=>?_;iterate 2 refine sks A λA=>?_
   refine sdk (v:=bV true) A λA=>?_;refine qct bw A ?_;refine wsr fun _ de=>sdm A λA=>?_;refine sda A λA=>?_;refine qr1 de hret A ?_;exact⟨by rw[qnf (.inr (.inl ay')),qde],M.bel⟩
  ·have ay':=fy ay;refine sdo (v:=bV false) A (qb rfl rfl (fun w=>(je gi w).trans (by rw[ay]<;>rfl))) λA=>?_;iterate 2 refine sdm A λA=>?_
   rcases tf (decide (s=⟨#[45]⟩))with aa|aa
   ·have aa':=f5 aa;refine sdo (v:=bV true) A (qb rfl rfl (fun w=>(je gi w).trans (by rw[aa]<;>rfl))) λA=>?_;refine sdk (v:=bV true) A λA=>?_;refine sdm A λA=>?_;iterate 2 refine sks A λA=>?_
    refine sdk (v:=bV true) A λA=>?_;refine qct bw A ?_;refine wsr fun _ bz=>sdm A λA=>?_;refine sda A λA=>?_;refine qr1 bz hret A ?_;exact⟨by rw[qnf (.inr (.inr (.inl aa'))),qde],M.bel⟩
   ·have aa':=fy aa;refine sdo (v:=bV false) A (qb rfl rfl (fun w=>(je gi w).trans (by rw[aa]<;>rfl))) λA=>?_;refine sdk (v:=bV false) A λA=>?_;iterate 2 refine sdm A λA=>?_
    rcases tf (decide (s=⟨#[46,46,46]⟩))with ab|ab
    ·have ab':=f5 ab;refine sdo (v:=bV true) A (qb rfl rfl (fun w=>(je gi w).trans (by rw[ab]<;>rfl))) λA=>?_;refine sdk (v:=bV true) A λA=>?_;refine qct bw A ?_;refine wsr fun _ cc=>sdm A λA=>?_;refine sda A λA=>?_;refine qr1 cc hret A ?_;exact⟨by rw[qnf (.inr (.inr (.inr ab'))),qde],M.bel⟩
    ·have ab':=fy ab;refine sdo (v:=bV false) A (qb rfl rfl (fun w=>(je gi w).trans (by rw[ab]<;>rfl))) λA=>?_;refine sdk (v:=bV false) A λA=>?_;refine qcf bw A ?_;refine wp_skip (dd _ _ (wsr fun _ cd=>sdm A λA=>?_));refine sct A ec (jba hs) ?_;rintro _ _ ⟨_,rfl,bj⟩;obtain⟨am,ap,rfl⟩:=qjc (bj.has 0 rfl);replace M:=(M.both bj (za zd) (qi (by simp) (za zd)));refine⟨_,rfl,?_⟩;intro a A;refine sda A λA=>?_;refine qwr cd fun _ ce=>sda A λA=>?_;refine qwr ce fun _ cg=>sda A λA=>?_;refine qwk cg fun df ch=>?_;have az:∀a w1,(∃(fr:Nat) (P:List UInt8),((Lib.hasPrefix s.data.toList [45,62]=true∧fr=2∧P=[45,62])∨(Lib.hasPrefix s.data.toList [45,62]=false∧fr=0∧P=[]))∧Sl a 75 [(0,.string s),(2,.string (⟨#[]⟩)),(3,.slice am ((ze s.data.toList).length) ap),(4,.string (⟨(P).toArray⟩)),(5,iV (((fr:Nat):Int))),(8,.string s),(9,bV false),(10,.string s),(11,bV false),(12,bV false),(13,.string s),(14,bV false),(15,bV false),(16,bV false),(17,.string s),(18,bV false),(19,bV false),(21,.string s),(22,.slice am ((ze s.data.toList).length) ap)]∧Mg w w1 (.row 21 1 (.slice am ((ze s.data.toList).length) ap) ((ze s.data.toList).length) ((qjh (ze s.data.toList)))::[]))→df a w1:=by
      clear A M;rintro a _ ⟨fr,P,bf,A,M⟩;have hfr:fr≤(ze s.data.toList).length:=by
       rcases bf with⟨h,h2,_⟩|⟨_,h2,_⟩
       ·have:=j9 List.length (qdf h);simp only[fw]at this;omega
       ·omega
      have hPl:P.length≤2:=(by rcases bf with⟨_,_,h⟩|⟨_,_,h⟩<;>rw[h]<;>decide);have hpx:=bf;refine ch _ _ (wsk fun _ ci=>wsr fun _ cj=>sdm A λA=>?_);refine sda A λA=>?_;refine qa (cj _ _ (wp_block (zg (fun m_ a w1=>∃(i:Nat) (acc:List UInt8),m_=1+((ze s.data.toList).length-i)∧(fr≤i∧i≤(ze s.data.toList).length∧acc++inL (decide (i=0)) ((ze s.data.toList).drop i)=P++inL (decide (fr=0)) ((ze s.data.toList).drop fr)∧acc.length≤9*i+2)∧Sl a 75 [(0,.string s),(2,.string (⟨#[]⟩)),(3,.slice am ((ze s.data.toList).length) ap),(4,.string (⟨(acc).toArray⟩)),(5,iV (((fr:Nat):Int))),(6,iV (((i:Nat):Int))),(8,.string s),(9,bV false),(10,.string s),(11,bV false),(12,bV false),(13,.string s),(14,bV false),(15,bV false),(16,bV false),(17,.string s),(18,bV false),(19,bV false),(21,.string s),(22,.slice am ((ze s.data.toList).length) ap),(38,iV (((fr:Nat):Int)))]∧Mg w w1 (.row 21 1 (.slice am ((ze s.data.toList).length) ap) ((ze s.data.toList).length) ((qjh (ze s.data.toList)))::[])) _ ⟨fr,P,rfl,⟨gm _,hfr,rfl,by omega⟩,A.keep _ (by repeat' constructor),M⟩ ?_)));clear M A;rintro m_ a _ ⟨i,acc,rfl,bg,A,M⟩ _ aq;obtain⟨_,_,af,ha9⟩:=bg;refine wsk fun _ ck=>wsr fun _ bn=>?_;iterate 2 refine sdm A λA=>?_
      refine sdo A (qr j2 rfl) λA=>?_;rcases tf (decide (((i:Nat):Int)<(((ze s.data.toList).length:Nat):Int)))with ai|ai
      ·have ai':=f5 ai;refine sdc A qy ai λA=>?_;refine qct bn A ?_;refine wp_skip (ck _ _ (wsk fun _ ar=>wp_block (wsr fun _ bp=>?_)));iterate 2 refine sdm A λA=>?_
       obtain⟨gu,hgu⟩:=qpg M 0 rfl (by omega);refine sdo (v:=pA gu (i*1)) A (jn (k:=i) j2 (by kernel_rfl) rfl rfl rfl hgu (show i<(ze s.data.toList).length by omega)) λA=>?_;obtain⟨rn,hrn,ho⟩:=jki (l:=s.data.toList) (i:=i) (by omega);have hn:=kp ho;have hxd:=C.hexD_len rn hn;have hen4:=qbi ((rn:Nat):Int);refine sdo A (vv (j:=i*1) M 0 rfl hgu (by rw[Nat.mul_one,kr (by omega),hrn]) qyi rfl) λA=>?_;rcases tf ((C.firstB ((rn:Nat):Int)||C.restB ((rn:Nat):Int)))with av|av
       ·refine gcl A M ec ((av▸C.rrest_any ((rn:Nat):Int) ho _)) fun _ _ M a A=>?_;refine sda A λA=>?_;refine qwk bp fun _ bh=>wsr fun _ bq=>sdm A λA=>?_;rcases tf ((((i:Nat):Int)==0))with aj|aj
        ·have aj':=gr aj;refine sdc A qe aj λA=>?_;refine qct bq A ?_;refine wrl ?_;iterate 2 refine sdm A λA=>?_
         refine sdo (v:=pA gu (i*1)) A (jn (k:=i) j2 (by kernel_rfl) rfl rfl rfl hgu (show i<(ze s.data.toList).length by omega)) λA=>?_;refine sdo A (vv (j:=i*1) M 0 rfl hgu (by rw[Nat.mul_one,kr (by omega),hrn]) qyi rfl) λA=>?_;rcases tf (C.firstB ((rn:Nat):Int))with aw|aw
         ·refine gcl A M ec ((aw▸C.rfirst_any ((rn:Nat):Int) ho _)) fun _ _ M a A=>?_;refine sda A λA=>?_;refine qwr bh fun _ cl=>sdm A λA=>?_;refine qct cl A ?_;refine wrl ?_;iterate 3 refine sdm A λA=>?_
          refine sdo (v:=pA gu (i*1)) A (jn (k:=i) j2 (by kernel_rfl) rfl rfl rfl hgu (show i<(ze s.data.toList).length by omega)) λA=>?_;refine sdo A (vv (j:=i*1) M 0 rfl hgu (by rw[Nat.mul_one,kr (by omega),hrn]) qyi rfl) λA=>?_;refine sdo (v:=.string (⟨(Lib.encodeRune (((rn:Nat):Int))).toArray⟩)) A (zk rfl (qsg (n:=rn) iz gi ho)) λA=>?_;refine sdo (v:=.string (⟨(acc++(Lib.encodeRune (((rn:Nat):Int)))).toArray⟩)) A (qb rfl rfl (ql (a:=acc) (b:=Lib.encodeRune (((rn:Nat):Int))) (by first|omega|(simp only[fv,fw,fx]; omega)))) λA=>?_;refine sda A λA=>?_;refine qa (ar _ _ (wrl (sdm A λA=>?_)));refine sdo (v:=iV (((i+1:Nat):Int))) A (qb rfl rfl (fun w=>(zq (jk (by omega) (by omega)) w).trans (by rw[show(((i:Nat):Int)+1:Int)=((i+1:Nat):Int)from by omega]))) λA=>?_;refine sda A λA=>?_;refine qa ?_;have hd9:decide (i=0)=true:=gv (by omega);have ag:inS true ((rn:Nat):Int)=(Lib.encodeRune (((rn:Nat):Int))):=zta (by rw[aw]; rfl);have hs9:=ud true hn;rw[ag]at hs9;refine aq _ _ _ (by omega) ⟨i+1,acc++(Lib.encodeRune (((rn:Nat):Int))),rfl,⟨by omega,by omega,by rw[←af,hd9,show decide (i+1=0)=false from gn (by omega),qsi (i:=i) (by omega),hrn,ag,f4],by rw[fv]; omega⟩,A.keep _ (by repeat' constructor),M⟩
         ·refine gcl A M ec ((aw▸C.rfirst_any ((rn:Nat):Int) ho _)) fun _ _ M a A=>?_;refine sda A λA=>?_;refine qwr bh fun _ cm=>sdm A λA=>?_;refine qcf cm A ?_;refine wrl ?_;iterate 3 refine sdm A λA=>?_
          refine sdo (v:=pA gu (i*1)) A (jn (k:=i) j2 (by kernel_rfl) rfl rfl rfl hgu (show i<(ze s.data.toList).length by omega)) λA=>?_;refine sdo A (vv (j:=i*1) M 0 rfl hgu (by rw[Nat.mul_one,kr (by omega),hrn]) qyi rfl) λA=>?_;refine gcl A M ec (C.rhex_any rn (kp ho) _) fun _ _ M a A=>?_;refine sdo (v:=.string (⟨(([92,120])++(C.hexD rn)).toArray⟩)) A (qb rfl rfl (ql (a:=[92,120]) (b:=C.hexD rn) (by first|omega|(simp only[fv,fw,fx]; omega)))) λA=>?_;refine sdo (v:=.string (⟨((([92,120])++(C.hexD rn))++([59])).toArray⟩)) A (qb rfl rfl (ql (a:=([92,120])++(C.hexD rn)) (b:=[59]) (by first|omega|(simp only[fv,fw,fx]; omega)))) λA=>?_;refine sdo (v:=.string (⟨(acc++((([92,120])++(C.hexD rn))++([59]))).toArray⟩)) A (qb rfl rfl (ql (a:=acc) (b:=(([92,120])++(C.hexD rn))++([59])) (by first|omega|(simp only[fv,fw,fx]; omega)))) λA=>?_;refine sda A λA=>?_;refine qa (ar _ _ (wrl (sdm A λA=>?_)));refine sdo (v:=iV (((i+1:Nat):Int))) A (qb rfl rfl (fun w=>(zq (jk (by omega) (by omega)) w).trans (by rw[show(((i:Nat):Int)+1:Int)=((i+1:Nat):Int)from by omega]))) λA=>?_;refine sda A λA=>?_;refine qa ?_;have hd9:decide (i=0)=true:=gv (by omega);have ag:inS true ((rn:Nat):Int)=((([92,120])++(C.hexD rn))++([59])):=((ztb (by rw[aw]; rfl)).trans (by rw[qae]));have hs9:=ud true hn;rw[ag]at hs9;refine aq _ _ _ (by omega) ⟨i+1,acc++((([92,120])++(C.hexD rn))++([59])),rfl,⟨by omega,by omega,by rw[←af,hd9,show decide (i+1=0)=false from gn (by omega),qsi (i:=i) (by omega),hrn,ag,f4],by rw[fv]; omega⟩,A.keep _ (by repeat' constructor),M⟩
        ·have aj':=f6 aj;refine sdc A qe aj λA=>?_;refine qcf bq A ?_;refine wp_skip (bh _ _ (wsr fun _ cn=>sdm A λA=>?_));refine qct cn A ?_;refine wrl ?_;iterate 3 refine sdm A λA=>?_
         refine sdo (v:=pA gu (i*1)) A (jn (k:=i) j2 (by kernel_rfl) rfl rfl rfl hgu (show i<(ze s.data.toList).length by omega)) λA=>?_;refine sdo A (vv (j:=i*1) M 0 rfl hgu (by rw[Nat.mul_one,kr (by omega),hrn]) qyi rfl) λA=>?_;refine sdo (v:=.string (⟨(Lib.encodeRune (((rn:Nat):Int))).toArray⟩)) A (zk rfl (qsg (n:=rn) iz gi ho)) λA=>?_;refine sdo (v:=.string (⟨(acc++(Lib.encodeRune (((rn:Nat):Int)))).toArray⟩)) A (qb rfl rfl (ql (a:=acc) (b:=Lib.encodeRune (((rn:Nat):Int))) (by first|omega|(simp only[fv,fw,fx]; omega)))) λA=>?_;refine sda A λA=>?_;refine qa (ar _ _ (wrl (sdm A λA=>?_)));refine sdo (v:=iV (((i+1:Nat):Int))) A (qb rfl rfl (fun w=>(zq (jk (by omega) (by omega)) w).trans (by rw[show(((i:Nat):Int)+1:Int)=((i+1:Nat):Int)from by omega]))) λA=>?_;refine sda A λA=>?_;refine qa ?_;have hd9:decide (i=0)=false:=gn (by omega);have ag:inS false ((rn:Nat):Int)=(Lib.encodeRune (((rn:Nat):Int))):=zta (by rw[Bool.not_false,Bool.true_and]; exact av);have hs9:=ud false hn;rw[ag]at hs9;refine aq _ _ _ (by omega) ⟨i+1,acc++(Lib.encodeRune (((rn:Nat):Int))),rfl,⟨by omega,by omega,by rw[←af,hd9,show decide (i+1=0)=false from gn (by omega),qsi (i:=i) (by omega),hrn,ag,f4],by rw[fv]; omega⟩,A.keep _ (by repeat' constructor),M⟩
       ·refine gcl A M ec ((av▸C.rrest_any ((rn:Nat):Int) ho _)) fun _ _ M a A=>?_;refine sda A λA=>?_;refine qwk bp fun _ bi=>wsr fun _ br=>sdm A λA=>?_;rcases tf ((((i:Nat):Int)==0))with ak|ak
        ·have ak':=gr ak;refine sdc A qe ak λA=>?_;refine qct br A ?_;refine wrl ?_;iterate 2 refine sdm A λA=>?_
         refine sdo (v:=pA gu (i*1)) A (jn (k:=i) j2 (by kernel_rfl) rfl rfl rfl hgu (show i<(ze s.data.toList).length by omega)) λA=>?_;refine sdo A (vv (j:=i*1) M 0 rfl hgu (by rw[Nat.mul_one,kr (by omega),hrn]) qyi rfl) λA=>?_;rcases tf (C.firstB ((rn:Nat):Int))with ax|ax
         ·refine gcl A M ec ((ax▸C.rfirst_any ((rn:Nat):Int) ho _)) fun _ _ M a A=>?_;refine sda A λA=>?_;refine qwr bi fun _ co=>sdm A λA=>?_;refine qct co A ?_;refine wrl ?_;iterate 3 refine sdm A λA=>?_
          refine sdo (v:=pA gu (i*1)) A (jn (k:=i) j2 (by kernel_rfl) rfl rfl rfl hgu (show i<(ze s.data.toList).length by omega)) λA=>?_;refine sdo A (vv (j:=i*1) M 0 rfl hgu (by rw[Nat.mul_one,kr (by omega),hrn]) qyi rfl) λA=>?_;refine sdo (v:=.string (⟨(Lib.encodeRune (((rn:Nat):Int))).toArray⟩)) A (zk rfl (qsg (n:=rn) iz gi ho)) λA=>?_;refine sdo (v:=.string (⟨(acc++(Lib.encodeRune (((rn:Nat):Int)))).toArray⟩)) A (qb rfl rfl (ql (a:=acc) (b:=Lib.encodeRune (((rn:Nat):Int))) (by first|omega|(simp only[fv,fw,fx]; omega)))) λA=>?_;refine sda A λA=>?_;refine qa (ar _ _ (wrl (sdm A λA=>?_)));refine sdo (v:=iV (((i+1:Nat):Int))) A (qb rfl rfl (fun w=>(zq (jk (by omega) (by omega)) w).trans (by rw[show(((i:Nat):Int)+1:Int)=((i+1:Nat):Int)from by omega]))) λA=>?_;refine sda A λA=>?_;refine qa ?_;have hd9:decide (i=0)=true:=gv (by omega);have ag:inS true ((rn:Nat):Int)=(Lib.encodeRune (((rn:Nat):Int))):=zta (by rw[ax]; rfl);have hs9:=ud true hn;rw[ag]at hs9;refine aq _ _ _ (by omega) ⟨i+1,acc++(Lib.encodeRune (((rn:Nat):Int))),rfl,⟨by omega,by omega,by rw[←af,hd9,show decide (i+1=0)=false from gn (by omega),qsi (i:=i) (by omega),hrn,ag,f4],by rw[fv]; omega⟩,A.keep _ (by repeat' constructor),M⟩
         ·refine gcl A M ec ((ax▸C.rfirst_any ((rn:Nat):Int) ho _)) fun _ _ M a A=>?_;refine sda A λA=>?_;refine qwr bi fun _ cp=>sdm A λA=>?_;refine qcf cp A ?_;refine wrl ?_;iterate 3 refine sdm A λA=>?_
          refine sdo (v:=pA gu (i*1)) A (jn (k:=i) j2 (by kernel_rfl) rfl rfl rfl hgu (show i<(ze s.data.toList).length by omega)) λA=>?_;refine sdo A (vv (j:=i*1) M 0 rfl hgu (by rw[Nat.mul_one,kr (by omega),hrn]) qyi rfl) λA=>?_;refine gcl A M ec (C.rhex_any rn (kp ho) _) fun _ _ M a A=>?_;refine sdo (v:=.string (⟨(([92,120])++(C.hexD rn)).toArray⟩)) A (qb rfl rfl (ql (a:=[92,120]) (b:=C.hexD rn) (by first|omega|(simp only[fv,fw,fx]; omega)))) λA=>?_;refine sdo (v:=.string (⟨((([92,120])++(C.hexD rn))++([59])).toArray⟩)) A (qb rfl rfl (ql (a:=([92,120])++(C.hexD rn)) (b:=[59]) (by first|omega|(simp only[fv,fw,fx]; omega)))) λA=>?_;refine sdo (v:=.string (⟨(acc++((([92,120])++(C.hexD rn))++([59]))).toArray⟩)) A (qb rfl rfl (ql (a:=acc) (b:=(([92,120])++(C.hexD rn))++([59])) (by first|omega|(simp only[fv,fw,fx]; omega)))) λA=>?_;refine sda A λA=>?_;refine qa (ar _ _ (wrl (sdm A λA=>?_)));refine sdo (v:=iV (((i+1:Nat):Int))) A (qb rfl rfl (fun w=>(zq (jk (by omega) (by omega)) w).trans (by rw[show(((i:Nat):Int)+1:Int)=((i+1:Nat):Int)from by omega]))) λA=>?_;refine sda A λA=>?_;refine qa ?_;have hd9:decide (i=0)=true:=gv (by omega);have ag:inS true ((rn:Nat):Int)=((([92,120])++(C.hexD rn))++([59])):=((ztb (by rw[ax]; rfl)).trans (by rw[qae]));have hs9:=ud true hn;rw[ag]at hs9;refine aq _ _ _ (by omega) ⟨i+1,acc++((([92,120])++(C.hexD rn))++([59])),rfl,⟨by omega,by omega,by rw[←af,hd9,show decide (i+1=0)=false from gn (by omega),qsi (i:=i) (by omega),hrn,ag,f4],by rw[fv]; omega⟩,A.keep _ (by repeat' constructor),M⟩
        ·have ak':=f6 ak;refine sdc A qe ak λA=>?_;refine qcf br A ?_;refine wp_skip (bi _ _ (wsr fun _ cq=>sdm A λA=>?_));refine qcf cq A ?_;refine wrl ?_;iterate 3 refine sdm A λA=>?_
         refine sdo (v:=pA gu (i*1)) A (jn (k:=i) j2 (by kernel_rfl) rfl rfl rfl hgu (show i<(ze s.data.toList).length by omega)) λA=>?_;refine sdo A (vv (j:=i*1) M 0 rfl hgu (by rw[Nat.mul_one,kr (by omega),hrn]) qyi rfl) λA=>?_;refine gcl A M ec (C.rhex_any rn (kp ho) _) fun _ _ M a A=>?_;refine sdo (v:=.string (⟨(([92,120])++(C.hexD rn)).toArray⟩)) A (qb rfl rfl (ql (a:=[92,120]) (b:=C.hexD rn) (by first|omega|(simp only[fv,fw,fx]; omega)))) λA=>?_;refine sdo (v:=.string (⟨((([92,120])++(C.hexD rn))++([59])).toArray⟩)) A (qb rfl rfl (ql (a:=([92,120])++(C.hexD rn)) (b:=[59]) (by first|omega|(simp only[fv,fw,fx]; omega)))) λA=>?_;refine sdo (v:=.string (⟨(acc++((([92,120])++(C.hexD rn))++([59]))).toArray⟩)) A (qb rfl rfl (ql (a:=acc) (b:=(([92,120])++(C.hexD rn))++([59])) (by first|omega|(simp only[fv,fw,fx]; omega)))) λA=>?_;refine sda A λA=>?_;refine qa (ar _ _ (wrl (sdm A λA=>?_)));refine sdo (v:=iV (((i+1:Nat):Int))) A (qb rfl rfl (fun w=>(zq (jk (by omega) (by omega)) w).trans (by rw[show(((i:Nat):Int)+1:Int)=((i+1:Nat):Int)from by omega]))) λA=>?_;refine sda A λA=>?_;refine qa ?_;have hd9:decide (i=0)=false:=gn (by omega);have ag:inS false ((rn:Nat):Int)=((([92,120])++(C.hexD rn))++([59])):=((ztb (by rw[Bool.not_false,Bool.true_and]; exact av)).trans (by rw[qae]));have hs9:=ud false hn;rw[ag]at hs9;refine aq _ _ _ (by omega) ⟨i+1,acc++((([92,120])++(C.hexD rn))++([59])),rfl,⟨by omega,by omega,by rw[←af,hd9,show decide (i+1=0)=false from gn (by omega),qsi (i:=i) (by omega),hrn,ag,f4],by rw[fv]; omega⟩,A.keep _ (by repeat' constructor),M⟩
      ·have ai':=fy ai;refine sdc A qy ai λA=>?_;refine qcf bn A ?_;refine wp_exit (ci _ _ (wsr fun _ cr=>sdm A λA=>?_));refine sda A λA=>?_;refine qr1 cr hret A ?_;exact⟨by
        rw[juj (by omega),gh]at af;rw[show qaj false s=acc from by
         rw[af];rcases hpx with⟨h,h2,h3⟩|⟨h,h2,h3⟩
         ·rw[h2,h3,jta (fun k=>by rcases k with k|k|k|k; cases k; exact ay' k; exact aa' k; exact ab' k) au' h,show ze (s.data.toList.drop 2)=(ze s.data.toList).drop 2 from by rw[qdf h]; rfl];rfl
         ·rw[h2,h3,jtb (fun k=>by rcases k with k|k|k|k; cases k; exact ay' k; exact aa' k; exact ab' k) au' h];rfl],M.bel⟩
     refine wsr fun _ bd=>sdm A λA=>?_;refine sdo A (qr j2 rfl) λA=>?_;rcases tf (decide (2≤(((ze s.data.toList).length:Nat):Int)))with ah|ah
     ·have ah':=f5 ah;refine sdc A zt ah λA=>?_;iterate 2 refine sdm A λA=>?_
      obtain⟨gu,hgu⟩:=qpg M 0 rfl (by omega);refine sdo (v:=pA gu (0*1)) A (jn (k:=0) j2 (by kernel_rfl) rfl rfl rfl hgu (show 0<(ze s.data.toList).length by omega)) λA=>?_;refine sdo A (vv (j:=0*1) M 0 rfl hgu (kr (by omega)) qyi rfl) λA=>?_;rcases tf (((ze s.data.toList).getD 0 0==45))with ac|ac
      ·have ac':=gr ac;refine sdc A qe ac λA=>?_;refine sdk (v:=bV true) A λA=>?_;iterate 2 refine sdm A λA=>?_
       refine sdo (v:=pA gu (1*1)) A (jn (k:=1) j2 (by kernel_rfl) rfl rfl rfl hgu (show 1<(ze s.data.toList).length by omega)) λA=>?_;refine sdo A (vv (j:=1*1) M 0 rfl hgu (kr (by omega)) qyi rfl) λA=>?_;rcases tf (((ze s.data.toList).getD 1 0==62))with ae|ae
       ·have ae':=gr ae;refine sdc A qe ae λA=>?_;refine sdk (v:=bV true) A λA=>?_;refine qct bd A ?_;refine wsr fun _ cw=>sda A λA=>?_;refine qa (cw _ _ (wrl (sda A λA=>?_)));refine qa ?_;exact az _ _ ⟨2,[45,62],.inl ⟨xdc (by omega) ac' ae',rfl,rfl⟩,A.keep _ (by repeat' constructor),M⟩
       ·have ae':=f6 ae;refine sdc A qe ae λA=>?_;refine sdk (v:=bV false) A λA=>?_;refine qcf bd A ?_;refine wp_skip ?_;exact az _ _ ⟨0,[],.inr ⟨by
         rcases tf (Lib.hasPrefix s.data.toList [45,62])with h9|h9
         ·exfalso;have h7:=ae';rw[qdf h9]at h7;simp at h7
         ·exact h9,rfl,rfl⟩,A.keep _ (by repeat' constructor),M⟩
      ·have ac':=f6 ac;refine sdc A qe ac λA=>?_;refine sdk (v:=bV false) A λA=>?_;refine sdm A λA=>?_;iterate 4 refine sks A λA=>?_
       refine sdk (v:=bV false) A λA=>?_;refine qcf bd A ?_;refine wp_skip ?_;exact az _ _ ⟨0,[],.inr ⟨by
        rcases tf (Lib.hasPrefix s.data.toList [45,62])with h9|h9
        ·exfalso;have h7:=ac';rw[qdf h9]at h7;simp at h7
        ·exact h9,rfl,rfl⟩,A.keep _ (by repeat' constructor),M⟩
     ·have ah':=fy ah;refine sdc A zt ah λA=>?_;refine sdm A λA=>?_;iterate 4 refine sks A λA=>?_
      refine sdk (v:=bV false) A λA=>?_;refine sdm A λA=>?_;iterate 4 refine sks A λA=>?_
      refine sdk (v:=bV false) A λA=>?_;refine qcf bd A ?_;refine wp_skip ?_;exact az _ _ ⟨0,[],.inr ⟨by
       rcases tf (Lib.hasPrefix s.data.toList [45,62])with h9|h9
       ·exfalso;have h7:=ah';have h8:=j9 List.length (qdf h9);simp only[fw]at h8;omega
       ·exact h9,rfl,rfl⟩,A.keep _ (by repeat' constructor),M⟩
open Go.RowKit Go.Lib
def dtC(us:List Dt):List Value:=us.flatMap fun t=>t.d.cells t.ts.length
theorem jvc(us:List Dt)(p:Dt):dtC (us++[p])=dtC us++p.d.cells p.ts.length:=by unfold dtC; rw[ll]; simp
theorem jvd: ∀{us:List Dt} {i j:Nat} {t:Dt},us[i]?=some t→j<11→(dtC us)[i*11+j]?=(t.d.cells t.ts.length)[j]?
  | [], i, j, t, h, hj => by simp at h
  | u :: us, 0, j, t, h, hj => by
    simp only[List.getElem?_cons_zero,Option.some.injEq]at h;subst h;unfold dtC;rw[ij,Nat.zero_mul,Nat.zero_add,List.getElem?_append_left (by exact hj)]
  | u :: us, i + 1, j, t, h, hj => by
    rw[List.getElem?_cons_succ]at h;have:=jvd h hj;unfold dtC at this ⊢;rw[ij,List.getElem?_append_right (by show 11≤_; omega),show(i+1)*11+j-(u.d.cells u.ts.length).length=i*11+j from by show(i+1)*11+j-11=_; omega];exact this
theorem xjc{w0 w:World}{L:List Ck}{e:TypeId}(hM:Mg w0 w L)(k:Nat){so:Option Addr}{n cap:Nat}{us:List Dt}(hk:L[k]?=some (.row e 11 (.slice so n cap) n (dtC us)))(hn:n=us.length):Rt w so us:=fun hne=>by
  have hown:=hM.has k hk;have hpos:us.length≠0:=fun h=>hne (List.eq_nil_of_length_eq_zero h);rcases hown.2 with⟨_,h0⟩|⟨g,cap',cur,he,hbg,hg,_⟩
  · omega
  · cases he
    refine⟨g,0,rfl,fun i t hi=>⟨?_,fun j v hj=>?_⟩⟩
    · exact(Array.getElem?_eq_some_iff.1 hg).1
    · have hj11:j<11:=(List.getElem?_eq_some_iff.1 hj).1;have h9:=hown.cells (g:=g) rfl (i*11+j) v ((jvd hi hj11).trans hj);rw[jt,Nat.zero_add]at h9;rw[Nat.zero_add];exact h9
theorem zub(pl:Bool):∀(f:Bool) (a:List Tr) (x:Tr),wrL pl f (a++[x])=wrL pl f a++((if f=true∧a=[]then[]else[32])++wrT pl x)
  | f, [], x => by
    rw[f8,wrL,wrL,wrL,f8,gh];cases f<;>simp
  | f, y :: a, x => by
    rw[gq,wrL,wrL,zub pl false a x,f7 (show ¬(false=true∧a=[])from fun h=>by cases h.1),f7 (show ¬(f=true∧y::a=[])from fun h=>by cases h.2)];simp only[f4]
structure SpU(w:World)(pl:Bool)(t q0 q1:Dt)(us:List Dt)(p:Dt):Prop where
  rd:p.rd w
  gd:p.tr.good
  ur:∀u∈us,u.rd w
  ug:∀u∈us,u.tr.good
  bk:Tr.bulks (us.map Dt.tr)+p.tr.bulk+us.length≤t.tr.bulk
  z:us.length=0→p=t
  tx:wrL pl true (us.map Dt.tr)++(tlT pl p.tr).drop (if us.length=0 then 1 else 0)=(tlT pl t.tr).drop 1
  o1:us.length=1→us=[q0]∧p=q1
  o2:us.length=2→∃c0,us=[q0,c0]∧q1.d.k=8∧q1.ts=[c0,p]
  o3:3≤us.length→qtT q1.tr=false
theorem SpU.start{w:World}{pl:Bool}{t q0 q1:Dt}(h:t.rd w)(g:t.tr.good):SpU w pl t q0 q1 [] t:=
  ⟨h,g,fun _ h=>(by cases h),fun _ h=>(by cases h),(by simp[Tr.bulks]),fun _=>rfl,(by simp[wrL]),fun h=>(by simp at h),fun h=>(by simp at h),fun h=>(by simp at h)⟩
theorem zce: ∀(a:List Tr) (x:Tr),Tr.bulks (a++[x])=Tr.bulks a+x.bulk
  | [], x => by simp [Tr.bulks]
  | y :: a, x => by rw [gq, Tr.bulks, Tr.bulks, zce a x]; omega
theorem SpU.go{w:World}{pl:Bool}{t q0 q1 p p0 p1:Dt}{us:List Dt}(h:SpU w pl t q0 q1 us p)(iq0:t.ts[0]?=some q0)(iq1:t.ts[1]?=some q1)(h8:p.d.k=8)(l2:p.ts.length=2)(i0:p.ts[0]?=some p0)(i1:p.ts[1]?=some p1)(r0:p0.rd w)(r1:p1.rd w)(g0:p0.tr.good)(g1:p1.tr.good):SpU w pl t q0 q1 (us++[p0]) p1:=by
  have hb:=qki l2 i0 i1;have hbk:=h.bk;have hl:(us++[p0]).length=us.length+1:=by simp
  refine⟨r1,g1,fun u hu=>?_,fun u hu=>?_,?_,fun h=>by omega,?_,fun h1=>?_,fun h1=>?_,fun h1=>?_⟩
  · rcases lk.1 hu with k|k
    · exact h.ur u k
    · rw[iq.1 k]; exact r0
  · rcases lk.1 hu with k|k
    · exact h.ug u k
    · rw[iq.1 k]; exact g0
  · rw[j6,i6,lg,zce,hl];omega
  · rw[←h.tx,f7 (by omega),List.drop_zero,j6,i6,lg,zub,qpj h8 l2 i0 i1];by_cases h0:us.length=0
    · rw[gj h0,gj ⟨rfl,by rw[List.eq_nil_of_length_eq_zero h0]; rfl⟩];simp only[f4,f8,gq,List.drop_succ_cons,List.drop_zero]
    · rw[f7 h0,f7 (fun k=>h0 (by have:=j9 List.length k.2; simpa using this))];simp only[f4,List.drop_zero]
  · have h0:us.length=0:=(by omega);have e:=h.z h0;subst e;rw[List.eq_nil_of_length_eq_zero h0];rw[iq0]at i0;rw[iq1]at i1;cases i0
    cases i1
    exact⟨rfl,rfl⟩
  · obtain⟨e1,e2⟩:=h.o1 (by omega);subst e1 e2;exact⟨p0,rfl,h8,qmc l2 i0 i1⟩
  · by_cases h2:us.length=2
    · obtain⟨c0,e1,e2,e3⟩:=h.o2 h2;rw[ztf e2 (by rw[e3]; rfl) (p0:=c0) (p1:=p) (by rw[e3]; rfl) (by rw[e3]; rfl)];exact gn (by omega)
    · exact h.o3 (by omega)
theorem SpU.list{w:World}{pl:Bool}{t q0 q1 p:Dt}{us:List Dt}(h:SpU w pl t q0 q1 us p)(h8:t.d.k=8)(l2:t.ts.length=2)(iq0:t.ts[0]?=some q0)(iq1:t.ts[1]?=some q1)(hp:p.d.k≠8)(hq:(isQ q0.tr&&qtT q1.tr)=false):wrT pl t.tr=[40]++(wrL pl true (us.map Dt.tr)++tlT pl p.tr)++[41]:=by
  have h0:us.length≠0:=fun e=>hp (by rw[h.z e]; exact h8);have htx:=h.tx;rw[f7 h0,List.drop_zero,qpj h8 l2 iq0 iq1]at htx;rw[zna h8 l2 iq0 iq1 hq,htx];rfl
theorem SpU.quote{w:World}{pl:Bool}{t q0 q1 p:Dt}{us:List Dt}(h:SpU w pl t q0 q1 us p)(h8:t.d.k=8)(l2:t.ts.length=2)(iq0:t.ts[0]?=some q0)(iq1:t.ts[1]?=some q1){c0:Dt}(hu:us=[q0,c0])(hp:p.d.k=1)(hq:isQ q0.tr=true):wrT pl t.tr=[39]++wrT pl c0.tr:=by
  obtain⟨c,e1,e2,e3⟩:=h.o2 (by rw[hu]; rfl);rw[hu]at e1;injection e1 with _ e1;injection e1 with e1 _;subst e1;have l2':q1.ts.length=2:=by rw[e3]; rfl
  have j0:q1.ts[0]?=some c0:=by rw[e3]; rfl
  have j1:q1.ts[1]?=some p:=by rw[e3]; rfl
  rw[zte h8 l2 iq0 iq1 (by rw[hq,ztf e2 l2' j0 j1,gv hp]; rfl),xlc l2' j0 j1]
theorem SpU.no{w:World}{pl:Bool}{t q0 q1 p:Dt}{us:List Dt}(h:SpU w pl t q0 q1 us p)(h8:t.d.k=8)(hp:p.d.k≠8)(hn:us.length≠2∨p.d.k≠1∨isQ q0.tr=false):(isQ q0.tr&&qtT q1.tr)=false:=by
  by_cases h2:us.length=2
  · rcases hn with hn|hn|hn
    · exact absurd h2 hn
    · obtain⟨c0,e1,e2,e3⟩:=h.o2 h2;rw[ztf e2 (by rw[e3]; rfl) (p0:=c0) (p1:=p) (by rw[e3]; rfl) (by rw[e3]; rfl),gn hn,Bool.and_false]
    · rw[hn,Bool.false_and]
  · by_cases h1:us.length=1
    · rw[←(h.o1 h1).2,xeh hp,Bool.and_false]
    · by_cases h0:us.length=0
      · exact absurd (by rw[h.z h0]; exact h8) hp
      · rw[h.o3 (by omega),Bool.and_false]
theorem xlh{w:World}{lo:Option Addr}{ts:List Dt}(h:Rt w lo ts)(hr:∀t∈ts,t.rd w){i:Nat}(hi:i<ts.length):∃t b o,ts[i]?=some t∧t∈ts∧t.rd w∧lo=some ⟨b,o,none⟩∧Here w b (o+i*11) (t.d.cells t.ts.length):=by
 obtain⟨b,o,e,h2⟩:=h (fun e=>by subst e; exact absurd hi (j4 _));have ht:=List.getElem?_eq_getElem hi;exact⟨ts[i],b,o,ht,ip hi,hr _ (ip hi),e,h2 i _ ht⟩
theorem jfc{pl f:Bool}{ts:List Dt}{p:Dt}{i:Nat}(hi:ts[i]?=some p):wrL pl f ((ts.map Dt.tr).drop i)=(if f=true then[]else[32])++wrT pl p.tr++wrL pl false ((ts.map Dt.tr).drop (i+1)):=by rw[yv hi,wrL]
theorem jve{pl f:Bool}{ts:List Dt}{i:Nat}(h:¬i<ts.length):wrL pl f ((ts.map Dt.tr).drop i)=[]:=by rw[qbj h,wrL]
theorem qga{ts:List Dt}{t:Dt}(h:t∈ts):t.tr.bulk≤Tr.bulks (ts.map Dt.tr):=ul (j5 (f:=Dt.tr) h)
def Tells(n:Nat):Prop:=∀{w:World} {t:Dt} {mk:Bool},t.tr.bulk<n→t.rd w→t.tr.good→t.tr.bulk≤1048576→Calls Tryz.prog 76 #[.agg (t.d.cells t.ts.length).toArray,bV mk] w (RB w (.string ⟨(wrT (!mk) t.tr).toArray⟩))
theorem zuc{n:Nat}(ih:Tells n){w:World}{lo:Option Addr}{lc:Nat}{ts:List Dt}{mk:Bool}(hR:Rt w lo ts)(hr:∀t∈ts,t.rd w)(hg:∀t∈ts,t.tr.good)(hb:Tr.bulks (ts.map Dt.tr)<n)(hmax:Tr.bulks (ts.map Dt.tr)≤1048576)(hlt:ts.length≤9223372036854775807):Calls Tryz.prog 113 #[.slice lo ts.length lc,bV mk] w (RB w (.string ⟨(wrL (!mk) true (ts.map Dt.tr)).toArray⟩)):=by
 have M:=Mg.start w;refine wof Tryz.func113 Tryz.ntmps113 fun Q hret hnorm hP a A=>?_;refine wsr fun _ am=>sda A λA=>?_;refine qwr am fun _ ap=>sda A λA=>?_;refine qwk ap fun _ aq=>wsr fun K4 ar=>sda A λA=>?_;refine qa (ar _ _ (wp_block (zg (fun m_ a w1=>∃(i:Nat) (acc:List UInt8),m_=1+(ts.length-i)∧(i≤ts.length∧acc++wrL (!mk) (decide (i=0)) ((ts.map Dt.tr).drop i)=wrL (!mk) true (ts.map Dt.tr)∧acc.length+64*Tr.bulks ((ts.map Dt.tr).drop i)≤64*Tr.bulks (ts.map Dt.tr))∧Sl a 26 [(0,.slice lo ts.length lc),(1,bV mk),(4,.string (⟨#[]⟩)),(5,.string (⟨(acc).toArray⟩)),(6,iV (((i:Nat):Int)))]∧Mg w w1 ([])) _ ⟨0,[],rfl,⟨ii _,rfl,by rw[List.drop_zero,fx]; omega⟩,A.keep _ ⟨rfl,rfl,rfl,rfl,rfl,trivial⟩,M⟩ ?_)));clear M A;rintro m_ a _ ⟨i,acc,rfl,ae,A,M⟩ _ aj;obtain⟨_,ac,ha9⟩:=ae;refine wsk fun _ au=>wsr fun _ ak=>?_;iterate 2 refine sdm A λA=>?_
 refine sdo A (qr f9 rfl) λA=>?_;rcases tf (decide (((i:Nat):Int)<((ts.length:Nat):Int)))with aa|aa
 ·have aa':=f5 aa;refine sdc A qy aa λA=>?_;refine qct ak A ?_;refine wp_skip (au _ _ (wsk fun _ af=>wp_block (wsk fun _ ag=>wsr fun _ ah=>sdm A λA=>?_)));rcases tf (decide (0<((i:Nat):Int)))with ab|ab
  ·have ab':=f5 ab;refine sdc A jh ab λA=>?_;refine qct ah A ?_;refine wrl (sdm A λA=>?_);refine sdo (v:=.string (⟨(acc++([32])).toArray⟩)) A (qb rfl rfl (ql (a:=acc) (b:=[32]) (by first|omega|(simp only[fv,fw,fx]; omega)))) λA=>?_;refine sda A λA=>?_;refine qa (ag _ _ ?_);obtain⟨t1,bt1,ot1,it1,mt1,rt1_,lt1,Ht1⟩:=xlh hR hr (i:=i) (by omega);have hbk9:=zbg it1;have hbm9:=qga mt1;have hw9:=(qfi (!mk) t1.tr (hg _ mt1)).1;refine wrl ?_;iterate 3 refine sdm A λA=>?_
   refine sdo (v:=pA bt1 (ot1+i*11)) A (qk (k:=i) f9 (by kernel_rfl) rfl rfl rfl lt1 (by omega)) λA=>?_;refine sdo A (zp M Ht1 zv rfl rfl) λA=>?_;refine sdm A λA=>?_;refine gcl A M ec (ih (t:=t1) (by omega) (Dt.keep M.bel _ rt1_) (hg _ mt1) (by omega)) fun _ _ M a A=>?_;refine sdo (v:=.string (⟨((acc++([32]))++(wrT (!mk) t1.tr)).toArray⟩)) A (qb rfl rfl (ql (a:=acc++([32])) (b:=wrT (!mk) t1.tr) (by first|omega|(simp only[fv,fw,fx]; omega)))) λA=>?_;refine sda A λA=>?_;refine qa (af _ _ (wrl (sdm A λA=>?_)));refine sdo (v:=iV (((i+1:Nat):Int))) A (qb rfl rfl (fun w=>(zq (jk (by omega) (by omega)) w).trans (by rw[show(((i:Nat):Int)+1:Int)=((i+1:Nat):Int)from by omega]))) λA=>?_;refine sda A λA=>?_;refine qa ?_;have hd9:decide (i=0)=false:=gn (by omega);refine aj _ _ _ (by omega) ⟨i+1,(acc++([32]))++(wrT (!mk) t1.tr),rfl,⟨by omega,by rw[←ac,hd9,show decide (i+1=0)=false from gn (by omega),jfc (f:=false) it1,f7 (show ¬false=true by decide)]; simp only[f4,f8],by simp only[fv,fw,fx]; omega⟩,A.keep _ ⟨rfl,rfl,rfl,rfl,rfl,trivial⟩,M⟩
  ·have ab':=fy ab;refine sdc A jh ab λA=>?_;refine qcf ah A ?_;refine wp_skip (ag _ _ ?_);obtain⟨t1,bt1,ot1,it1,mt1,rt1_,lt1,Ht1⟩:=xlh hR hr (i:=i) (by omega);have hbk9:=zbg it1;have hbm9:=qga mt1;have hw9:=(qfi (!mk) t1.tr (hg _ mt1)).1;refine wrl ?_;iterate 3 refine sdm A λA=>?_
   refine sdo (v:=pA bt1 (ot1+i*11)) A (qk (k:=i) f9 (by kernel_rfl) rfl rfl rfl lt1 (by omega)) λA=>?_;refine sdo A (zp M Ht1 zv rfl rfl) λA=>?_;refine sdm A λA=>?_;refine gcl A M ec (ih (t:=t1) (by omega) (Dt.keep M.bel _ rt1_) (hg _ mt1) (by omega)) fun _ _ M a A=>?_;refine sdo (v:=.string (⟨(acc++(wrT (!mk) t1.tr)).toArray⟩)) A (qb rfl rfl (ql (a:=acc) (b:=wrT (!mk) t1.tr) (by first|omega|(simp only[fv,fw,fx]; omega)))) λA=>?_;refine sda A λA=>?_;refine qa (af _ _ (wrl (sdm A λA=>?_)));refine sdo (v:=iV (((i+1:Nat):Int))) A (qb rfl rfl (fun w=>(zq (jk (by omega) (by omega)) w).trans (by rw[show(((i:Nat):Int)+1:Int)=((i+1:Nat):Int)from by omega]))) λA=>?_;refine sda A λA=>?_;refine qa ?_;have hd9:decide (i=0)=true:=gv (by omega);refine aj _ _ _ (by omega) ⟨i+1,acc++(wrT (!mk) t1.tr),rfl,⟨by omega,by rw[←ac,hd9,show decide (i+1=0)=false from gn (by omega),jfc (f:=true) it1,gj rfl]; simp only[f4,f8],by simp only[fv,fw,fx]; omega⟩,A.keep _ ⟨rfl,rfl,rfl,rfl,rfl,trivial⟩,M⟩
 ·have aa':=fy aa;refine sdc A qy aa λA=>?_;refine qcf ak A ?_;refine wp_exit (aq _ _ (wsr fun _ ai=>sdm A λA=>?_));refine sda A λA=>?_;refine qr1 ai hret A ?_;exact⟨by rw[jve (by omega),gh]at ac; rw[ac],M.bel⟩
theorem xli{w:World}{t:Dt}(h:t.rd w):Rt w t.d.lo t.ts:=by
 rw[←Dt.eta t,Dt.rd_iff]at h;exact h.2.2.2.1
theorem ku{pl:Bool}{t:Dt}(h8:t.d.k≠8)(h9:t.d.k≠9):wrT pl t.tr=vd pl t.d.k t.d.n t.d.y.q t.d.s t.d.rl:=by rw[qbc,f7 h8,f7 h9]
theorem jbb{w:World}{y:Nu}(hy:y.nm w)(hl:LenQ y.q)(hs:xt y.q=true):Calls Tryz.prog 108 #[.agg #[bV y.q.b1,.slice y.o1 y.q.t1.length y.c1,.slice y.o2 y.q.q1.length y.c2,bV y.q.b2,.slice y.o3 y.q.t2.length y.c3,.slice y.o4 y.q.q2.length y.c4],iV 10] w (RB w (.tuple #[.string ⟨(jv 10 y.q).toArray⟩,iV 0])):=jka hy hl (r:=10) (.inr (.inr (.inl rfl))) hs
theorem jbc{n:Nat}(ih:Tells n):Tells (n+1):=by
 intro w t mk hn ht gt hmax;have _:=(jf gt).1.h0;have _:=(jf gt).1.h1;have hn9:=jle (jf gt).1;have hbp9:=zca (t:=t);have hbw9:=zcb (t:=t);have hsl:=zm t.d.s;have M:=Mg.start w;refine wof Tryz.func76 Tryz.ntmps76 fun Q hret hnorm hP a A=>?_;refine wsr fun _ fj=>zj (vs:=[iV t.d.k,iV t.d.n,bV t.d.y.q.b1,.slice t.d.y.o1 t.d.y.q.t1.length t.d.y.c1,.slice t.d.y.o2 t.d.y.q.q1.length t.d.y.c2,bV t.d.y.q.b2,.slice t.d.y.o3 t.d.y.q.t2.length t.d.y.c3,.slice t.d.y.o4 t.d.y.q.q2.length t.d.y.c4,.string t.d.s,.slice t.d.ro t.d.rl.length t.d.rc,.slice t.d.lo t.ts.length t.d.lc]) (t:=30) A M rfl rfl rfl pg (qx rfl rfl) (by decide) ?_;intro g2 _ M a A;refine sda A λA=>?_;refine qa (fj _ _ (wsk fun K4 fk=>wsr fun _ fm=>sdf A 0 xk λA=>?_));refine sdl A M o93 0 λA=>?_;refine qa (fm _ _ (wp_block (wsr fun _ ff=>?_)));rcases tf ((t.d.k==1))with bh|bh
 ·have bh':=gr bh;refine sdc A qe bh λA=>?_;refine sda A λA=>?_;refine qct ff A ?_;refine wsr fun _ fp=>sda A λA=>?_;refine qr1 fp hret A ?_;exact⟨by
   rw[show wrT (!mk) t.tr=[40,41]from by
    rw[ku (by omega) (by omega)];unfold vd;repeat (first|rw[gj (by omega)]|rw[f7 (by omega)])
    try rfl],M.bel⟩
 ·have bh':=f6 bh;refine sdc A qe bh λA=>?_;refine sda A λA=>?_;refine qcf ff A ?_;refine wsr fun _ fg=>?_;rcases tf ((t.d.k==2))with ai|ai
  ·have ai':=gr ai;refine sdc A qe ai λA=>?_;refine sda A λA=>?_;refine qct fg A ?_;refine wsk fun _ dg=>wsr fun _ br=>sdf A 1 vn λA=>?_;refine sdl A M o93 0 λA=>?_;rcases tf ((t.d.n==1))with aj|aj
   ·have aj':=gr aj;refine sdc A qe aj λA=>?_;refine qct br A ?_;refine wsr fun _ dh=>sda A λA=>?_;refine qr1 dh hret A ?_;exact⟨by
     rw[show wrT (!mk) t.tr=[35,116]from by
      rw[ku (by omega) (by omega)];unfold vd;repeat (first|rw[gj (by omega)]|rw[f7 (by omega)])
      try rfl],M.bel⟩
   ·have aj':=f6 aj;refine sdc A qe aj λA=>?_;refine qcf br A ?_;refine wp_skip (dg _ _ (wsr fun _ di=>sda A λA=>?_));refine qr1 di hret A ?_;exact⟨by
     rw[show wrT (!mk) t.tr=[35,102]from by
      rw[ku (by omega) (by omega)];unfold vd;repeat (first|rw[gj (by omega)]|rw[f7 (by omega)])
      try rfl],M.bel⟩
  ·have ai':=f6 ai;refine sdc A qe ai λA=>?_;refine sda A λA=>?_;refine qcf fg A ?_;refine wsr fun _ bw=>?_;rcases tf ((t.d.k==3))with ak|ak
   ·have ak':=gr ak;refine sdc A qe ak λA=>?_;refine sda A λA=>?_;refine qct bw A ?_;refine wsr fun _ dj=>sdf A 2 uq λA=>?_;refine sdo A (qz M jnc rfl 0 rfl (cs:=[bV t.d.y.q.b1,.slice t.d.y.o1 t.d.y.q.t1.length t.d.y.c1,.slice t.d.y.o2 t.d.y.q.q1.length t.d.y.c2,bV t.d.y.q.b2,.slice t.d.y.o3 t.d.y.q.t2.length t.d.y.c3,.slice t.d.y.o4 t.d.y.q.q2.length t.d.y.c4]) rfl rfl) λA=>?_;refine gcl A M ec ((jbb (y:=t.d.y) (Nu.below (Dt.okT ht).1.num M.bel) (Dt.okT ht).1.len ((jf gt).1.h3 (by omega)))) fun _ _ M a A=>?_;refine sdm A λA=>?_;iterate 2 refine sde A λA=>?_
    iterate 2 refine sda A λA=>?_
    refine qwr dj fun _ dk=>sdm A λA=>?_;refine sda A λA=>?_;refine qr1 dk hret A ?_;exact⟨by
     rw[show wrT (!mk) t.tr=jv 10 t.d.y.q from by
      rw[ku (by omega) (by omega)];unfold vd;repeat (first|rw[gj (by omega)]|rw[f7 (by omega)])
      try rfl],M.bel⟩
   ·have ak':=f6 ak;refine sdc A qe ak λA=>?_;refine sda A λA=>?_;refine qcf bw A ?_;refine wsr fun _ bz=>?_;rcases tf ((t.d.k==4))with am|am
    ·have am':=gr am;refine sdc A qe am λA=>?_;refine sda A λA=>?_;refine qct bz A ?_;refine wsk fun _ dn=>wsr fun _ dq=>sdm A λA=>?_;refine qa (dq _ _ ?_);refine wp_cond_split (t:=mk) (A.ev rfl) (fun bi=>?_) (fun bi=>?_)
     ·refine wsr fun _ dr=>sdf A 1 vn λA=>?_;refine sdl A M o93 0 λA=>?_;refine gcl A M ec ((show Calls Tryz.prog 109 #[iV t.d.n] _ _ from by rw[←Int.toNat_of_nonneg hn9.1]; exact jkh (jag ((jf gt).1.h4 (by omega)) hn9.1))) fun _ _ M a A=>?_;refine sda A λA=>?_;refine qr1 dr hret A ?_;exact⟨by
       rw[show wrT (!mk) t.tr=qad false ((t.d.n.toNat:Nat):Int)from by
        rw[Int.toNat_of_nonneg hn9.1];rw[ku (by omega) (by omega)];unfold vd;repeat (first|rw[gj (by omega)]|rw[f7 (by omega)])
        rw[bi];try rfl],M.bel⟩
     ·refine wp_skip (dn _ _ (wsr fun _ dt=>sdf A 1 vn λA=>?_));refine sdl A M o93 0 λA=>?_;refine sdo (v:=.int .i32 (((t.d.n.toNat:Nat):Int))) A (zk rfl (ar_conv i8 iz ((in_i32 (by omega) (by omega)).trans (by omega)))) λA=>?_;refine sdo (v:=.string (⟨(Lib.encodeRune ((t.d.n.toNat:Nat):Int)).toArray⟩)) A (zk rfl (qsg (n:=t.d.n.toNat) iz gi (jag ((jf gt).1.h4 (by omega)) hn9.1))) λA=>?_;refine sda A λA=>?_;refine qr1 dt hret A ?_;exact⟨by
       rw[show wrT (!mk) t.tr=Lib.encodeRune ((t.d.n.toNat:Nat):Int)from by
        rw[Int.toNat_of_nonneg hn9.1];rw[ku (by omega) (by omega)];unfold vd;repeat (first|rw[gj (by omega)]|rw[f7 (by omega)])
        rw[bi];try rfl],M.bel⟩
    ·have am':=f6 am;refine sdc A qe am λA=>?_;refine sda A λA=>?_;refine qcf bz A ?_;refine wsr fun _ cc=>?_;rcases tf ((t.d.k==5))with ap|ap
     ·have ap':=gr ap;refine sdc A qe ap λA=>?_;refine sda A λA=>?_;refine qct cc A ?_;refine wsk fun _ du=>wsr fun _ dv=>sdm A λA=>?_;refine qa (dv _ _ ?_);refine wp_cond_split (t:=mk) (A.ev rfl) (fun bj=>?_) (fun bj=>?_)
      ·refine wsr fun _ dw=>sdf A 8 vg λA=>?_;refine sdl A M o99 0 λA=>?_;refine gcl A M ec (jui (by omega)) fun _ _ M a A=>?_;refine sda A λA=>?_;refine qr1 dw hret A ?_;exact⟨by
        rw[show wrT (!mk) t.tr=qlc false t.d.s from by
         rw[ku (by omega) (by omega)];unfold vd;repeat (first|rw[gj (by omega)]|rw[f7 (by omega)])
         rw[bj];try rfl],M.bel⟩
      ·refine wp_skip (du _ _ (wsr fun _ dx=>sdf A 8 vg λA=>?_));refine sdl A M o99 0 λA=>?_;refine sda A λA=>?_;refine qr1 dx hret A ?_;exact⟨by
        rw[show wrT (!mk) t.tr=t.d.s.data.toList from by
         rw[ku (by omega) (by omega)];unfold vd;repeat (first|rw[gj (by omega)]|rw[f7 (by omega)])
         rw[bj];try rfl,qde],M.bel⟩
     ·have ap':=f6 ap;refine sdc A qe ap λA=>?_;refine sda A λA=>?_;refine qcf cc A ?_;refine wsr fun _ cd=>?_;rcases tf ((t.d.k==6))with aq|aq
      ·have aq':=gr aq;refine sdc A qe aq λA=>?_;refine sda A λA=>?_;refine qct cd A ?_;refine wsk fun _ dy=>wsr fun _ dz=>sdm A λA=>?_;refine qa (dz _ _ ?_);refine wp_cond_split (t:=mk) (A.ev rfl) (fun bn=>?_) (fun bn=>?_)
       ·refine wsr fun _ d5=>sdf A 8 vg λA=>?_;refine sdl A M o99 0 λA=>?_;refine gcl A M ec (jvb (by omega)) fun _ _ M a A=>?_;refine sda A λA=>?_;refine qr1 d5 hret A ?_;exact⟨by
         rw[show wrT (!mk) t.tr=qaj false t.d.s from by
          rw[ku (by omega) (by omega)];unfold vd;repeat (first|rw[gj (by omega)]|rw[f7 (by omega)])
          rw[bn];try rfl],M.bel⟩
       ·refine wp_skip (dy _ _ (wsr fun _ d6=>sdf A 8 vg λA=>?_));refine sdl A M o99 0 λA=>?_;refine sda A λA=>?_;refine qr1 d6 hret A ?_;exact⟨by
         rw[show wrT (!mk) t.tr=t.d.s.data.toList from by
          rw[ku (by omega) (by omega)];unfold vd;repeat (first|rw[gj (by omega)]|rw[f7 (by omega)])
          rw[bn];try rfl,qde],M.bel⟩
      ·have aq':=f6 aq;refine sdc A qe aq λA=>?_;refine sda A λA=>?_;refine qcf cd A ?_;refine wsr fun _ ce=>?_;rcases tf ((t.d.k==7))with ar|ar
       ·have ar':=gr ar;refine sdc A qe ar λA=>?_;refine sda A λA=>?_;refine qct ce A ?_;refine wsr fun _ d7=>sda A λA=>?_;refine qwk d7 fun _ d9=>wsr fun _ ed=>sda A λA=>?_;refine qa (ed _ _ (wp_block (zg (fun m_ a w1=>∃(i:Nat) (acc:List UInt8),m_=1+(t.d.rl.length-i)∧(i≤t.d.rl.length∧acc++quh (decide (i=0)) (t.d.rl.drop i)=quh true t.d.rl∧acc.length≤4*i)∧Sl a 156 [(0,.agg (t.d.cells t.ts.length).toArray),(1,bV mk),(2,pA g2 0),(4,.string (⟨#[]⟩)),(7,.string (⟨(acc).toArray⟩)),(8,iV (((i:Nat):Int))),(12,pA g2 0),(13,iV t.d.k),(14,bV false),(15,bV false),(16,bV false),(17,bV false),(21,bV false),(22,bV false),(30,bV false),(31,bV false),(40,bV false),(41,bV false),(48,bV false),(49,bV false),(56,bV true),(57,bV true)]∧Mg w w1 (.obj g2 (.cells (t.d.cells t.ts.length).toArray 30)::[])) _ ⟨0,[],rfl,⟨ii _,rfl,ii _⟩,A.keep _ (by repeat' constructor),M⟩ ?_)));clear M A;rintro m_ a _ ⟨i,acc,rfl,bp,A,M⟩ _ cg;obtain⟨_,bd,ha9⟩:=bp;refine wsk fun _ ee=>wsr fun _ ch=>sdm A λA=>?_;refine sdf A 9 qai λA=>?_;refine sdl A M quf 0 λA=>?_;refine sdo A (qr ib rfl) λA=>?_;rcases tf (decide (((i:Nat):Int)<((t.d.rl.length:Nat):Int)))with au|au
        ·have au':=f5 au;refine sdc A qy au λA=>?_;refine qct ch A ?_;refine wp_skip (ee _ _ (wsk fun _ ci=>wp_block (wsk fun _ cj=>wsr fun _ ck=>sdm A λA=>?_)));rcases tf (decide (0<((i:Nat):Int)))with av|av
         ·have av':=f5 av;refine sdc A jh av λA=>?_;refine qct ck A ?_;refine wrl (sdm A λA=>?_);refine sdo (v:=.string (⟨(acc++([32])).toArray⟩)) A (qb rfl rfl (ql (a:=acc) (b:=[32]) (by first|omega|(simp only[fv,fw,fx]; omega)))) λA=>?_;refine sda A λA=>?_;refine qa (cj _ _ (wrl (sdm A λA=>?_)));refine sdf A 9 qai λA=>?_;refine sdl A M quf 0 λA=>?_;refine sdm A λA=>?_;obtain⟨bx,ox,eg,eh,ei⟩:=qhf (i:=i) (Dt.okT ht).1.raw (by omega);have hX8:(t.d.rl.getD i 0).toNat<256:=UInt8.toNat_lt _;have hd3:=qpi ⟨(t.d.rl.getD i 0).toNat,hX8⟩;simp only at hd3;refine sdo (v:=pA bx (ox+i)) A (ja (k:=i) ib (by kernel_rfl) rfl rfl rfl eg (by omega)) λA=>?_;refine sdo A (qgh M eh (ei i (by omega)) o95 rfl) λA=>?_;refine sdo (v:=iV ((((t.d.rl.getD i 0).toNat:Nat):Int))) A (zk rfl (ar_conv ir i8 (in_i64 (by omega) (by omega)))) λA=>?_;refine gcl A M ec (C.rdec_any (t.d.rl.getD i 0).toNat (by omega) _) fun _ _ M a A=>?_;refine sdo (v:=.string (⟨((acc++([32]))++(C.decD (t.d.rl.getD i 0).toNat)).toArray⟩)) A (qb rfl rfl (ql (a:=acc++([32])) (b:=C.decD (t.d.rl.getD i 0).toNat) (by first|omega|(simp only[fv,fw,fx]; omega)))) λA=>?_;refine sda A λA=>?_;refine qa (ci _ _ (wrl (sdm A λA=>?_)));refine sdo (v:=iV (((i+1:Nat):Int))) A (qb rfl rfl (fun w=>(zq (jk (by omega) (by omega)) w).trans (by rw[show(((i:Nat):Int)+1:Int)=((i+1:Nat):Int)from by omega]))) λA=>?_;refine sda A λA=>?_;refine qa ?_;have hd9:decide (i=0)=false:=gn (by omega)
          refine cg _ _ _ (by omega) ⟨i+1,(acc++([32]))++(C.decD (t.d.rl.getD i 0).toNat),rfl,⟨by omega,by rw[←bd,hd9,show decide (i+1=0)=false from gn (by omega),qvj (f:=false) (i:=i) (by omega),f7 (show ¬false=true by decide)]; simp only[f4,f8],by simp only[fv,fw,fx]; omega⟩,A.keep _ (by repeat' constructor),M⟩
         ·have av':=fy av;refine sdc A jh av λA=>?_;refine qcf ck A ?_;refine wp_skip (cj _ _ (wrl (sdm A λA=>?_)));refine sdf A 9 qai λA=>?_;refine sdl A M quf 0 λA=>?_;refine sdm A λA=>?_;obtain⟨bx,ox,eg,eh,ei⟩:=qhf (i:=i) (Dt.okT ht).1.raw (by omega);have hX8:(t.d.rl.getD i 0).toNat<256:=UInt8.toNat_lt _;have hd3:=qpi ⟨(t.d.rl.getD i 0).toNat,hX8⟩;simp only at hd3;refine sdo (v:=pA bx (ox+i)) A (ja (k:=i) ib (by kernel_rfl) rfl rfl rfl eg (by omega)) λA=>?_;refine sdo A (qgh M eh (ei i (by omega)) o95 rfl) λA=>?_;refine sdo (v:=iV ((((t.d.rl.getD i 0).toNat:Nat):Int))) A (zk rfl (ar_conv ir i8 (in_i64 (by omega) (by omega)))) λA=>?_;refine gcl A M ec (C.rdec_any (t.d.rl.getD i 0).toNat (by omega) _) fun _ _ M a A=>?_;refine sdo (v:=.string (⟨(acc++(C.decD (t.d.rl.getD i 0).toNat)).toArray⟩)) A (qb rfl rfl (ql (a:=acc) (b:=C.decD (t.d.rl.getD i 0).toNat) (by first|omega|(simp only[fv,fw,fx]; omega)))) λA=>?_;refine sda A λA=>?_;refine qa (ci _ _ (wrl (sdm A λA=>?_)));refine sdo (v:=iV (((i+1:Nat):Int))) A (qb rfl rfl (fun w=>(zq (jk (by omega) (by omega)) w).trans (by rw[show(((i:Nat):Int)+1:Int)=((i+1:Nat):Int)from by omega]))) λA=>?_;refine sda A λA=>?_;refine qa ?_;have hd9:decide (i=0)=true:=gv (by omega);refine cg _ _ _ (by omega) ⟨i+1,acc++(C.decD (t.d.rl.getD i 0).toNat),rfl,⟨by omega,by rw[←bd,hd9,show decide (i+1=0)=false from gn (by omega),qvj (f:=true) (i:=i) (by omega),gj rfl]; simp only[f4,f8],by simp only[fv,fw,fx]; omega⟩,A.keep _ (by repeat' constructor),M⟩
        ·have au':=fy au;refine sdc A qy au λA=>?_;refine qcf ch A ?_;refine wp_exit (d9 _ _ (wsr fun _ eo=>sdm A λA=>?_));refine sdo (v:=.string (⟨(([35,118,117,56,40])++acc).toArray⟩)) A (qb rfl rfl (ql (a:=[35,118,117,56,40]) (b:=acc) (by first|omega|(simp only[fv,fw,fx]; omega)))) λA=>?_;refine sdo (v:=.string (⟨((([35,118,117,56,40])++acc)++([41])).toArray⟩)) A (qb rfl rfl (ql (a:=([35,118,117,56,40])++acc) (b:=[41]) (by first|omega|(simp only[fv,fw,fx]; omega)))) λA=>?_;refine sda A λA=>?_;refine qr1 eo hret A ?_;exact⟨by
          rw[show wrT (!mk) t.tr=(([35,118,117,56,40])++acc)++([41])from by
           rw[ztc (by omega),gh]at bd;rw[bd];rw[ku (by omega) (by omega)];unfold vd;repeat (first|rw[gj (by omega)]|rw[f7 (by omega)])
           try rfl],M.bel⟩
       ·have ar':=f6 ar;refine sdc A qe ar λA=>?_;refine sda A λA=>?_;refine qcf ce A ?_;refine wsr fun _ cl=>?_;rcases tf ((t.d.k==9))with aw|aw
        ·have aw':=gr aw;refine sdc A qe aw λA=>?_;refine sda A λA=>?_;refine qct cl A ?_;refine wsr fun _ ep=>sdf A 10 jz λA=>?_;refine sdl A M ke 0 λA=>?_;refine sdm A λA=>?_;refine sct A ec (zuc ih (ts:=t.ts) (mk:=mk) (xli (Dt.keep M.bel _ ht)) (fun c hc=>jub (Dt.keep M.bel _ ht) hc) (jf gt).2.2 (by have:=qqa (t:=t); omega) (by have:=qqa (t:=t); omega) (Dt.okT ht).2) ?_;rintro _ _ ⟨rfl,es⟩;have hwl:=zmj (!mk) true (t.ts.map Dt.tr) (fun x hx=>by obtain⟨c,hc,rfl⟩:=List.mem_map.1 hx; exact(qfi _ _ ((jf gt).2.2 c hc)).1);have hbl:=qqa (t:=t);replace M:=M.call es;refine⟨_,rfl,?_⟩;intro a A;refine sdo (v:=.string (⟨(([35,40])++(wrL (!mk) true (t.ts.map Dt.tr))).toArray⟩)) A (qb rfl rfl (ql (a:=[35,40]) (b:=wrL (!mk) true (t.ts.map Dt.tr)) (by first|omega|(simp only[fv,fw,fx]; omega)))) λA=>?_;refine sdo (v:=.string (⟨((([35,40])++(wrL (!mk) true (t.ts.map Dt.tr)))++([41])).toArray⟩)) A (qb rfl rfl (ql (a:=([35,40])++(wrL (!mk) true (t.ts.map Dt.tr))) (b:=[41]) (by first|omega|(simp only[fv,fw,fx]; omega)))) λA=>?_;refine sda A λA=>?_;refine qr1 ep hret A ?_;exact⟨by rw[qbc,f7 (by omega),gj (by omega)],M.bel⟩
        ·have aw':=f6 aw;refine sdc A qe aw λA=>?_;refine sda A λA=>?_;refine qcf cl A ?_;refine wsr fun _ cm=>?_;rcases tf ((t.d.k==10))with ax|ax
         ·have ax':=gr ax;refine sdc A qe ax λA=>?_;refine sda A λA=>?_;refine qct cm A ?_;refine wsr fun _ et=>sda A λA=>?_;refine qr1 et hret A ?_;exact⟨by
           rw[show wrT (!mk) t.tr=[35,60,118,111,105,100,62]from by
            rw[ku (by omega) (by omega)];unfold vd;repeat (first|rw[gj (by omega)]|rw[f7 (by omega)])
            try rfl],M.bel⟩
         ·have ax':=f6 ax;refine sdc A qe ax λA=>?_;refine sda A λA=>?_;refine qcf cm A ?_;refine wsr fun _ cn=>?_;rcases tf ((t.d.k==11))with ay|ay
          ·have ay':=gr ay;refine sdc A qe ay λA=>?_;refine sda A λA=>?_;refine qct cn A ?_;refine wsr fun _ eu=>sdf A 8 vg λA=>?_;refine sdl A M o99 0 λA=>?_;refine sdo (v:=.string (⟨(([35,60])++t.d.s.data.toList).toArray⟩)) A (qb rfl rfl (zua (a:=[35,60]) (s:=t.d.s) (by first|omega|(simp only[fv,fw,fx]; omega)))) λA=>?_;refine sdo (v:=.string (⟨((([35,60])++t.d.s.data.toList)++([62])).toArray⟩)) A (qb rfl rfl (ql (a:=([35,60])++t.d.s.data.toList) (b:=[62]) (by first|omega|(simp only[fv,fw,fx]; omega)))) λA=>?_;refine sda A λA=>?_;refine qr1 eu hret A ?_;exact⟨by
            rw[show wrT (!mk) t.tr=(([35,60])++t.d.s.data.toList)++([62])from by
             rw[ku (by omega) (by omega)];unfold vd;repeat (first|rw[gj (by omega)]|rw[f7 (by omega)])
             try rfl],M.bel⟩
          ·have ay':=f6 ay;refine sdc A qe ay λA=>?_;refine sda A λA=>?_;refine qcf cn A ?_;refine wp_skip (fk _ _ (wsk fun _ ew=>?_));have h8:t.d.k=8:=(by omega);have l2t:=(jf gt).1.h8 h8;obtain⟨q0,bq0,oq0,iq0,mq0,rq0_,lq0,Hq0⟩:=qeh ht (i:=0) (by omega);obtain⟨q1,bq1,oq1,iq1,mq1,rq1_,lq1,Hq1⟩:=qeh ht (i:=1) (by omega);refine wrl (jr (e:=30) (sz:=11) (m:=0) (vs:=[]) A M rfl rfl rfl (qg rfl (by kernel_rfl)) rfl rfl (.inl (by decide)) ?_);intro g81 _ M a A;refine sda A λA=>?_;refine qa (ew _ _ (wsr fun _ ez=>sdo A (qz M zv rfl 1 rfl (cs:=[iV t.d.k,iV t.d.n,bV t.d.y.q.b1,.slice t.d.y.o1 t.d.y.q.t1.length t.d.y.c1,.slice t.d.y.o2 t.d.y.q.q1.length t.d.y.c2,bV t.d.y.q.b2,.slice t.d.y.o3 t.d.y.q.t2.length t.d.y.c3,.slice t.d.y.o4 t.d.y.q.q2.length t.d.y.c4,.string t.d.s,.slice t.d.ro t.d.rl.length t.d.rc,.slice t.d.lo t.ts.length t.d.lc]) rfl rfl) λA=>?_));refine zj (vs:=zD) (t:=30) A M rfl rfl rfl pg (qm (z:=.agg zD.toArray) (by kernel_rfl) rfl) (by decide) ?_;intro g84 _ M a A;refine qt A M rfl rfl (qj rfl rfl rfl (by kernel_rfl) M 0 rfl rfl rfl) 0 rfl rfl rfl ?_;intro fq M;refine qwk ez fun _ e6=>wp_block ?_;replace M:Mg w fq (.obj g84 (.cells (t.d.cells t.ts.length).toArray 30)::.row 30 11 (.slice (aO g81) 0 0) 0 ([])::[]):=by
            have h9:=M.sub (cC (cC (cN (.refl _))));exact h9
           refine zg (fun m_ a w1=>∃(us:List Dt) (p:Dt) (so:Option Addr) (ca:Nat),m_=1+p.tr.bulk∧(SpU w (!mk) t q0 q1 us p)∧Sl a 156 [(0,.agg (t.d.cells t.ts.length).toArray),(1,bV mk),(2,pA g2 0),(4,.string (⟨#[]⟩)),(9,.slice so us.length ca),(10,pA g84 0),(12,pA g2 0),(13,iV t.d.k),(14,bV false),(15,bV false),(16,bV false),(17,bV false),(21,bV false),(22,bV false),(30,bV false),(31,bV false),(40,bV false),(41,bV false),(48,bV false),(49,bV false),(56,bV false),(57,bV false),(81,bV false),(82,bV false),(89,bV false),(90,bV false),(91,bV false),(92,bV false),(97,.slice (aO g81) 0 0),(98,.agg (t.d.cells t.ts.length).toArray)]∧Mg w w1 (.obj g84 (.cells (p.d.cells p.ts.length).toArray 30)::.row 30 11 (.slice so us.length ca) us.length ((dtC us))::[])) _ ⟨[],t,some ⟨g81,0,none⟩,0,rfl,(.start ht gt),A.keep _ (by repeat' constructor),M⟩ ?_;clear M A;rintro m_ a _ ⟨us,p,so,ca,rfl,bq,A,M⟩ _ e7;have S:=bq;have hbk:=S.bk;have hpb:=zca (t:=p);refine wsk fun _ fa=>wsr fun _ co=>sdf A 0 xk λA=>?_;refine sdl A M o93 0 λA=>?_;rcases tf ((p.d.k==8))with aa|aa
           ·have aa':=gr aa;refine sdc A qe aa λA=>?_;refine qct co A ?_;refine wp_skip (fa _ _ (wp_block (wsk fun _ fd=>?_)));have l2p:=(jf S.gd).1.h8 aa';obtain⟨p0,bp0,op0,ip0,mp0,rp0_,lp0,Hp0⟩:=qeh S.rd (i:=0) (by omega);obtain⟨p1,bp1,op1,ip1,mp1,rp1_,lp1,Hp1⟩:=qeh S.rd (i:=1) (by omega);have hbp:=qki l2p ip0 ip1;refine wrl (sdm A λA=>?_);refine sdf A 10 jz λA=>?_;refine sdl A M ke 0 λA=>?_;refine sdo (v:=pA bp0 (op0+0*11)) A (qk (k:=0) f9 (by kernel_rfl) rfl rfl rfl lp0 (by omega)) λA=>?_;refine sdo A (zp M Hp0 zv rfl rfl) λA=>?_;refine jr (e:=30) (sz:=11) (m:=1) (vs:=[iV p0.d.k,iV p0.d.n,bV p0.d.y.q.b1,.slice p0.d.y.o1 p0.d.y.q.t1.length p0.d.y.c1,.slice p0.d.y.o2 p0.d.y.q.q1.length p0.d.y.c2,bV p0.d.y.q.b2,.slice p0.d.y.o3 p0.d.y.q.t2.length p0.d.y.c3,.slice p0.d.y.o4 p0.d.y.q.q2.length p0.d.y.c4,.string p0.d.s,.slice p0.d.ro p0.d.rl.length p0.d.rc,.slice p0.d.lo p0.ts.length p0.d.lc]) A M rfl rfl rfl (qg rfl (by kernel_rfl)) rfl rfl (.inl (by decide)) ?_;intro g95 _ M a A;refine xd (e:=30) (sz:=11) (k:=2) (q:=us.length) (m:=1) (xs:=(dtC us)) (news:=[iV p0.d.k,iV p0.d.n,bV p0.d.y.q.b1,.slice p0.d.y.o1 p0.d.y.q.t1.length p0.d.y.c1,.slice p0.d.y.o2 p0.d.y.q.q1.length p0.d.y.c2,bV p0.d.y.q.b2,.slice p0.d.y.o3 p0.d.y.q.t2.length p0.d.y.c3,.slice p0.d.y.o4 p0.d.y.q.q2.length p0.d.y.c4,.string p0.d.s,.slice p0.d.ro p0.d.rl.length p0.d.rc,.slice p0.d.lo p0.ts.length p0.d.lc]) A rfl rfl rfl (qjj (z:=.agg #[iV 0,iV 0,bV false,.slice none 0 0,.slice none 0 0,bV false,.slice none 0 0,.slice none 0 0,.string ⟨#[]⟩,.slice none 0 0,.slice none 0 0]) (sz:=11) (by_:=192) f9 (by kernel_rfl) rfl rfl rfl M 2 rfl rfl 0 rfl rfl rfl rfl (by omega)) (fun _=>rfl) ?_;intro ft _ M a A;refine sda A λA=>?_;refine qa (fd _ _ (wrl (sdf A 10 jz λA=>?_)));refine sdl A M ke 1 λA=>?_
            refine sdo (v:=pA bp1 (op1+1*11)) A (qk (k:=1) f9 (by kernel_rfl) rfl rfl rfl lp1 (by omega)) λA=>?_;refine sdo A (zp M Hp1 zv rfl rfl) λA=>?_;refine qt A M rfl rfl (qj rfl rfl rfl (by kernel_rfl) M 1 rfl rfl rfl) 1 rfl rfl rfl ?_;intro fu M;refine qa ?_;replace M:Mg w fu (.obj g84 (.cells (p1.d.cells p1.ts.length).toArray 30)::.row 30 11 (ft) ((us++[p0]).length) ((dtC (us++[p0])))::[]):=by
             have h9:=M.sub (cN (cC (cC (.refl _))));rw[jvc,fv];exact h9
            obtain⟨cp,cq,rfl⟩:=qjc (M.has 1 rfl);refine e7 _ _ _ (by omega) ⟨us++[p0],p1,cp,cq,rfl,(S.go iq0 iq1 aa' l2p ip0 ip1 rp0_ rp1_ ((jf S.gd).2.2 _ mp0) ((jf S.gd).2.2 _ mp1)),A.keep _ (by repeat' constructor),M⟩
           ·have aa':=f6 aa;refine sdc A qe aa λA=>?_;refine qcf co A ?_;refine wp_exit (e6 _ _ (wsk fun fe cr=>?_));have az:∀a w1,(((isQ q0.tr&&qtT q1.tr)=false)∧Sl a 156 [(0,.agg (t.d.cells t.ts.length).toArray),(1,bV mk),(2,pA g2 0),(9,.slice so us.length ca),(10,pA g84 0),(12,pA g2 0),(13,iV t.d.k),(14,bV false),(15,bV false),(16,bV false),(17,bV false),(21,bV false),(22,bV false),(30,bV false),(31,bV false),(40,bV false),(41,bV false),(48,bV false),(49,bV false),(56,bV false),(57,bV false),(81,bV false),(82,bV false),(89,bV false),(90,bV false),(91,bV false),(92,bV false),(97,.slice (aO g81) 0 0),(98,.agg (t.d.cells t.ts.length).toArray),(99,pA g84 0),(100,iV p.d.k),(101,bV false)]∧Mg w w1 (.obj g84 (.cells (p.d.cells p.ts.length).toArray 30)::.row 30 11 (.slice so us.length ca) us.length ((dtC us))::[]))→fe a w1:=by
             clear A M;rintro a _ ⟨cw,A,M⟩;have fh:=cw;refine cr _ _ (wsk fun _ cx=>?_);have hu0:us.length≠0:=fun e=>aa' (by rw[S.z e]; exact h8);refine wrl ?_;iterate 2 refine sdm A λA=>?_
             refine sct A ec (zuc ih (ts:=us) (mk:=mk) (xjc M 1 rfl rfl) (fun c hc=>Dt.keep M.bel _ (S.ur c hc)) S.ug (by omega) (by omega) (by omega)) ?_;rintro _ _ ⟨rfl,cy⟩;have hwl:=zmj (!mk) true (us.map Dt.tr) (fun x hx=>by obtain⟨c,hc,rfl⟩:=List.mem_map.1 hx; exact(qfi _ _ (S.ug c hc)).1);replace M:=M.call cy;refine⟨_,rfl,?_⟩;intro a A;refine sdo (v:=.string (⟨(([40])++(wrL (!mk) true (us.map Dt.tr))).toArray⟩)) A (qb rfl rfl (ql (a:=[40]) (b:=wrL (!mk) true (us.map Dt.tr)) (by first|omega|(simp only[fv,fw,fx]; omega)))) λA=>?_;refine sda A λA=>?_;refine qa (cx _ _ (wsk fun _ bf=>wsr fun _ bg=>sdf A 0 xk λA=>?_));refine sdl A M o93 0 λA=>?_;rcases tf ((p.d.k != 1))with af|af
             ·have af':=iy.1 af;refine sdc A zh af λA=>?_;refine qct bg A ?_;refine wrl (sdm A λA=>?_);refine sdo A (qz M zv rfl 0 rfl (cs:=[iV p.d.k,iV p.d.n,bV p.d.y.q.b1,.slice p.d.y.o1 p.d.y.q.t1.length p.d.y.c1,.slice p.d.y.o2 p.d.y.q.q1.length p.d.y.c2,bV p.d.y.q.b2,.slice p.d.y.o3 p.d.y.q.t2.length p.d.y.c3,.slice p.d.y.o4 p.d.y.q.q2.length p.d.y.c4,.string p.d.s,.slice p.d.ro p.d.rl.length p.d.rc,.slice p.d.lo p.ts.length p.d.lc]) rfl rfl) λA=>?_;refine sdm A λA=>?_;refine sct A ec (ih (t:=p) (mk:=mk) (by omega) (Dt.keep M.bel _ S.rd) S.gd (by omega)) ?_;rintro _ _ ⟨rfl,cz⟩;have hwrp:=(qfi (!mk) p.tr S.gd).1;replace M:=M.call cz;refine⟨_,rfl,?_⟩;intro a A;refine sdo (v:=.string (⟨(([32,46,32])++(wrT (!mk) p.tr)).toArray⟩)) A (qb rfl rfl (ql (a:=[32,46,32]) (b:=wrT (!mk) p.tr) (by first|omega|(simp only[fv,fw,fx]; omega)))) λA=>?_;refine sdo (v:=.string (⟨((([40])++(wrL (!mk) true (us.map Dt.tr)))++(([32,46,32])++(wrT (!mk) p.tr))).toArray⟩)) A (qb rfl rfl (ql (a:=([40])++(wrL (!mk) true (us.map Dt.tr))) (b:=([32,46,32])++(wrT (!mk) p.tr)) (by first|omega|(simp only[fv,fw,fx]; omega)))) λA=>?_;refine sda A λA=>?_;refine qwr bf fun _ db=>sdm A λA=>?_;refine sdo (v:=.string (⟨(((([40])++(wrL (!mk) true (us.map Dt.tr)))++(([32,46,32])++(wrT (!mk) p.tr)))++([41])).toArray⟩)) A (qb rfl rfl (ql (a:=(([40])++(wrL (!mk) true (us.map Dt.tr)))++(([32,46,32])++(wrT (!mk) p.tr))) (b:=[41]) (by first|omega|(simp only[fv,fw,fx]; omega)))) λA=>?_;refine sda A λA=>?_;refine qr1 db hret A ?_;exact⟨by rw[show wrT (!mk) t.tr=((([40])++(wrL (!mk) true (us.map Dt.tr)))++(([32,46,32])++(wrT (!mk) p.tr)))++([41])from by
               rw[S.list h8 l2t iq0 iq1 aa' fh,jtg aa' (by omega)];simp only[f4,gh,gq,f8]],M.bel⟩
             ·have af':=ie.1 af;refine sdc A zh af λA=>?_;refine qcf bg A ?_;refine wp_skip (bf _ _ (wsr fun _ dd=>sdm A λA=>?_));refine sdo (v:=.string (⟨((([40])++(wrL (!mk) true (us.map Dt.tr)))++([41])).toArray⟩)) A (qb rfl rfl (ql (a:=([40])++(wrL (!mk) true (us.map Dt.tr))) (b:=[41]) (by first|omega|(simp only[fv,fw,fx]; omega)))) λA=>?_;refine sda A λA=>?_;refine qr1 dd hret A ?_;exact⟨by rw[show wrT (!mk) t.tr=(([40])++(wrL (!mk) true (us.map Dt.tr)))++([41])from by
               rw[S.list h8 l2t iq0 iq1 aa' fh,jtf (by omega)];simp only[f4,gh,gq,f8]],M.bel⟩
            refine wsk fun _ ah=>?_;have hu0:us.length≠0:=fun e=>aa' (by rw[S.z e]; exact h8);refine wrl (sdm A λA=>?_);refine sdo A (qr f9 rfl) λA=>?_;rcases tf ((((us.length:Nat):Int)==2))with ag|ag
            ·have ag':=gr ag;refine sdc A qe ag λA=>?_;refine sdm A λA=>?_;refine sdf A 0 xk λA=>?_;refine sdl A M o93 0 λA=>?_;rcases tf ((p.d.k==1))with ab|ab
             ·have ab':=gr ab;refine sdc A qe ab λA=>?_;refine sdk (v:=bV true) A λA=>?_;iterate 2 refine sdm A λA=>?_
              obtain⟨gu,hgu⟩:=qpg M 1 rfl (by omega);obtain⟨c0,hu2,_,hts2⟩:=S.o2 (by omega);refine sdo (v:=pA gu (0*11)) A (jn (k:=0) f9 (by kernel_rfl) rfl rfl rfl hgu (show 0<us.length by omega)) λA=>?_;refine sdo (v:=pA gu (0*11+0)) A (qp xk rfl rfl) λA=>?_;refine sdo A (vv (j:=0*11+0) M 1 rfl hgu (by rw[hu2]; rfl) o93 rfl) λA=>?_;rcases tf ((q0.d.k==6))with ac|ac
              ·have ac':=gr ac;refine sdc A qe ac λA=>?_;refine sdk (v:=bV true) A λA=>?_;iterate 2 refine sdm A λA=>?_
               refine sdo (v:=pA gu (0*11)) A (jn (k:=0) f9 (by kernel_rfl) rfl rfl rfl hgu (show 0<us.length by omega)) λA=>?_;refine sdo (v:=pA gu (0*11+8)) A (qp vg rfl rfl) λA=>?_;refine sdo A (vv (j:=0*11+8) M 1 rfl hgu (by rw[hu2]; rfl) o99 rfl) λA=>?_;rcases tf (decide (q0.d.s=⟨#[113,117,111,116,101]⟩))with ae|ae
               ·have ae':=f5 ae;refine sdo (v:=bV true) A (qb rfl rfl (fun w=>(je gi w).trans (by rw[ae]<;>rfl))) λA=>?_;refine sdk (v:=bV true) A λA=>?_;refine qct ah A ?_;refine wsr fun _ de=>sdm A λA=>?_;refine sdo (v:=pA gu (1*11)) A (jn (k:=1) f9 (by kernel_rfl) rfl rfl rfl hgu (show 1<us.length by omega)) λA=>?_;refine sdo A (jqf (o:=1*11) M 1 rfl hgu zv (by rw[hu2]) rfl rfl) λA=>?_;refine sdm A λA=>?_;refine sct A ec (ih (t:=c0) (mk:=mk) (by have:=qga (hu2▸ix _ iw:c0∈us); omega) (Dt.keep M.bel _ (S.ur c0 (hu2▸ix _ iw))) (S.ug c0 (hu2▸ix _ iw)) (by have:=qga (hu2▸ix _ iw:c0∈us); omega)) ?_;rintro _ _ ⟨rfl,df⟩;have hwrc0:=(qfi (!mk) c0.tr (S.ug c0 (hu2▸ix _ iw))).1;have hbc0:=qga (hu2▸ix _ iw:c0∈us);replace M:=M.call df;refine⟨_,rfl,?_⟩;intro a A;refine sdo (v:=.string (⟨(([39])++(wrT (!mk) c0.tr)).toArray⟩)) A (qb rfl rfl (ql (a:=[39]) (b:=wrT (!mk) c0.tr) (by first|omega|(simp only[fv,fw,fx]; omega)))) λA=>?_;refine sda A λA=>?_;refine qr1 de hret A ?_;exact⟨by rw[S.quote h8 l2t iq0 iq1 hu2 ab' (by rw[qsf,gv ac',gv ae']; rfl)],M.bel⟩
               ·have ae':=fy ae;refine sdo (v:=bV false) A (qb rfl rfl (fun w=>(je gi w).trans (by rw[ae]<;>rfl))) λA=>?_;refine sdk (v:=bV false) A λA=>?_;refine qcf ah A ?_;refine wp_skip ?_;exact az _ _ ⟨(S.no h8 aa' (.inr (.inr (by rw[qsf,gn ae',Bool.and_false])))),A.keep _ (by repeat' constructor),M⟩
              ·have ac':=f6 ac;refine sdc A qe ac λA=>?_;refine sdk (v:=bV false) A λA=>?_;refine sdm A λA=>?_;iterate 5 refine sks A λA=>?_
               refine sdk (v:=bV false) A λA=>?_;refine qcf ah A ?_;refine wp_skip ?_;exact az _ _ ⟨(S.no h8 aa' (.inr (.inr (by rw[qsf,gn ac',Bool.false_and])))),A.keep _ (by repeat' constructor),M⟩
             ·have ab':=f6 ab;refine sdc A qe ab λA=>?_;refine sdk (v:=bV false) A λA=>?_;refine sdm A λA=>?_;iterate 5 refine sks A λA=>?_
              refine sdk (v:=bV false) A λA=>?_;refine sdm A λA=>?_;iterate 5 refine sks A λA=>?_
              refine sdk (v:=bV false) A λA=>?_;refine qcf ah A ?_;refine wp_skip ?_;exact az _ _ ⟨(S.no h8 aa' (.inr (.inl ab'))),A.keep _ (by repeat' constructor),M⟩
            ·have ag':=f6 ag;refine sdc A qe ag λA=>?_;refine sdm A λA=>?_;iterate 3 refine sks A λA=>?_
             refine sdk (v:=bV false) A λA=>?_;refine sdm A λA=>?_;iterate 5 refine sks A λA=>?_
             refine sdk (v:=bV false) A λA=>?_;refine sdm A λA=>?_;iterate 5 refine sks A λA=>?_
             refine sdk (v:=bV false) A λA=>?_;refine qcf ah A ?_;refine wp_skip ?_;exact az _ _ ⟨(S.no h8 aa' (.inl (by omega))),A.keep _ (by repeat' constructor),M⟩
theorem zhg: ∀n,Tells n
 | 0 => fun h => absurd h (j4 _)
 | n + 1 => jbc (zhg n)
theorem zhh{w:World}{t:Dt}(ht:t.rd w)(hmax:t.tr.bulk≤1048576)(mk:Bool):Calls Tryz.prog 43 #[.agg (t.d.cells t.ts.length).toArray,bV mk] w (RB w (.tuple #[.string ⟨(wrA (!mk) t.tr).1.toArray⟩,iV (wrA (!mk) t.tr).2])):=by
 have M:=Mg.start w;refine wof Tryz.func43 Tryz.ntmps43 fun Q hret hnorm hP a A=>?_;refine wsr fun _ ae=>zj (vs:=[iV t.d.k,iV t.d.n,bV t.d.y.q.b1,.slice t.d.y.o1 t.d.y.q.t1.length t.d.y.c1,.slice t.d.y.o2 t.d.y.q.q1.length t.d.y.c2,bV t.d.y.q.b2,.slice t.d.y.o3 t.d.y.q.t2.length t.d.y.c3,.slice t.d.y.o4 t.d.y.q.q2.length t.d.y.c4,.string t.d.s,.slice t.d.ro t.d.rl.length t.d.rc,.slice t.d.lo t.ts.length t.d.lc]) (t:=30) A M rfl rfl rfl pg (qx rfl rfl) (by decide) ?_;intro g2 _ M a A;iterate 2 refine sda A λA=>?_
 refine qa (ae _ _ (wsk fun K4 af=>wsr fun _ ac=>sdo A (qz M zv rfl 0 rfl (cs:=[iV t.d.k,iV t.d.n,bV t.d.y.q.b1,.slice t.d.y.o1 t.d.y.q.t1.length t.d.y.c1,.slice t.d.y.o2 t.d.y.q.q1.length t.d.y.c2,bV t.d.y.q.b2,.slice t.d.y.o3 t.d.y.q.t2.length t.d.y.c3,.slice t.d.y.o4 t.d.y.q.q2.length t.d.y.c4,.string t.d.s,.slice t.d.ro t.d.rl.length t.d.rc,.slice t.d.lo t.ts.length t.d.lc]) rfl rfl) λA=>?_));rcases tf (qs qh t.tr)with aa|aa
 ·refine gcl A M ec ((aa▸rsound_any (t:=t) (Dt.keep M.bel _ ht) (by omega))) fun _ _ M a A=>?_;refine sdu A λA=>?_;refine qcf ac A ?_;refine wp_skip (af _ _ (wsr fun _ ag=>sdo A (qz M zv rfl 0 rfl (cs:=[iV t.d.k,iV t.d.n,bV t.d.y.q.b1,.slice t.d.y.o1 t.d.y.q.t1.length t.d.y.c1,.slice t.d.y.o2 t.d.y.q.q1.length t.d.y.c2,bV t.d.y.q.b2,.slice t.d.y.o3 t.d.y.q.t2.length t.d.y.c3,.slice t.d.y.o4 t.d.y.q.q2.length t.d.y.c4,.string t.d.s,.slice t.d.ro t.d.rl.length t.d.rc,.slice t.d.lo t.ts.length t.d.lc]) rfl rfl) λA=>?_));refine sdm A λA=>?_;refine gcl A M ec (zhg (t.tr.bulk+1) (mk:=mk) (Nat.lt_succ_self _) (Dt.keep M.bel _ ht) (qvc ht aa) hmax) fun _ _ M a A=>?_;iterate 2 refine sda A λA=>?_
  refine qa (ag _ _ (wp_ret (hret _ _ (en2 A rfl (qf rfl) (qf rfl) ?_))));exact⟨by rw[qjg aa]<;>rfl,M.bel⟩
 ·refine gcl A M ec ((aa▸rsound_any (t:=t) (Dt.keep M.bel _ ht) (by omega))) fun _ _ M a A=>?_;refine sdu A λA=>?_;refine qct ac A ?_;refine wsr fun _ ab=>?_;iterate 2 refine sda A λA=>?_
  refine qa (ab _ _ (wp_ret (hret _ _ (en2 A rfl (qf rfl) (qf rfl) ?_))));exact⟨by rw[jue aa]<;>rfl,M.bel⟩
theorem jbd{ts:List Tr}(h:∀t∈ts,∀d e:Int,d≤e→qac e t=true→qac d t=true){d e:Int}(hd:d≤e)(pr:Bool):∀i,qii e pr i ts=true→qii d pr i ts=true:=by
 induction ts with
 | nil => intro i _; rfl
 | cons t ts ih =>
  intro i h2;rw[qii,ig]at h2 ⊢;refine⟨h t (iw ..) _ _ ?_ h2.1,ih (fun u hu=>h u (ix _ hu)) (i+1) h2.2⟩
  split<;>omega
theorem zud{x:Tr}:∀{xs:List Tr},x∈xs→qda x≤kf xs
 | y :: ys, h => by
  rw[kf];rcases ik.1 h with rfl|h
  ·omega
  ·have:=zud h; omega
theorem jkj: ∀t:Tr,∀d e:Int,d≤e→qac e t=true→qac d t=true:=by
 refine Tr.indT fun k n q s rl ts ih d e hd h=>?_;rw[qac,ig]at h ⊢;exact⟨gv (by have:=f5 h.1; omega),jbd ih hd _ _ h.2⟩
theorem zcf{t:Tr}{xs:List Tr}(h:js t=some xs)(hs:qs qh t=true):∀x∈xs,qs qh x=true:=fun x hx=>by
 rw[qif h,qme]at hs;have:=zud hx;exact(qzf x).2 ⟨jkj x 1 2 (by decide) (j3.1 hs.1.1 x hx),by have:=hs.2.1; omega,j3.1 hs.2.2.1 x hx⟩
theorem zcg{ks:List (Int×List Tr)}{t:Int}{d:Tr}(h:flT ks t=some d):∃k∈ks,yn k.1 t=true∧d∈k.2∧k.2[0]?=some d:=by
 unfold flT at h
 split at h
 ·rename_i h0;unfold fdI at h h0;obtain⟨k,h1,h2⟩:=jmg h0;rw[h1]at h;have h3:k.2[0]?=some d:=h;exact⟨k,List.mem_of_getElem? h1,h2,List.mem_of_getElem? h3,h3⟩
 ·cases h
theorem zch{ks:List (Int×List Tr)}(hck:ckC ks=0){t:Int}{d:Tr}(h:flT ks t=some d):qs qh d=true:=by
 obtain⟨k,hk,-,hd,-⟩:=zcg h;exact j3.1 (zka ((zjj hck).2 k hk)).2.2 d hd
theorem itm{t x:Tr}(h:x∈(qfc t).1):∃xs,js t=some xs∧qs qh t=true∧x∈xs∧(qfc t).1=xs:=by
 by_cases hs:qs qh t=true
 ·cases ha:js t with
  | none => rw [qmf hs ha] at h; cases h
  | some xs => rw [qhb hs ha] at h ⊢; exact ⟨xs, rfl, hs, h, rfl⟩
 ·rw[qrb (by simpa using hs)]at h; cases h
theorem qsj{ks:List (Int×List Tr)}{x:Tr}(h:x∈irT ks):∃t xs,flT ks 7=some t∧js t=some xs∧qs qh t=true∧x∈xs∧irT ks=xs:=by
 cases hf:flT ks 7 with
 | none => unfold irT at h; rw [hf] at h; cases h
 | some t =>
  have e:irT ks=(qfc t).1:=by unfold irT; rw[hf]
  rw[e]at h;obtain⟨xs,h1,h2,h3,h4⟩:=itm h;exact⟨t,xs,rfl,h1,h2,h3,e.trans h4⟩
theorem zci: ∀{xs:List Tr} {l:Tr},(zy xs l).good→∀x∈xs,x.good
 | [], _, _, x, hx => by cases hx
 | y :: ys, l, h, x, hx => by
  have h9:=(qvb.1 (show(Tr.mk 8 0 Q6.zero ⟨#[]⟩ [] [y,zy ys l]).good from h)).2.2;rcases ik.1 hx with rfl|hx
  ·exact h9 _ (iw ..)
  ·exact zci (h9 (zy ys l) (by simp)) x hx
theorem jfd{w:World}{so:Option Addr}{ps:List Sp}(hPs:PR w so ps)(hck:ckC (ps.map Sp.k)=0){t:Int}{d:Tr}(h:flT (ps.map Sp.k) t=some d):d.good:=by
 obtain⟨k,hk,-,hd,-⟩:=zcg h;obtain⟨p,hp,rfl⟩:=List.mem_map.1 hk;obtain⟨u,hu,rfl⟩:=List.mem_map.1 (show d∈p.vs.map Dt.tr from hd);exact qvc ((hPs.own p hp).d u hu) (zch hck h)
theorem xei{g:Tr→List UInt8}:∀l:List Tr,(∀x∈l,(g x).length+16≤64*x.bulk)→(l.flatMap fun t=>[32]++g t).length≤64*Tr.bulks l
 | [], _ => ii _
 | x :: xs, h => by
  have h1:=h x (iw ..);have h2:=xei xs fun y hy=>h y (ix _ hy);rw[ij,fv,show Tr.bulks (x::xs)=x.bulk+Tr.bulks xs from rfl,fv];simp only[fw,fx];omega
def SmallC(ks:List (Int×List Tr)):Prop:=(∀t,(flT ks 8=some t∨flT ks 1=some t)→t.bulk≤1048576)∧(∀x∈irT ks,x.bulk≤1048576)∧Tr.bulks (irT ks)≤3000000
theorem zue{w:World}{so:Option Addr}{ps:List Sp}(hPs:PR w so ps)(hck:ckC (ps.map Sp.k)=0)(hW:SmallC (ps.map Sp.k)):(tlS (wrT true) (wrT false) (ps.map Sp.k)).length≤1000000000:=by
 have h0:(nmL (hdT (ps.map Sp.k))).length≤100:=by unfold nmL; rw[zm]; exact qpd (zgd hck)
 have key:∀(t:Int) (l:List UInt8),l.length≤4→(t=8∨t=1)→(opT (flT (ps.map Sp.k) t) fun t=>l++wrT true t).length≤100000000:=fun t l hl ht=>by
  cases hf:flT (ps.map Sp.k) t with
  | none => exact ii _
  | some d =>
   have h1:=(qfi true d (jfd hPs hck hf)).1;have h2:=hW.1 d (by rcases ht with rfl|rfl; exact .inl hf; exact .inr hf);show(l++wrT true d).length≤_;rw[fv];omega
 have h8:=key 8 [32,105,110,32] (by decide) (.inl rfl);have h1:=key 1 [58,32] (by decide) (.inr rfl);have h7:=xei (g:=wrT false) (irT (ps.map Sp.k)) (fun x hx=>by
  obtain⟨t,xs,hf,ha,hs,aa,-⟩:=qsj hx;exact(qfi false x (zci (by rw[←qif ha]; exact jfd hPs hck hf) x aa)).1)
 have h9:=hW.2.2;unfold tlS;rw[fv,fv,fv];omega
noncomputable def tlA(ks:List (Int×List Tr)):ByteArray×Int:=if ckC ks=0 then(⟨(tlS (wrT true) (wrT false) ks).toArray⟩,0)else(⟨#[]⟩,ckC ks)
section
variable {w:World} {so:Option Addr} {ca:Nat} {ps:List Sp}
theorem zhi(hPs:PR w so ps)(hl:ps.length≤1000000000)(hB:∀p∈ps,Tr.bulks (p.vs.map Dt.tr)≤3000000)(hW:SmallC (ps.map Sp.k))(hT:Tabs8 w)(hz:C.Tz16 w)(htp:C.Tp10 w):Calls Tryz.prog 7 #[.slice so ps.length ca] w (RB w (.tuple #[.string (tlA (ps.map Sp.k)).1,iV (tlA (ps.map Sp.k)).2])):=by
 have hPB:PB ps:=fun p hp=>gz (hB p hp) (by decide);by_cases hck:ckC (ps.map Sp.k)=0
 ·have:=jee (ca:=ca) hPs hl hck hPB hT (f:=wrT true) (g:=wrT false) (fun d w1 hd hm hor hbw=>by
   have h9:=quc (t:=d) (Dt.keep hbw _ hd) (hT.below hbw) (vq hz hbw) (htp.below hbw) (hW.1 _ hor);rw[qjg (hor.elim (zch hck) (zch hck))]at h9;exact h9) (fun d w1 hd hm hbw=>by
   have h9:=jkd (t:=d) hd (hT.below hbw) (vq hz hbw) (htp.below hbw) (hW.2.1 _ hm);obtain⟨t,xs,hf,ha,hs,aa,-⟩:=qsj hm;rw[qjg (zcf ha hs _ aa)]at h9;exact h9) (zue hPs hck hW)
  unfold tlA;rw[gj hck];exact this
 ·have:=joi (ca:=ca) hPs hl hck hPB hT;unfold tlA;rw[f7 hck];exact this
theorem zcj(hPs:PR w so ps)(hl:ps.length≤1000000000)(hB:∀p∈ps,Tr.bulks (p.vs.map Dt.tr)≤3000000)(hW:SmallC (ps.map Sp.k)):Calls Tryz.prog 8 #[.slice so ps.length ca] w (RB w (.tuple #[.string (tlA (ps.map Sp.k)).1,iV (tlA (ps.map Sp.k)).2])):=by
 by_cases hck:ckC (ps.map Sp.k)=0
 ·have:=jrf (ca:=ca) hPs hl hck hB (f:=wrT true) (g:=wrT false) (fun d w1 hd hm hor=>by
   have h9:=zhh (t:=d) hd (hW.1 _ hor) false;rw[show(!false)=true from rfl,qjg (hor.elim (zch hck) (zch hck))]at h9;exact h9) (fun d w1 hd hm=>by
   have h9:=zhh (t:=d) hd (hW.2.1 _ hm) true;obtain⟨t,xs,hf,ha,hs,aa,-⟩:=qsj hm;rw[show(!true)=false from rfl,qjg (zcf ha hs _ aa)]at h9;exact h9) (zue hPs hck hW)
  unfold tlA;rw[gj hck];exact this
 ·have:=jif (ca:=ca) hPs hl hck hB;unfold tlA;rw[f7 hck];exact this
end
section
variable {a m:Tr} {is:List Tr} {v:Bool}
theorem jbe{k:Int×List Tr}(h:k∈(erS a m is v).1):k.2=[]∨k=(8,[a])∨k=(1,[m])∨(k=(7,[ofS is])∧qs qh (ofS is)=true):=by
 unfold erS at h
 split at h
 ·rename_i hs;rcases lk.1 h with h|h
  ·rcases ik.1 h with rfl|h
   ·left
    split<;>rfl
   ·split at h
    ·cases h
    ·exact .inr (.inl (iq.1 h))
  ·simp only[ik,List.not_mem_nil,or_false]at h;rcases h with rfl|rfl
   ·exact .inr (.inr (.inl rfl))
   ·exact .inr (.inr (.inr ⟨rfl,hs.2.2⟩))
 ·cases h
theorem jvf: (erS a m is v).1.length≤4:=by
 unfold erS
 split
 ·show(_::(if isF a=true then[]else[(8,[a])])++[(1,[m]),(7,[ofS is])]:List (Int×List Tr)).length≤4;rw[fv,fw]
  split
  ·show 0+1+2≤4; decide
  ·show 1+1+2≤4; decide
 ·exact ii _
theorem xej{t:Int}{d:Tr}(ht:t=8∨t=1)(h:flT (erS a m is v).1 t=some d):d=a∨d=m:=by
 obtain⟨k,hk,hu,-,h0⟩:=zcg h;rcases jbe hk with e|rfl|rfl|⟨rfl,-⟩
 ·rw[e]at h0; cases h0
 ·exact .inl (io h0).symm
 ·exact .inr (io h0).symm
 ·exfalso;rcases ht with rfl|rfl
  ·exact absurd (show yn 7 8=true from hu) (by decide +kernel)
  ·exact absurd (show yn 7 1=true from hu) (by decide +kernel)
theorem xfa{x:Tr}(h:x∈irT (erS a m is v).1):irT (erS a m is v).1=is:=by
 obtain⟨t,xs,hf,ha,hs,-,e⟩:=qsj h;obtain⟨k,hk,hu,-,h0⟩:=zcg hf;rcases jbe hk with e1|rfl|rfl|⟨rfl,h7⟩
 ·rw[e1]at h0; cases h0
 ·exact absurd (show yn 8 7=true from hu) (by decide +kernel)
 ·exact absurd (show yn 1 7=true from hu) (by decide +kernel)
 ·have h1:ofS is=t:=io h0;rw[←h1,(jgi h7).2,qie]at ha;rw[e,io ha]
theorem zuf(ha:a.bulk≤1048576)(hm:m.bulk≤1048576)(hi:Tr.bulks is≤1048576):SmallC (erS a m is v).1:=by
 refine⟨fun t ht=>?_,fun x hx=>?_,?_⟩
 ·rcases ht with h|h
  ·rcases xej (.inl rfl) h with rfl|rfl<;>assumption
  ·rcases xej (.inr rfl) h with rfl|rfl<;>assumption
 ·rw[xfa hx]at hx;exact gz (ul hx) hi
 ·cases e:irT (erS a m is v).1 with
  | nil => exact ii _
  | cons x l =>
   rw[←e,xfa (x:=x) (by rw[e]; exact iw ..)];omega
theorem zug(ha:a.bulk≤1048576)(hm:m.bulk≤1048576)(hi:Tr.bulks is≤1048576){cs:List Sp}(h:cs.map Sp.k=(erS a m is v).1):∀p∈cs,Tr.bulks (p.vs.map Dt.tr)≤3000000:=fun p hp=>by
 have hk:p.k∈(erS a m is v).1:=by rw[←h]; exact j5 hp
 show Tr.bulks p.k.2≤_;have h9:=jdj is;rcases jbe hk with e|e|e|⟨e,-⟩
 ·rw[e]; exact ii _
 ·rw[e]; show a.bulk+0≤_; omega
 ·rw[e]; show m.bulk+0≤_; omega
 ·rw[e]; show(ofS is).bulk+0≤_; omega
end
theorem xdd{ks:List (Int×List Tr)}(h:∀k∈ks,Tr.bulks k.2≤1048576):SmallC ks:=by
 have h1:∀t d,flT ks t=some d→d.bulk≤1048576:=fun t d hf=>by
  obtain⟨k,hk,-,hd,-⟩:=zcg hf;exact gz (ul hd) (h k hk)
 refine⟨fun t ht=>ht.elim (h1 _ _) (h1 _ _),fun x hx=>?_,?_⟩
 ·obtain⟨t,xs,hf,ha,-,aa,-⟩:=qsj hx;have h2:=h1 _ _ hf;have h3:=qij ha;have h4:=ul aa;omega
 ·cases e:irT ks with
  | nil => exact ii _
  | cons x l =>
   obtain⟨t,xs,hf,ha,-,-,e2⟩:=qsj (x:=x) (ks:=ks) (by rw[e]; exact iw ..);rw[←e,e2];have h2:=h1 _ _ hf;have h3:=qij ha;omega
theorem xlj: wrT true zrb=awF zrb:=by decide +kernel
theorem xma: wrT true noT=awF noT:=by decide +kernel
theorem jvg{w:World}{so:Option Addr}{ca:Nat}{cs:List Sp}(hPs:PR w so cs)(hcs:cs.map Sp.k=K4)(hT:Tabs8 w)(hz:C.Tz16 w)(htp:C.Tp10 w):Calls Tryz.prog 7 #[.slice so cs.length ca] w (RB w (.tuple #[.string ⟨#[97,115,115,101,114,116,105,111,110,32,105,110,32,99,97,114,58,32,110,111]⟩,iV 0])):=by
 have hlen:cs.length=4:=by have:=j9 List.length hcs; rw[gy]at this; exact this
 have hb:PB cs:=fun p hp=>xae p.k (hcs▸j5 hp);have:=jee (ca:=ca) (f:=awF) (g:=awG) hPs (by omega) (by rw[hcs]; exact xke) hb hT (fun d w1 hd _ hor hbw=>by
  rw[hcs,jpf,jpg]at hor;have key:d.tr.bulk≤1048576∧wrA true d.tr=(awF d.tr,0):=by
   rcases hor with h|h
   ·rw[←io h]; exact⟨by decide,by rw[qjg xec,xlj]⟩
   ·rw[←io h]; exact⟨by decide,by rw[qjg xkd,xma]⟩
  have h9:=quc (t:=d) (Dt.keep hbw _ hd) (hT.below hbw) (vq hz hbw) (htp.below hbw) key.1;rw[key.2]at h9;exact h9) (fun d w1 _ hm _=>by rw[hcs,xed]at hm; cases hm) (by rw[hcs,jeg]; decide)
 rw[hcs,jeg]at this;exact this
theorem jbf{w:World}(hT:Tabs8 w)(hz:C.Tz16 w)(htp:C.Tp10 w):Calls Tryz.prog 9 #[] w (RB w (bV true)):=by
 have M:=Mg.start w;refine wof Tryz.func9 Tryz.ntmps9 fun Q hret hnorm hP a A=>?_;refine wsr fun _ aa=>sda A λA=>?_;refine qa (aa _ _ (wsr fun _ ab=>sdo (v:=.agg (jhd.d.cells jhd.ts.length).toArray) A (qn rfl (fun w=>by kernel_rfl)) λA=>?_));refine sdo (v:=.agg (noD.d.cells noD.ts.length).toArray) A (qn rfl (fun w=>by kernel_rfl)) λA=>?_;refine sct A ec (xhg (hT.below M.bel)) ?_;rintro _ _ ⟨_,_,cs5,rfl,⟨ac,hP5⟩,ae⟩;replace M:=M.call ae;refine⟨_,rfl,?_⟩;intro a A;refine sdm A λA=>?_;iterate 2 refine sde A λA=>?_
 iterate 2 refine sda A λA=>?_
 refine qwr ab fun K4 af=>sdm A λA=>?_;refine gcl A M ec (jvg hP5 ac (hT.below M.bel) (vq hz M.bel) (htp.below M.bel)) fun _ _ M a A=>?_;refine sdm A λA=>?_;iterate 2 refine sde A λA=>?_
 iterate 2 refine sda A λA=>?_
 refine qwr af fun _ ag=>sdm A λA=>?_;refine sdo (v:=bV true) A dbK λA=>?_;iterate 2 refine sdm A λA=>?_
 refine sdo (v:=bV true) A dbK λA=>?_;refine sdk (v:=bV true) A λA=>?_;iterate 2 refine sdm A λA=>?_
 refine sdo (v:=bV true) A (qb rfl rfl (fun w=>(je gi w).trans (by rw[xkf]<;>rfl))) λA=>?_;refine sdk (v:=bV true) A λA=>?_;refine sda A λA=>?_;refine qr1 ag hret A ?_;exact⟨rfl,M.bel⟩
theorem zdi{w:World}{da dm:Dt}(hrda:da.rd w)(hrdm:dm.rd w){so2:Option Addr}{ca2:Nat}{is:List Dt}(hRi:Rt w so2 is)(hDi:∀t∈is,t.rd w)(hba:da.tr.bulk≤1048576)(hbm:dm.tr.bulk≤1048576)(hbi:Tr.bulks (is.map Dt.tr)≤1048576){v:Bool}{so:Option Addr}{ca:Nat}{ps:List Sp}(hPs:PR w so ps)(hl:ps.length≤1048576)(hB:∀p∈ps,Tr.bulks (p.vs.map Dt.tr)≤1048576)(hT:Tabs8 w)(hz:C.Tz16 w)(htp:C.Tp10 w):Calls Tryz.prog 3 #[.agg (da.d.cells da.ts.length).toArray,.agg (dm.d.cells dm.ts.length).toArray,.slice so2 is.length ca2,bV v,.slice so ps.length ca] w (RB w (bV true)):=by
 have hW:SmallC (ps.map Sp.k):=xdd fun k hk=>by obtain⟨p,hp,rfl⟩:=List.mem_map.1 hk; exact hB p hp
 have M:=Mg.start w;refine wof Tryz.func3 Tryz.ntmps3 fun Q hret hnorm hP a A=>?_;refine wsr fun _ av=>zj (vs:=(da.d.cells da.ts.length)) (t:=30) A M rfl rfl rfl pg (qx rfl rfl) (by decide) ?_;intro g2 _ M a A;refine zj (vs:=(dm.d.cells dm.ts.length)) (t:=30) A M rfl rfl rfl pg (qx rfl rfl) (by decide) ?_;intro g4 _ M a A;refine sda A λA=>?_;refine qa (av _ _ (wsr fun _ aw=>sdo A (qz M zv rfl 1 rfl (cs:=(da.d.cells da.ts.length)) rfl rfl) λA=>?_));refine sdo A (qz M zv rfl 0 rfl (cs:=(dm.d.cells dm.ts.length)) rfl rfl) λA=>?_;iterate 2 refine sdm A λA=>?_
 refine sct A ec (zga (Dt.keep M.bel _ hrda) (Dt.keep M.bel _ hrdm) (hRi.below M.bel) (fun t ht=>Dt.keep M.bel _ (hDi t ht)) (by omega) (by omega) (by omega) (hT.below M.bel)) ?_;rintro _ _ ⟨_,_,cs,ev3,rfl,⟨he3,hP3⟩,ax⟩;have ah:cs.map Sp.k=(erS da.tr dm.tr (is.map Dt.tr) v).1:=j9 Prod.fst he3;have hv3:ev3=(erS da.tr dm.tr (is.map Dt.tr) v).2:=j9 Prod.snd he3;have au:=zug hba hbm hbi ah;have hw3:SmallC (cs.map Sp.k):=by rw[ah]; exact zuf hba hbm hbi
 have hn3:cs.length≤4:=by have h9:=j9 List.length ah; rw[gy]at h9; rw[h9]; exact jvf
 replace M:=M.call ax;refine⟨_,rfl,?_⟩;intro a A;refine sdm A λA=>?_;iterate 2 refine sde A λA=>?_
 iterate 2 refine sda A λA=>?_
 refine qa (aw _ _ (wsr fun _ ay=>sdo A (qz M zv rfl 1 rfl (cs:=(da.d.cells da.ts.length)) rfl rfl) λA=>?_));refine sdo A (qz M zv rfl 0 rfl (cs:=(dm.d.cells dm.ts.length)) rfl rfl) λA=>?_;iterate 2 refine sdm A λA=>?_
 refine sct A ec (zyi (Dt.keep M.bel _ hrda) (Dt.keep M.bel _ hrdm) (hRi.below M.bel) (fun t ht=>Dt.keep M.bel _ (hDi t ht)) hba hbm hbi) ?_;rintro _ _ ⟨_,_,ds,ev4,rfl,⟨he4,hP4⟩,aj⟩;replace hP3:=hP3.below aj;have ai:ds.map Sp.k=(erS da.tr dm.tr (is.map Dt.tr) v).1:=j9 Prod.fst he4;have hv4:ev4=(erS da.tr dm.tr (is.map Dt.tr) v).2:=j9 Prod.snd he4;have az:=zug hba hbm hbi ai;have hw4:SmallC (ds.map Sp.k):=by rw[ai]; exact zuf hba hbm hbi
 have hn4:ds.length≤4:=by have h9:=j9 List.length ai; rw[gy]at h9; rw[h9]; exact jvf
 replace M:=M.call aj;refine⟨_,rfl,?_⟩;intro a A;refine sdm A λA=>?_;iterate 2 refine sde A λA=>?_
 iterate 2 refine sda A λA=>?_
 refine qwr ay fun _ ak=>sdm A λA=>?_;refine sct A ec (zhi (hPs.below M.bel) (by omega) (fun p hp=>gz (hB p hp) (by decide)) hW (hT.below M.bel) (vq hz M.bel) (htp.below M.bel)) ?_;rintro _ _ ⟨rfl,aa⟩;replace hP3:=hP3.below aa;replace hP4:=hP4.below aa;replace M:=M.call aa;refine⟨_,rfl,?_⟩;intro a A;refine sdm A λA=>?_;iterate 2 refine sde A λA=>?_
 iterate 2 refine sda A λA=>?_
 refine qwr ak fun _ am=>sdm A λA=>?_;refine sct A ec (zcj (hPs.below M.bel) (by omega) (fun p hp=>gz (hB p hp) (by decide)) hW) ?_;rintro _ _ ⟨rfl,ab⟩;replace hP3:=hP3.below ab;replace hP4:=hP4.below ab;replace M:=M.call ab;refine⟨_,rfl,?_⟩;intro a A;refine sdm A λA=>?_;iterate 2 refine sde A λA=>?_
 iterate 2 refine sda A λA=>?_
 refine qwr am fun _ ap=>sdm A λA=>?_;refine sct A ec (zhi hP3 (by omega) au hw3 (hT.below M.bel) (vq hz M.bel) (htp.below M.bel)) ?_;rintro _ _ ⟨rfl,ac⟩;replace hP3:=hP3.below ac;replace hP4:=hP4.below ac;replace M:=M.call ac;refine⟨_,rfl,?_⟩;intro a A;refine sdm A λA=>?_;iterate 2 refine sde A λA=>?_
 iterate 2 refine sda A λA=>?_
 refine qwr ap fun _ aq=>sdm A λA=>?_;refine sct A ec (zcj hP4 (by omega) az hw4) ?_;rintro _ _ ⟨rfl,ae⟩;replace hP3:=hP3.below ae;replace hP4:=hP4.below ae;replace M:=M.call ae;refine⟨_,rfl,?_⟩;intro a A;refine sdm A λA=>?_;iterate 2 refine sde A λA=>?_
 iterate 2 refine sda A λA=>?_
 refine qa (aq _ _ (wsr fun _ ar=>sct A ec (jbf (hT.below M.bel) (vq hz M.bel) (htp.below M.bel)) ?_));rintro _ _ ⟨rfl,af⟩;replace hP3:=hP3.below af;replace hP4:=hP4.below af;replace M:=M.call af;refine⟨_,rfl,?_⟩;intro a A;iterate 3 refine sdm A λA=>?_
 refine sct A ec (qqh hP3 hP4 (ah.trans ai.symm) (fun p hp=>gz (gz (yj _) (au p hp)) (by decide)) (by omega)) ?_;rintro _ _ ⟨rfl,ag⟩;replace hP3:=hP3.below ag;replace hP4:=hP4.below ag;replace M:=M.call ag;refine⟨_,rfl,?_⟩;intro a A;refine sdk (v:=bV true) A λA=>?_;iterate 3 refine sdm A λA=>?_
 refine sdo (v:=bV true) A (qb rfl rfl (fun w=>(qe w).trans (by rw[show((ev3==ev4))=true from(beq_iff_eq.2 (hv3.trans hv4.symm))]))) λA=>?_;refine sdk (v:=bV true) A λA=>?_;iterate 3 refine sdm A λA=>?_
 refine sdo (v:=bV true) A (qb rfl rfl (fun w=>(je gi w).trans (by rw[(gv rfl)]<;>rfl))) λA=>?_;refine sdk (v:=bV true) A λA=>?_;iterate 3 refine sdm A λA=>?_
 refine sdo (v:=bV true) A (qb rfl rfl (fun w=>(qe w).trans (by rw[show(((tlA (ps.map Sp.k)).2==(tlA (ps.map Sp.k)).2))=true from(beq_self_eq_true _)]))) λA=>?_;refine sdk (v:=bV true) A λA=>?_;iterate 3 refine sdm A λA=>?_
 refine sdo (v:=bV true) A (qb rfl rfl (fun w=>(je gi w).trans (by rw[(gv (by rw[ah,ai]))]<;>rfl))) λA=>?_;refine sdk (v:=bV true) A λA=>?_;iterate 3 refine sdm A λA=>?_
 refine sdo (v:=bV true) A (qb rfl rfl (fun w=>(qe w).trans (by rw[show(((tlA (cs.map Sp.k)).2==(tlA (ds.map Sp.k)).2))=true from(beq_iff_eq.2 (by rw[ah,ai]))]))) λA=>?_;refine sdk (v:=bV true) A λA=>?_;refine sda A λA=>?_;refine qr1 ar hret A ?_;exact⟨rfl,M.bel⟩
open Go.ChangeShapes Go.WideShapes Go.ChangeAt Go.RowKit Go.Joins Go.Deep
theorem xde{w:World}{x:Addr}{vs:List Value}(hc:∀(i:Nat) v,vs[i]?=some v→w.cell? (x.add i)=some v):Rc w (some x) vs:=by
  intro hne;obtain⟨v,h0⟩:∃v,vs[0]?=some v:=by
    cases vs with
    | nil => exact absurd rfl hne
    | cons v t => exact ⟨v, rfl⟩
  obtain⟨b,off,spot⟩:=x;have hspot:spot=none:=by
    have h2:=hc 0 v h0;simp only[World.cell?,Addr.add]at h2
    split at h2
    · cases spot with
      | none => rfl
      | some s => simp at h2
    · cases h2
  subst hspot;refine⟨b,off,rfl,fun p u hp=>?_⟩;have h2:=hc p u hp;rw[Addr.add_lit]at h2;exact h2
section
variable {H:Type} {enc:TypeId×Value→H} {W:World}
end
section
variable {H:Type} {enc:TypeId×Value→H} {W:World}
theorem znd{xs:List (DataW H)}{n:Nat}(h:n≤xs.length):((List.range n).map fun i=>(xs[i]?.map Rows.uptoBulk).getD 0).sum≤Rows.uptoBulkAll xs:=by
  have key:∀m,m≤xs.length→((List.range m).map fun i=>(xs[i]?.map Rows.uptoBulk).getD 0).sum=Rows.uptoBulkAll (xs.take m):=by
    intro m
    induction m with
    | zero => intro _; simp [Rows.uptoBulkAll]
    | succ m ih =>
      intro hm;have hu:∀(l:List (DataW H)) (d:DataW H),Rows.uptoBulkAll (l++[d])=Rows.uptoBulkAll l+Rows.uptoBulk d:=by
        intro l d
        induction l with
        | nil => simp [Rows.uptoBulkAll]
        | cons u l ih3 => simp only [gq, Rows.uptoBulkAll, ih3]; omega
      rw[List.range_succ,j6,List.sum_append,ih (by omega),List.take_add_one,List.getElem?_eq_getElem (show m<xs.length by omega)];simp only[i6,lg,Option.map_some,Option.toList_some,List.sum_cons,List.sum_nil,Option.getD_some,Nat.add_zero];rw[hu,List.getElem?_eq_getElem (show m<xs.length by omega)];simp
  have hmono:∀(l:List (DataW H)) (m:Nat),Rows.uptoBulkAll (l.take m)≤Rows.uptoBulkAll l:=by
    intro l
    induction l with
    | nil => intro m; simp
    | cons a l ih =>
      intro m;cases m with
      | zero => simp [Rows.uptoBulkAll]
      | succ m => simp only [List.take_succ_cons, Rows.uptoBulkAll]; have := ih m; omega
  rw[key n h];exact hmono xs n
theorem jvh{α:Type}{f:α→List Value}{m:Nat}(hf:∀x,(f x).length=m)(hm0:0<m){tS tE:TypeId}(hu:Tryz.prog.underlying tS=some (.slice tE))(hc:Tryz.prog.cellsOf tE=m){P:α→Nat→Prop}(dflt:α)
    (each0:∀n cs x,DataW.trod enc Tryz.prog W 0 (fun _=>true) true n tE cs=some x→∃a:α,cs=f a∧P a (Rows.uptoBulk x.1)) {fuel:Nat} {v:Value} {y:DataW H×List MemPlace} (h:DataW.trod enc Tryz.prog W 0 (fun _=>true) true fuel tS [v]=some y) :
    ∃so cap,∃l:List (α×Nat),v=.slice so l.length cap∧Rc W so (jb f (l.map Prod.fst))∧(∀q∈l,P q.1 q.2)∧(l.map Prod.snd).sum≤Rows.uptoBulk y.1∧l.length≤Rows.uptoBulk y.1:=by
  rcases DataW.trod_slice hu h with⟨hcs,_⟩|⟨x,len,cap,elems,rest,n,_,hcs,hx,_,hl,hm,hlen,hel,_,_⟩
  · simp at hcs;subst hcs;exact⟨none,0,[],rfl,fun k=>absurd rfl k,(fun q k=>by cases k),ii _,ii _⟩
  · simp at hcs;subst hcs;subst hx;have each:∀i,∃a:α,i<len→(∀(j:Nat) v,(f a)[j]?=some v→W.cell? (x.add (i*m+j))=some v)∧P a (((elems.map (·.1))[i]?.map Rows.uptoBulk).getD 0):=by
      intro i;by_cases hi:i<len
      · have hE:=hel i hi;rw[hc]at hE;rw[List.getElem?_eq_getElem (by omega),Option.bind_eq_some_iff]at hE;obtain⟨c1,aa,hy1⟩:=hE;obtain⟨o,e,hr⟩:=each0 _ _ _ hy1;obtain⟨_,h2,h3⟩:=World.cells?_some aa;refine⟨o,fun _=>⟨fun j v hj=>?_,?_⟩⟩
        · have hlt:=(List.getElem?_eq_some_iff.1 hj).1;rw[←e,h2]at hlt;have h4:=h3 j hlt;rw[e,hj]at h4;rw[←Addr.add_add];exact h4
        · rw[List.getElem?_map,List.getElem?_eq_getElem (show i<elems.length by omega)];exact hr
      · exact⟨dflt,fun k=>absurd k hi⟩
    obtain⟨F,hF⟩:=Classical.skolem.1 each;have e1:((List.range len).map fun i=>(F i,(((elems.map (·.1))[i]?.map Rows.uptoBulk).getD 0))).map Prod.fst=(List.range len).map F:=(by rw[List.map_map]; rfl);have hcat:∀(i:Nat) v,(jb f ((List.range len).map F))[i]?=some v→W.cell? (x.add i)=some v:=by
      intro i v hi;have hlt:=(List.getElem?_eq_some_iff.1 hi).1;rw[qyc hf,gy,List.length_range]at hlt;have hj:i / m<len:=(Nat.div_lt_iff_lt_mul hm0).2 hlt;have h1:((List.range len).map F)[i / m]?=some (F (i / m)):=(by simp[hj]);have h2:=zjd hf h1;have hd:i / m*m+i%m=i:=(by rw[Nat.mul_comm]; exact Nat.div_add_mod i m);have h3:(f (F (i / m)))[i%m]?=some v:=by
        rw[←h2,List.getElem?_take,gj (Nat.mod_lt _ hm0),List.getElem?_drop,hd];exact hi
      have h4:=(hF (i / m) hj).1 (i%m) v h3
      rwa [hd]at h4
    refine⟨some x,cap,(List.range len).map fun i=>(F i,(((elems.map (·.1))[i]?.map Rows.uptoBulk).getD 0)),by simp,?_,fun q hq=>?_,?_,?_⟩
    · rw[e1];exact xde hcat
    · obtain⟨i,hi,rfl⟩:=List.mem_map.1 hq;exact(hF i (List.mem_range.1 hi)).2
    · rw[List.map_map];have:=znd (xs:=elems.map (·.1)) (n:=len) (by rw[gy]; omega);simp only[Rows.uptoBulk];refine gz this ?_;omega
    · refine gz ?_ (zbh _ _);simp only[gy,List.length_range];omega
theorem jbg{fuel:Nat}{cs:List Value}{x:DataW H×List MemPlace}(h:DataW.trod enc Tryz.prog W 0 (fun _=>true) true fuel 65 cs=some x):∃p:Sp,cs=p.c∧SpR W p∧Tr.bulks (p.vs.map Dt.tr)≤Rows.uptoBulk x.1:=by
  obtain⟨xs,n,hfu,hx,hl,hxl,hf⟩:=DataW.trod_struct Tryz.underlying65 h;rw[show Tryz.prog.cellsOf 65=2 from by kernel_rfl]at hl
  match cs,hl with
  | [_, _], _ =>
    match xs,hxl with
    | [x0, x1], _ =>
      have g0:=hf 0 _ rfl;have g1:=hf 1 _ rfl;have c1:Tryz.prog.cellsOf 3=1:=(by kernel_rfl);have c3:Tryz.prog.cellsOf 28=1:=(by kernel_rfl);simp only[c1,c3,List.drop_zero,List.take_succ_cons,List.take_zero,List.drop_succ_cons,List.getElem?_cons_zero,List.getElem?_cons_succ]at g0 g1;obtain⟨z0,e0,_,_⟩:=DataW.trod_int i8 g0;obtain⟨lo,lc,ts,e5,hlc,hlm,hrt,hrd,b5⟩:=qng (fun n' _=>znb n') g1;have hbx:Rows.uptoBulk x.1=Rows.uptoBulk x0.1+(Rows.uptoBulk x1.1+0)+1:=by
        rw[hx,qqb];simp only[i6,lg,Rows.uptoBulkAll]
      refine⟨⟨z0,lo,lc,ts⟩,?_,⟨hrt,hrd⟩,by show Tr.bulks (ts.map Dt.tr)≤_; omega⟩;injection e0 with f0;subst f0 e5;rfl
theorem xdf{α:Type}{l:List (α×Nat)}{q:α×Nat}(h:q∈l):q.2≤(l.map Prod.snd).sum:=by
  induction l with
  | nil => cases h
  | cons a l ih =>
    rw[i6,List.sum_cons];rcases ik.1 h with rfl|h
    · omega
    · have:=ih h;omega
theorem zuh{fuel:Nat}{v:Value}{y:DataW H×List MemPlace}(h:DataW.trod enc Tryz.prog W 0 (fun _=>true) true fuel 31 [v]=some y):
    ∃so cap,∃ps:List Sp,v=.slice so ps.length cap∧PR W so ps∧(∀p∈ps,Tr.bulks (p.vs.map Dt.tr)≤Rows.uptoBulk y.1)∧ps.length≤Rows.uptoBulk y.1:=by
  obtain⟨so,cap,l,e,h1,h2,h3,h4⟩:=jvh (f:=Sp.c) jna (by decide) ic (by kernel_rfl) (P:=fun p b=>SpR W p∧Tr.bulks (p.vs.map Dt.tr)≤b) ue (fun n cs x hx=>jbg hx) h;refine⟨so,cap,l.map Prod.fst,by rw[gy]; exact e,⟨h1,fun p hp=>?_⟩,fun p hp=>?_,by rw[gy]; exact h4⟩
  · obtain⟨q,hq,rfl⟩:=List.mem_map.1 hp;exact(h2 q hq).1
  · obtain⟨q,hq,rfl⟩:=List.mem_map.1 hp;exact gz (h2 q hq).2 (gz (xdf hq) h3)
theorem jbh{base:Nat}{v:Value}{d:DataW H}{p:List MemPlace}(hv:Value.okWide Tryz.prog W .any base 31 v)(h:DataW.Trod enc Tryz.prog W 0 (fun _=>true) true 31 v d p):
    ∃so cap,∃ps:List Sp,v=.slice so ps.length cap∧PR W so ps∧(∀p∈ps,Tr.bulks (p.vs.map Dt.tr)≤Rows.uptoBulk d)∧ps.length≤Rows.uptoBulk d:=by
  obtain⟨a,n,c,rfl⟩:=okWide_slice ic hv;obtain⟨fuel,hf⟩:=h;exact zuh (v:=.slice a n c) hf
end
end Go.Proofs.YtmnlfahgklnpeaaGreatDoor.G
