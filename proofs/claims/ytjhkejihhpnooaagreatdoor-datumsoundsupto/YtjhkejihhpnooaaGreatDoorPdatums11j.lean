/- RdZ Qe TrU Tu TrV TrW TrX Qf ReA EqO Ov RsA ReB ReF Bulk ArgC ArgB ArgD ReC ReG -/
import Derived.Test.YtjhkejihhpnooaaGreatDoorPdatums11i
import Derived.Test.YtjhkejihhpnooaaGreatDoorPdatums11d
import Derived.Test.YtjhkejihhpnooaaGreatDoorPdatums11h
import Derived.Test.YtjhkejihhpnooaaGreatDoorPdatums11f
import Derived.Test.YtjhkejihhpnooaaGreatDoorProg
import Derived.Lib.ConvBytes
import Derived.KernelRfl
import Derived.Test.YtjhkejihhpnooaaGreatDoorRows
import Derived.WalkKit
import Derived.ProofKit
import Derived.OpenShut
import Derived.ChangeOld
import Derived.Lib.SmallJoins
import Derived.Deep.Strs
import Derived.Test.YtjhkejihhpnooaaGreatDoorPdatums11e
import Derived.Deep.Slices
import Derived.Handed
import Derived.FnData
import Derived.LaidLaws
import Derived.Lib.LaidU8
set_option linter.unusedVariables false
set_option linter.unusedSimpArgs false
set_option maxHeartbeats 1000000
namespace Go.Proofs.YtjhkejihhpnooaaGreatDoor.G
open Go.RowKit
set_option maxRecDepth 100000
def rdX(L:List UInt8):Int×Nat×Tr:=if 65536<L.length then(18,0,ky)else frX L
theorem zpe{L:List UInt8}(h:65536<L.length):rdX L=(18,0,ky):=if_pos h
theorem zeg{L:List UInt8}(h:(rdX L).1=0):L.length≤65536:=by
 by_cases k:65536<L.length
 ·rw[zpe k]at h; cases h
 ·omega
theorem jce{L:List UInt8}(h:¬65536<L.length):rdX L=frX L:=if_neg h
theorem read_any{w0 w:World}{L:List UInt8}{U Z:List Ck}(hN:Env w0)(hU:Cu U)(hZ:Ob Z)(hl:L.length≤9223372036854775807)(hM0:Mg w0 w (U++Z)):Calls Tryz.prog 7 #[.string (tx L)] w fun e w'=>∃t F,e=.returned (.tuple #[.agg (t.d.cells t.ts.length).toArray,iV (((rdX L).2.1:Nat):Int),iV (rdX L).1])∧(t.tr=(rdX L).2.2∧((rdX L).1=0→1≤(rdX L).2.1∧(rdX L).2.1≤List.length L))∧(Lv w0 (F++Z) t∧Ob F)∧Mg w0 w' (U++(F++Z)):=by
 have M:Mg w0 w ((U++Z)):=hM0;refine qn (l:=[(0,.string ((tx L)))]) Tryz.func7 rfl Tryz.ntmps7 rfl rfl ?_;intro Q hret hnorm hP a A;refine wsk fun K1 hK1=>wrl (xt (vs:=zD) (t:=30) A M rfl rfl rfl pg (ql (z:=.agg zD.toArray) (by kernel_rfl) rfl) (by decide) ?_);intro g2 w3 M a A;iterate 2 refine sda A λa A=>?_
 refine qa (hK1 _ _ (wsk fun K4 hK4=>wsk fun K5 hK5=>wrl (sdm A λa A=>?_)));refine sdo (v:=iV (((L.length:Nat):Int))) A (xx (s:=L) Tryz.underlying9 rfl) λa A=>?_;rcases tf (decide (65536<((L.length:Nat):Int)))with hb6 | hb6
 ·have hb6':=of_decide_eq_true hb6;refine sdc A zp hb6 λa A=>?_;refine qa (hK5 _ _ (ct A ?_));refine wsk fun K7 hK7=>wrl (sdo (v:=.agg zD.toArray) A (qt rfl (fun w=>by kernel_rfl)) λa A=>?_);refine za (L':=(.obj g2 zC::(U++Z))) A M rfl rfl (qp rfl rfl rfl (by kernel_rfl) M 0 rfl rfl rfl) 0 rfl rfl rfl ?_;intro w8 M;iterate 2 refine sda A λa A=>?_
  refine qa (hK7 _ _ (wp_ret (hret _ _ (en3 A rfl (zv M xi rfl 0 rfl (cs:=zD) rfl rfl) (qh rfl) (qh rfl) ?_))));have he:=zpe (L:=L) (by omega);exact⟨qie,[],by rw[he]; rfl,⟨by rw[he]; exact qag,fun k=>absurd k (by rw[he]; decide)⟩,⟨fun w _=>qai w,Ob.nil⟩,M.sub (cN (.refl _))⟩
 ·have hb6':=of_decide_eq_false hb6;refine sdc A zp hb6 λa A=>?_;refine qa (hK5 _ _ (cf A ?_));refine wp_skip (hK4 _ _ (wsk fun K9 hK9=>wrl (sdm A λa A=>?_)));refine sct A (ef rfl rfl) (ztc (U:=(.obj g2 zC::U)) (Z:=Z) hN (Cu.cons rfl hU) hZ (by omega) M) ?_;rintro _ w10 ⟨t1,F1,rfl,⟨htr1,hle1⟩,⟨hL1,hO1⟩,hM1⟩;replace M:Mg w0 w10 (.obj g2 zC::(U++(F1++Z))):=hM1;refine⟨_,rfl,?_⟩;intro a A;iterate 3 refine sdo A (qi (vs:=[.agg (t1.d.cells t1.ts.length).toArray,iV ((((frX L).2.1:Nat):Int)),iV ((frX L).1)]) rfl rfl) λa A=>?_
  refine za (L':=(.obj g2 (.cells (t1.d.cells t1.ts.length).toArray 30)::(U++(F1++Z)))) A M rfl rfl (qp rfl rfl rfl (by kernel_rfl) M 0 rfl rfl rfl) 0 rfl rfl rfl ?_;intro w11 M;iterate 2 refine sda A λa A=>?_
  refine qa (hK9 _ _ (wp_ret (hret _ _ (en3 A rfl (zv M xi rfl 0 rfl (cs:=[iV t1.d.k,iV t1.d.n,bV t1.d.y.q.b1,.slice t1.d.y.o1 t1.d.y.q.t1.length t1.d.y.c1,.slice t1.d.y.o2 t1.d.y.q.q1.length t1.d.y.c2,bV t1.d.y.q.b2,.slice t1.d.y.o3 t1.d.y.q.t2.length t1.d.y.c3,.slice t1.d.y.o4 t1.d.y.q.q2.length t1.d.y.c4,.string t1.d.s,.slice t1.d.ro t1.d.rl.length t1.d.rc,.slice t1.d.lo t1.ts.length t1.d.lc]) rfl rfl) (qh rfl) (qh rfl) ?_))));have he:=jce (L:=L) (by omega);exact⟨t1,F1,by rw[he]<;>rfl,⟨by rw[he]; exact htr1,by rw[he]; exact hle1⟩,⟨hL1,hO1⟩,M.sub (cN (.refl _))⟩
theorem zpf{b:Bool}{x d:Nat}(hd:d≠0)(h1:(words x).length≤512)(h2:(words d).length≤512):qsg (mkRat (sgn b x) d):=zoh (k:=512) hd (ut h1) h2 rfl
theorem jcf(r:Nat)(n m:Nl)(h:(xv r n m).2=0):jj (xv r n m).1=true:=by
 by_cases h1:xy r n≠0∨xy r m≠0
 ·rw[qdh h1]at h; cases h
 by_cases h2:zi r n.2.2=0∨zi r m.2.2=0
 ·rw[qfa (by omega) (by omega) h2]at h; cases h
 have e1:xy r n=0:=by omega
 have e2:xy r m=0:=by omega
 have e:xv r n m=(Q6.rat (qxd r n) (qxd r m),0):=by unfold xv; rw[if_neg h1,if_neg h2]
 rw[e];exact qqa (zpf (by omega) (kl (zy e1).1).2 (kl (zy e1).2).2) (zpf (by omega) (kl (zy e2).1).2 (kl (zy e2).2).2)
theorem ztd(l:List UInt8)(n:Int)(h:(vd l n).2=0):jj (vd l n).1=true:=by
 unfold vd at h ⊢;repeat' split at h
 all_goals first | (cases h; done) | skip
 all_goals simp_all only[if_true,if_false]
 all_goals exact jcf _ _ _ h
section
open Lib
theorem zeh{r:Int}(h0:0≤r)(h1:r≤1114111)(h2:¬(55296≤r∧r≤57343))(m:List UInt8):decodeL (encodeRune r++m)=(r.toNat,(encodeRune r).length):=by
 rw[decodeL_N];by_cases a:r≤127
 ·have e:encodeRune r=[b8 r]:=by unfold encodeRune; rw[encodeRuneZ_one h0 a]; rfl
  have v0:=uh (z:=r) h0 (by omega);rw[e];simp only[List.cons_append,List.nil_append,List.getD_cons_zero,List.length_cons,List.length_nil];unfold decodeN;rw[if_pos (by omega)]
  congr 1
  omega
 by_cases b:r≤2047
 ·have e:encodeRune r=[b8 (192+r / 64),b8 (128+r%64)]:=by unfold encodeRune; rw[encodeRuneZ_two (by omega) b]; rfl
  have v0:=uh (z:=192+r / 64) (by omega) (by omega);have v1:=uh (z:=128+r%64) (by omega) (by omega);rw[e];simp only[List.cons_append,List.nil_append,List.getD_cons_zero,List.getD_cons_succ,List.length_cons,List.length_nil];unfold decodeN;rw[if_neg (by omega),if_pos ⟨by omega,by omega,by omega⟩,if_pos (by omega)]
  congr 1
  omega
 by_cases d:r≤65535
 ·have e:encodeRune r=[b8 (224+r / 4096),b8 (128+r / 64%64),b8 (128+r%64)]:=by unfold encodeRune; rw[encodeRuneZ_three (by omega)]; rfl
  have v0:=uh (z:=224+r / 4096) (by omega) (by omega);have v1:=uh (z:=128+r / 64%64) (by omega) (by omega);have v2:=uh (z:=128+r%64) (by omega) (by omega);rw[e];simp only[List.cons_append,List.nil_append,List.getD_cons_zero,List.getD_cons_succ,List.length_cons,List.length_nil];unfold decodeN;rw[if_neg (by omega),if_neg (by omega),if_pos ⟨by omega,⟨by omega,by omega⟩,by omega,by omega⟩,if_pos (by omega)]
  congr 1
  omega
 ·have e:encodeRune r=[b8 (240+r / 262144),b8 (128+r / 4096%64),b8 (128+r / 64%64),b8 (128+r%64)]:=by unfold encodeRune; rw[encodeRuneZ_four (by omega) h1]; rfl
  have v0:=uh (z:=240+r / 262144) (by omega) (by omega);have v1:=uh (z:=128+r / 4096%64) (by omega) (by omega);have v2:=uh (z:=128+r / 64%64) (by omega) (by omega);have v3:=uh (z:=128+r%64) (by omega) (by omega);rw[e];simp only[List.cons_append,List.nil_append,List.getD_cons_zero,List.getD_cons_succ,List.length_cons,List.length_nil];unfold decodeN;rw[if_neg (by omega),if_neg (by omega),if_neg (by omega),if_pos ⟨by omega,⟨by omega,by omega⟩,⟨by omega,by omega⟩,by omega,by omega⟩,if_pos (by omega)]
  congr 1
  omega
end
theorem jcg{c:Int}(h:xd c=true)(x:List UInt8):Lib.validD (Lib.encodeRune c++x)=Lib.validD x:=by
 obtain⟨h0,h1,h2⟩:=of_decide_eq_true h;have e:=zeh h0 h1 (by omega) x;have hl:=(vm c).1;have hne:Lib.encodeRune c++x≠[]:=fun k=>by
  have:=congrArg List.length k;rw[List.length_append]at this;simp only[List.length_nil]at this;omega
 rw[Lib.validD_step _ hne,e,if_neg,List.drop_left']
 ·rfl
 ·rintro⟨k1,k2⟩;have k1':c.toNat=65533:=k1;have k3:c=65533:=by omega
  subst k3;revert k2;decide +kernel
theorem jch{l:List UInt8}{n:Nat}(h:qfg l=some n):xd ((n:Nat):Int)=true:=by
 unfold qfg at h;obtain⟨u,_,h⟩:=Option.bind_eq_some_iff.1 h
 split at h
 ·rename_i k;cases h
  exact(Bool.and_eq_true_iff.1 k).2
 ·cases h
theorem jkc{l:List UInt8}{c n:Nat}(h:dgX l=some (c,n)):xd ((c:Nat):Int)=true:=by
 unfold dgX at h;obtain⟨u,_,h⟩:=Option.bind_eq_some_iff.1 h;obtain⟨v,h1,h2⟩:=Option.map_eq_some_iff.1 h;cases h2
 exact jch h1
theorem jre{l:List UInt8}{c n:Nat}(h:esX l=some (c,n)):xd ((c:Nat):Int)=true:=by
 unfold esX at h;repeat' split at h
 all_goals first
  | (cases h; done)
  | (cases h; first | decide | exact qtj l)
  | (obtain ⟨v, h1, h2⟩ := Option.map_eq_some_iff.1 h; cases h2; exact jkc h1)
theorem jif{l:List UInt8}{c:Int}{n:Nat}(h:qkh l=some (c,n)):xd c=true:=by
 unfold qkh at h;by_cases c1:(((dcX l).1:Nat):Int)=92
 ·rw[if_pos c1]at h;obtain⟨v,h1,h2⟩:=Option.map_eq_some_iff.1 h;cases h2
  exact jre h1
 rw[if_neg c1]at h;by_cases c2:(((dcX l).1:Nat):Int)=13
 ·rw[if_pos c2]at h; cases h; decide
 rw[if_neg c2]at h;by_cases c3:(((dcX l).1:Nat):Int)=133
 ·rw[if_pos c3]at h; cases h; decide
 rw[if_neg c3]at h;by_cases c4:(((dcX l).1:Nat):Int)=8232
 ·rw[if_pos c4]at h; cases h; decide
 rw[if_neg c4]at h;cases h
 exact qtj l
theorem jig{ne:Bool}{l:List UInt8}{c:Int}{n:Nat}(h:qmj ne l=some (c,n)):xd c=true:=by
 unfold qmj at h;by_cases c1:(((dcX l).1:Nat):Int)=92
 ·rw[if_pos c1]at h
  split at h
  ·obtain⟨v,h1,h2⟩:=Option.map_eq_some_iff.1 h;cases h2
   exact jkc h1
  ·cases h
 rw[if_neg c1]at h;by_cases c2:C.firstB (((dcX l).1:Nat):Int)=true
 ·rw[if_pos c2]at h; cases h; exact qtj l
 rw[if_neg c2]at h;by_cases c3:ne=true
 ·rw[if_pos c3]at h
  split at h
  ·cases h; exact qtj l
  ·cases h
 ·rw[if_neg c3]at h; cases h
theorem zpg: ∀(f:Nat) (l:List UInt8) (r:List UInt8×Nat),qki f l=some r→Lib.validD r.1=true
 | 0, l, r, h => by rw [qki] at h; cases h
 | f + 1, l, r, h => by
  rw[qki]at h;by_cases c1:Lib.hasPrefix l [34]=true
  ·rw[if_pos c1]at h; cases h; rfl
  rw[if_neg c1]at h;by_cases c2:l.isEmpty=true
  ·rw[if_pos c2]at h; cases h
  rw[if_neg c2]at h;obtain⟨⟨c,n⟩,h1,h⟩:=Option.bind_eq_some_iff.1 h;obtain⟨v,h2,rfl⟩:=Option.map_eq_some_iff.1 h;show Lib.validD (Lib.encodeRune c++v.1)=true;rw[jcg (jif h1)];exact zpg f _ _ h2
theorem qzf: ∀(f:Nat) (ne:Bool) (l r:List UInt8),qgi f ne l=some r→Lib.validD r=true
 | 0, ne, l, r, h => by rw [qgi] at h; cases h
 | f + 1, ne, l, r, h => by
  rw[qgi]at h;by_cases c2:l.isEmpty=true
  ·rw[if_pos c2]at h; cases h; rfl
  rw[if_neg c2]at h;obtain⟨⟨c,n⟩,h1,h⟩:=Option.bind_eq_some_iff.1 h;obtain⟨v,h2,rfl⟩:=Option.map_eq_some_iff.1 h;show Lib.validD (Lib.encodeRune c++v)=true;rw[jcg (jig h1)];exact qzf f _ _ _ h2
theorem jih{l r:List UInt8}(h:qig l=some r):Lib.validD r=true:=by
 unfold qig at h;by_cases c1:l=[43]
 ·rw[if_pos c1]at h; cases h; rw[c1]; decide
 rw[if_neg c1]at h;by_cases c2:l=[45]
 ·rw[if_pos c2]at h; cases h; rw[c2]; decide
 rw[if_neg c2]at h;by_cases c3:l=[46,46,46]
 ·rw[if_pos c3]at h; cases h; rw[c3]; decide
 rw[if_neg c3]at h;by_cases c4:Lib.hasPrefix l [45,62]=true
 ·rw[if_pos c4]at h;obtain⟨v,h2,rfl⟩:=Option.map_eq_some_iff.1 h;show Lib.validD (45::62::v)=true;rw[Lib.validD_cons _ _ (by decide),Lib.validD_cons _ _ (by decide)];exact qzf _ _ _ _ h2
 rw[if_neg c4]at h;exact qzf _ _ _ _ h
theorem jrf{l:List UInt8}{c:Int}(h:chI l=some c):xd c=true:=by
 unfold chI at h;by_cases c1:((((Lib.runeCount (tx l):Nat):Int))==1)=true
 ·rw[if_pos c1]at h; cases h; exact qtj l
 rw[if_neg c1]at h;by_cases c2:(yv l).isSome=true
 ·rw[if_pos c2]at h; cases h; exact zxg l
 rw[if_neg c2]at h;by_cases c3:Lib.hasPrefix l [120]=true
 ·rw[if_pos c3]at h;obtain⟨v,h2,rfl⟩:=Option.map_eq_some_iff.1 h;exact jch h2
 ·rw[if_neg c3]at h; cases h
theorem um{k n:Int}{s:ByteArray}(h:jf k n Q6.zero s 0 0=true):jp zl (lfT k n s)=true:=by
 show(zl (lfT k n s)&&vj zl [])=true;rw[show zl (lfT k n s)=true from h];rfl
theorem zei{k:Int}(hk:k=5∨k=6){l:List UInt8}(h:Lib.validD l=true):jp zl (lfT k 0 (tx l))=true:=by
 refine um ?_;have ho:okS (tx l)=true:=by unfold okS; rw[xl]; exact h
 rcases hk with rfl | rfl
 ·show(okS (tx l)&&_)=true;rw[ho]; decide
 ·show(okS (tx l)&&_)=true;rw[ho]; decide
theorem zte{W:List UInt8}{t:Tr}(h:qdi W=some (t,false)):jp zl t=true:=by
 unfold qdi at h;by_cases c1:W=[35,116]
 ·rw[if_pos c1]at h; cases h; exact um (by decide)
 rw[if_neg c1]at h;by_cases c2:W=[35,84]
 ·rw[if_pos c2]at h; cases h; exact um (by decide)
 rw[if_neg c2]at h;by_cases c3:W=[35,102]
 ·rw[if_pos c3]at h; cases h; exact um (by decide)
 rw[if_neg c3]at h;by_cases c4:W=[35,70]
 ·rw[if_pos c4]at h; cases h; exact um (by decide)
 rw[if_neg c4]at h;by_cases c5:Lib.hasPrefix W [35,92]=true
 ·rw[if_pos c5]at h;obtain⟨v,h2,e⟩:=Option.map_eq_some_iff.1 h;cases e
  refine um ?_;show(xd v&&_)=true;rw[jrf h2]; decide
 rw[if_neg c5]at h;by_cases c6:(vd W 10).2=0
 ·rw[if_pos c6]at h;cases h
  show(zl (nuT (vd W 10).1)&&vj zl [])=true;have hs:=ztd W 10 c6;rw[show zl (nuT (vd W 10).1)=(jj (vd W 10).1&&vz 0 false 0 0 false 0 0 ⟨#[]⟩ 0 0)from rfl,hs];decide
 rw[if_neg c6]at h;by_cases c7:(vd W 10).2=4
 ·rw[if_pos c7]at h; cases h
 rw[if_neg c7]at h;obtain⟨v,h2,e⟩:=Option.map_eq_some_iff.1 h;cases e
 exact zei (.inr rfl) (jih h2)
theorem qch: ∀{ts:List Tr} {z:Tr},vj zl ts=true→jp zl z=true→jp zl (ke ts z)=true
 | [], z, _, h => h
 | t :: ts, z, h1, h => by
  obtain⟨a,b⟩:=Bool.and_eq_true_iff.1 (show(jp zl t&&vj zl ts)=true from h1);show(zl (.mk 8 0 Q6.zero ⟨#[]⟩ [] [t,ke ts z])&&(jp zl t&&(jp zl (ke ts z)&&true)))=true;rw[a,qch b h,show zl (.mk 8 0 Q6.zero ⟨#[]⟩ [] [t,ke ts z])=true from by show jf 8 0 Q6.zero ⟨#[]⟩ 0 2=true; decide];rfl
theorem qva: jp zl nilT=true:=by
 show(jf 1 0 Q6.zero ⟨#[]⟩ 0 0&&true)=true;decide
theorem ztf: jp zl zkg=true:=um (by show jf 6 0 Q6.zero ⟨#[113,117,111,116,101]⟩ 0 0=true; decide +kernel)
theorem ztg{ts:List Tr}(h:vj zl ts=true):jp zl (jbc ts)=true:=by
 show(jf 9 0 Q6.zero ⟨#[]⟩ 0 ts.length&&vj zl ts)=true;rw[h,show jf 9 0 Q6.zero ⟨#[]⟩ 0 ts.length=true from by show vz 0 false 0 0 false 0 0 ⟨#[]⟩ 0 0=true; decide];rfl
theorem zth(l:List UInt8):jp zl (zkj l)=true:=by
 show(jf 7 0 Q6.zero ⟨#[]⟩ l.length 0&&true)=true;rw[show jf 7 0 Q6.zero ⟨#[]⟩ l.length 0=true from by show vz 0 false 0 0 false 0 0 ⟨#[]⟩ 0 0=true; decide];rfl
theorem qvb: ∀f:Nat,(∀l t n,dat f l=some (t,n,false)→jp zl t=true)∧(∀e l ts n,itm f e l=some (ts,n,false)→vj zl ts=true)∧(∀e h l ts z n,lst f e h l=some (ts,z,n,false)→vj zl ts=true∧jp zl z=true)
 | 0 => ⟨fun l t n h => (by rw [dat] at h; cases h), fun e l ts n h => (by rw [itm] at h; cases h), fun e h l ts z n k => (by rw [lst] at k; cases k)⟩
 | f + 1 => by
  obtain⟨hd,hi,hl⟩:=qvb f;refine⟨fun l t n h=>?_,fun e l ts n h=>?_,fun e hh l ts z n h=>?_⟩
  ·rw[dat]at h;by_cases c1:Lib.hasPrefix l [40]=true
   ·rw[if_pos c1]at h;obtain⟨⟨ts,z,m,b⟩,hx,e⟩:=Option.map_eq_some_iff.1 h;cases e
    exact qch (hl _ _ _ _ _ _ hx).1 (hl _ _ _ _ _ _ hx).2
   rw[if_neg c1]at h;by_cases c2:Lib.hasPrefix l [91]=true
   ·rw[if_pos c2]at h;obtain⟨⟨ts,z,m,b⟩,hx,e⟩:=Option.map_eq_some_iff.1 h;cases e
    exact qch (hl _ _ _ _ _ _ hx).1 (hl _ _ _ _ _ _ hx).2
   rw[if_neg c2]at h;by_cases c3:Lib.hasPrefix l [35,40]=true
   ·rw[if_pos c3]at h;obtain⟨⟨ts,m,b⟩,hx,e⟩:=Option.map_eq_some_iff.1 h;cases e
    exact ztg (hi _ _ _ _ hx)
   rw[if_neg c3]at h;by_cases c4:Lib.hasPrefix l [35,118,117,56,40]=true
   ·rw[if_pos c4]at h;obtain⟨⟨us,m,b⟩,_,h⟩:=Option.bind_eq_some_iff.1 h;obtain⟨y,_,e⟩:=Option.map_eq_some_iff.1 h;cases e
    exact zth y
   rw[if_neg c4]at h;by_cases c5:Lib.hasPrefix l [39]=true
   ·rw[if_pos c5]at h;obtain⟨x,_,h⟩:=Option.bind_eq_some_iff.1 h;obtain⟨⟨y,m,b⟩,hy,e⟩:=Option.map_eq_some_iff.1 h;cases e
    exact qch (by show(jp zl zkg&&(jp zl y&&true))=true; rw[ztf,hd _ _ _ hy]; rfl) qva
   rw[if_neg c5]at h;by_cases c6:Lib.hasPrefix l [34]=true
   ·rw[if_pos c6]at h;obtain⟨x,hx,e⟩:=Option.map_eq_some_iff.1 h;cases e
    exact zei (.inl rfl) (zpg _ _ _ hx)
   rw[if_neg c6]at h;unfold qrb at h;by_cases c7:tkX l=[]
   ·rw[if_pos c7]at h; cases h
   ·rw[if_neg c7]at h;obtain⟨⟨x,b⟩,hx,e⟩:=Option.map_eq_some_iff.1 h;cases e
    exact zte hx
  ·rw[itm]at h;obtain⟨m,_,h⟩:=Option.bind_eq_some_iff.1 h;by_cases c:m.1=true
   ·rw[if_pos c]at h;obtain⟨⟨t,k,b⟩,h1,h⟩:=Option.bind_eq_some_iff.1 h;obtain⟨⟨us,k2,b2⟩,h2,e9⟩:=Option.map_eq_some_iff.1 h;have e2:(b||b2)=false:=(congrArg (fun x=>x.2.2) e9);obtain⟨rfl,rfl⟩:=Bool.or_eq_false_iff.1 e2;have e3:t::us=ts:=congrArg (fun x=>x.1) e9;subst e3;show(jp zl t&&vj zl us)=true;rw[hd _ _ _ h1,hi _ _ _ _ h2]; rfl
   ·rw[if_neg c]at h;cases h; rfl
  ·rw[lst]at h;obtain⟨m,_,h⟩:=Option.bind_eq_some_iff.1 h;by_cases c:m.1=true
   ·rw[if_pos c]at h;by_cases d:qkb (l.drop m.2)=true
    ·rw[if_pos d]at h;by_cases k:hh=true
     ·rw[if_pos k]at h; cases h
     rw[if_neg k]at h;obtain⟨b9,_,h⟩:=Option.bind_eq_some_iff.1 h;obtain⟨⟨t,k1,b⟩,h1,h⟩:=Option.bind_eq_some_iff.1 h;obtain⟨k3,_,h⟩:=Option.bind_eq_some_iff.1 h
     split at h
     ·cases h
     ·cases h
      exact⟨rfl,hd _ _ _ h1⟩
    ·rw[if_neg d]at h;obtain⟨⟨t,k1,b⟩,h1,h⟩:=Option.bind_eq_some_iff.1 h;obtain⟨⟨us,z2,k2,b2⟩,h2,e9⟩:=Option.map_eq_some_iff.1 h;have e2:(b||b2)=false:=(congrArg (fun x=>x.2.2.2) e9);obtain⟨rfl,rfl⟩:=Bool.or_eq_false_iff.1 e2;have e3:t::us=ts:=congrArg (fun x=>x.1) e9;have e4:z2=z:=congrArg (fun x=>x.2.1) e9;subst e3 e4;refine⟨?_,(hl _ _ _ _ _ _ h2).2⟩;show(jp zl t&&vj zl us)=true;rw[hd _ _ _ h1,(hl _ _ _ _ _ _ h2).1]; rfl
   ·rw[if_neg c]at h;cases h
    exact⟨rfl,qva⟩
theorem jci{L:List UInt8}(h:(rdX L).1=0):ku zl (rdX L).2.2=true:=by
 have hl:=zeg h;rw[jce (by omega)]at h ⊢;unfold frX at h ⊢;cases hs:skp (2*L.length+1) L with
 | none => rw [hs] at h; cases h
 | some a =>
  rw[hs]at h;simp only at h ⊢;by_cases c:(L.drop a).isEmpty=true
  ·rw[if_pos c]at h; cases h
  rw[if_neg c]at h ⊢;cases hd:dat (2*L.length+1) (L.drop a)with
  | none => rw [hd] at h; cases h
  | some r =>
   rw[hd]at h;simp only at h ⊢;by_cases v:Lib.validD (L.take (a+r.2.1))=true
   ·rw[if_pos v]at h ⊢;by_cases b:r.2.2=true
    ·rw[if_pos b]at h; cases h
    rw[if_neg b]at h ⊢;by_cases ft:(jo 1 20000 r.1).1=true
    ·rw[if_pos ft];show ku zl r.1=true;unfold ku;obtain⟨t,n,b9⟩:=r;have e:b9=false:=(by simpa using b);subst e;rw[show(jo 1 20000 t).1=true from ft,(qvb _).1 _ _ _ hd];rfl
    ·rw[if_neg ft]at h; cases h
   ·rw[if_neg v]at h; cases h
theorem TrU_is1_21: Is1 Tryz.prog 21:=⟨⟨_,Tryz.underlying21,rfl⟩,by kernel_rfl⟩
theorem TrU_is1_5: Is1 Tryz.prog 5:=⟨⟨_,Tryz.underlying5,rfl⟩,by kernel_rfl⟩
open Go.Lib
theorem qmf{f p:Nat}{l:List UInt8}(hl:l≠[]):kk (f+1) p l=((p:Int),uR (decodeL l).1 (decodeL l).2)::kk f (p+(decodeL l).2) (l.drop (decodeL l).2):=by
 conv=>lhs; unfold kk
 rw[if_neg hl]
theorem zph{w:World}{so:Option Addr}{l:List UInt8}{i:Nat}(h:Rb w so l)(hi:i<l.length):∃b off,so=some ⟨b,off,none⟩∧b<w.heap.size∧∀j,j<l.length→w.cell? ⟨b,off+j,none⟩=some (.int .u8 (((l.getD j 0).toNat:Nat):Int)):=
 h.pos (fun k=>by rw[k]at hi; exact absurd hi (Nat.not_lt_zero _))
def xe(us:List (Int×Int)):List Value:=us.flatMap fun u=>if u.2=-1 then[.int .i32 0,bV true,iV u.1]else[.int .i32 u.2,bV false,iV u.1]
theorem qzg{x:Int}(i:Nat)(m:Int)(hm:m=((2^i-1:Nat):Int))(hs:m≤255)(h0:0≤x)(h1:x≤255):bits .and .u8 x m=x%((2^i:Nat):Int):=by
 obtain⟨n,rfl⟩:∃n:Nat,x=(n:Int):=⟨x.toNat,by omega⟩;subst hm;have h2:n &&& (2^i-1)=n%2^i:=Nat.and_two_pow_sub_one_eq_mod n i;have e:(BitVec.ofInt IntKind.u8.bits (n:Int) &&& BitVec.ofInt IntKind.u8.bits (((2^i-1:Nat)):Int)).toNat=n%2^i:=by
  rw[←h2,BitVec.ofInt_natCast,BitVec.ofInt_natCast,BitVec.toNat_and,BitVec.toNat_ofNat,BitVec.toNat_ofNat];show n%256 &&& (2^i-1)%256=_;rw[Nat.mod_eq_of_lt (by omega),Nat.mod_eq_of_lt (by omega)]
 show IntKind.u8.wrap ((BitVec.ofInt IntKind.u8.bits (n:Int) &&& BitVec.ofInt IntKind.u8.bits (((2^i-1:Nat)):Int)).toNat:Int)=_;rw[e];have:=Nat.mod_le n (2^i);exact(in_u8 (by omega) (by omega)).trans (Int.natCast_emod n (2^i))
theorem jne{c x:Int}(h0:0≤c)(h1:c≤33554431)(h2:0≤x)(h3:x≤63):bits .or .i32 (c*64) x=c*64+x:=by
 obtain⟨a,rfl⟩:∃a:Nat,c=(a:Int):=⟨c.toNat,by omega⟩;obtain⟨n,rfl⟩:∃n:Nat,x=(n:Int):=⟨x.toNat,by omega⟩;have:=Nat.two_pow_add_eq_or_of_lt (i:=6) (b:=n) (by omega) a;rw[show(2:Nat)^6=64 from rfl]at this;have e:=jlc (64*a) n (by omega) (by omega);rw[show(((64*a:Nat)):Int)=(a:Int)*64 from by omega]at e;rw[e,←this];omega
def qmg(l:List UInt8)(i:Nat):List (Int×Int):=kk (l.length-i) i (l.drop i)
theorem zlc(l:List UInt8):qmg l 0=jv l:=by unfold qmg jv; rw[List.drop_zero,Nat.sub_zero]
theorem zld{l:List UInt8}{i:Nat}(h:¬i<l.length):qmg l i=[]:=by unfold qmg; rw[show l.length-i=0 from by omega]; rfl
theorem qrh{l:List UInt8}{i r q:Nat}(h:i<l.length)(e:decodeN (l.length-i) (l.getD i 0).toNat (l.getD (i+1) 0).toNat (l.getD (i+2) 0).toNat (l.getD (i+3) 0).toNat=(r,q)):qmg l i=((i:Int),uR r q)::qmg l (i+q):=by
 have hne:l.drop i≠[]:=fun k=>by
  have:=congrArg List.length k;rw[List.length_drop,List.length_nil]at this;omega
 have hd:decodeL (l.drop i)=(r,q):=by
  rw[decodeL_N,qbg,qbg,qbg,qbg,List.length_drop];exact e
 have hw:=kq _ hne;rw[hd,List.length_drop]at hw;simp only at hw;unfold qmg;obtain⟨m,hm⟩:∃m,l.length-i=m+1:=⟨l.length-i-1,by omega⟩;rw[hm,qmf hne,hd,List.drop_drop];simp only;rw[qld m (l.length-(i+q)) _ _ (by rw[List.length_drop]; omega) (by rw[List.length_drop]; omega)]
def LeadU(x n:Nat)(r:Int):Prop:=(x<128∧n=1∧r=x)∨(192≤x∧x<224∧n=2∧r=x%32)∨(224≤x∧x<240∧n=3∧r=x%16)∨(240≤x∧x<248∧n=4∧r=x%8)∨((128≤x∧x<192∨248≤x)∧n=0∧r=0)
def ContU(len i n:Nat)(b1 b2 b3:Nat)(r:Int)(k:Nat)(rk:Int)(ok:Bool):Prop:=(ok=true∧0<n∧i+n≤len∧k≤n∧((k=1∧rk=r)∨(k=2∧b1 / 64=2∧rk=r*64+((b1%64:Nat):Int))∨(k=3∧b1 / 64=2∧b2 / 64=2∧rk=(r*64+((b1%64:Nat):Int))*64+((b2%64:Nat):Int))∨(k=4∧b1 / 64=2∧b2 / 64=2∧b3 / 64=2∧rk=((r*64+((b1%64:Nat):Int))*64+((b2%64:Nat):Int))*64+((b3%64:Nat):Int)))) ∨
 (ok=false∧(¬(0<n∧i+n≤len)∨(1<n∧b1 / 64≠2)∨(2<n∧b2 / 64≠2)∨(3<n∧b3 / 64≠2)))
def qhc(n:Nat):Int:=if n=2 then 128 else if n=3 then 2048 else 65536
theorem jcj{n:Nat}(h0:2≤n)(h1:n≤4):([.int .i32 0,.int .i32 0,.int .i32 128,.int .i32 2048,.int .i32 65536]:List Value)[n*1]?=some (.int .i32 (qhc n)):=by
 have h:n=2∨n=3∨n=4:=by omega
 rcases h with rfl | rfl | rfl<;>rfl
theorem jnf{x n:Nat}{r:Int}(h:LeadU x n r):n≤4∧0≤r∧r≤127∧(1<n→r≤31):=by unfold LeadU at h; omega
theorem zle{len i n b1 b2 b3:Nat}{r:Int}{ok:Bool}(h:ok=decide (0<n∧i+n≤len)):ContU len i n b1 b2 b3 r 1 r ok:=by
 unfold ContU;by_cases k:0<n∧i+n≤len
 ·exact .inl ⟨by rw[h,decide_eq_true k],k.1,k.2,by omega,.inl ⟨rfl,rfl⟩⟩
 ·exact .inr ⟨by rw[h,decide_eq_false k],.inl k⟩
theorem zti{l:List UInt8}{i n k:Nat}{r rk:Int}(hn:n≤4)(h:ContU l.length i n (l.getD (i+1) 0).toNat (l.getD (i+2) 0).toNat (l.getD (i+3) 0).toNat r k rk true)(hk:k<n):ContU l.length i n (l.getD (i+1) 0).toNat (l.getD (i+2) 0).toNat (l.getD (i+3) 0).toNat r (k+1) (rk*64+(((l.getD (i+k) 0).toNat:Nat):Int)%64) ((((l.getD (i+k) 0).toNat:Nat):Int) / 64==2):=by
 rcases h with⟨_,h1,h2,h3,h4⟩ | ⟨h,_⟩
 ·unfold ContU;have e:k=1∨k=2∨k=3:=by omega
  rcases e with rfl | rfl | rfl
  ·by_cases hb:(((l.getD (i+1) 0).toNat:Nat):Int) / 64=2
   ·exact .inl ⟨beq_iff_eq.2 hb,h1,h2,by omega,by omega⟩
   ·exact .inr ⟨beq_eq_false_iff_ne.2 hb,by omega⟩
  ·by_cases hb:(((l.getD (i+2) 0).toNat:Nat):Int) / 64=2
   ·exact .inl ⟨beq_iff_eq.2 hb,h1,h2,by omega,by omega⟩
   ·exact .inr ⟨beq_eq_false_iff_ne.2 hb,by omega⟩
  ·by_cases hb:(((l.getD (i+3) 0).toNat:Nat):Int) / 64=2
   ·exact .inl ⟨beq_iff_eq.2 hb,h1,h2,by omega,by omega⟩
   ·exact .inr ⟨beq_eq_false_iff_ne.2 hb,by omega⟩
 ·cases h
theorem yz{len i n b1 b2 b3 k:Nat}{r rk:Int}(h:ContU len i n b1 b2 b3 r k rk true):0<n∧i+n≤len∧k≤n∧1≤k∧(0≤r→r≤31→k≤3→0≤rk∧rk≤200000)∧(0≤r→r≤31→0≤rk∧rk≤40000000)∧(k=1→rk=r):=by
 rcases h with⟨_,h1,h2,h3,h4⟩ | ⟨h,_⟩
 ·omega
 ·cases h
def EndU(len i n:Nat)(b0 b1 b2 b3:Nat)(rk:Int)(ok:Bool):Prop:=(ok=true∧decodeN (len-i) b0 b1 b2 b3=(rk.toNat,n)∧uR rk.toNat n=rk∧0≤rk∧1≤n∧i+n≤len)∨(ok=false∧decodeN (len-i) b0 b1 b2 b3=(65533,1))
theorem zlf{len i n b0 b1 b2 b3:Nat}{r rk:Int}(hi:i<len)(h0:b0<256)(hL:LeadU b0 n r)(hC:ContU len i n b1 b2 b3 r n rk true)(h:n=1∨(qhc n≤rk∧rk≤1114111∧(rk<55296∨57343<rk))):EndU len i n b0 b1 b2 b3 rk true:=by
 rcases hC with⟨_,h1,h2,h3,h4⟩ | ⟨h,_⟩
 ·unfold LeadU at hL;unfold qhc at h;have hn:n=1∨n=2∨n=3∨n=4:=by omega
  refine .inl ⟨rfl,?_,?_,by rcases hn with rfl | rfl | rfl | rfl<;>omega,h1,h2⟩
  ·unfold decodeN;rcases hn with rfl | rfl | rfl | rfl
   ·rw[if_pos (by omega)];exact Prod.ext (by show b0=rk.toNat; omega) rfl
   ·simp only[if_true]at h;rw[if_neg (by omega),if_pos (by omega),if_pos (by omega)];exact Prod.ext (by show(_:Nat)=rk.toNat; omega) rfl
   ·rw[if_neg (show ¬3=2 by decide),if_pos rfl]at h;rw[if_neg (by omega),if_neg (by omega),if_pos (by omega),if_pos (by omega)];exact Prod.ext (by show(_:Nat)=rk.toNat; omega) rfl
   ·rw[if_neg (show ¬4=2 by decide),if_neg (show ¬4=3 by decide)]at h;rw[if_neg (by omega),if_neg (by omega),if_neg (by omega),if_pos (by omega),if_pos (by omega)];exact Prod.ext (by show(_:Nat)=rk.toNat; omega) rfl
  ·unfold uR;rw[if_neg (by rcases hn with rfl | rfl | rfl | rfl<;>omega)];rcases hn with rfl | rfl | rfl | rfl<;>omega
 ·cases h
theorem qzh{len i n b0 b1 b2 b3 k:Nat}{r rk:Int}{ok:Bool}(hi:i<len)(h0:b0<256)(hL:LeadU b0 n r)(hC:ContU len i n b1 b2 b3 r k rk ok)(hk:ok=true→k=n)(h:ok=false∨(n≠1∧¬(qhc n≤rk∧rk≤1114111∧(rk<55296∨57343<rk)))):EndU len i n b0 b1 b2 b3 rk false:=by
 refine .inr ⟨rfl,?_⟩;unfold LeadU at hL;unfold decodeN;rcases hC with⟨hb,h1,h2,h3,h4⟩ | ⟨hb,h4⟩
 ·have hkn:=hk hb;subst hkn;rcases h with h | ⟨h5,h6⟩
  ·rw[hb]at h; cases h
  ·have hn:k=2∨k=3∨k=4:=(by omega);unfold qhc at h6;rcases hn with rfl | rfl | rfl
   ·simp only[if_true]at h6;rw[if_neg (by omega),if_pos (by omega),if_neg (by omega)]
   ·rw[if_neg (show ¬3=2 by decide),if_pos rfl]at h6;rw[if_neg (by omega),if_neg (by omega),if_pos (by omega),if_neg (by omega)]
   ·rw[if_neg (show ¬4=2 by decide),if_neg (show ¬4=3 by decide)]at h6;rw[if_neg (by omega),if_neg (by omega),if_neg (by omega),if_pos (by omega),if_neg (by omega)]
 ·rw[if_neg (by omega),if_neg (by omega),if_neg (by omega),if_neg (by omega)]
theorem ztj{w:World}{so:Option Addr}{cap:Nat}{l:List UInt8}(hb:Rb w so l)(hlen:l.length≤4000000):Calls Tryz.prog 101 #[.slice so l.length cap] w fun e w'=>∃v,e=.returned v∧Mg w w' [.row 98 3 v (jv l).length (xe (jv l))]:=by
 have M:Mg w w ([]):=Mg.start w;refine qn (l:=[(0,.slice so l.length cap)]) Tryz.func101 rfl Tryz.ntmps101 rfl rfl ?_;intro Q hret hnorm hP a A;refine wsk fun K1 hK1=>wrl (sda A λa A=>?_);refine qa (hK1 _ _ (wsk fun K2 hK2=>wrl (qgg (e:=98) (sz:=3) (m:=0) (vs:=[]) A M rfl rfl rfl (zw rfl (by kernel_rfl)) rfl rfl (.inl (by decide)) ?_)));intro g3 w4 M a A;refine sda A λa A=>?_;refine qa (hK2 _ _ (wsk fun K5 hK5=>wsk fun K6 hK6=>wrl (sda A λa A=>?_)));refine qa (hK6 _ _ (wp_block (jd (fun m_ a w1=>∃(i:Nat) (acc:List (Int×Int)) (vo:Value),m_=l.length-i∧(acc++qmg l i=jv l∧i≤l.length∧acc.length≤i)∧Sl a 122 [(0,.slice so l.length cap),(2,.slice none 0 0),(3,vo),(4,iV (((i:Nat):Int))),(12,.slice (aO g3) 0 0)]∧Mg w w1 (.row 98 3 (vo) acc.length ((xe acc))::[])) _ ⟨0,[],.slice (aO g3) 0 0,rfl,⟨by rw[zlc]; rfl,Nat.zero_le _,Nat.le_refl _⟩,A.keep _ ⟨rfl,rfl,rfl,rfl,rfl,trivial⟩,M⟩ ?_)));clear M A;rintro m_ a w7 ⟨i,acc,vo,rfl,hinv9,A,M⟩ K8 hK8;obtain⟨hrun,hi9,hacc⟩:=hinv9;refine wsk fun K10 hK10=>wsk fun K11 hK11=>wrl ?_;iterate 2 refine sdm A λa A=>?_
 refine sdo A (zh Tryz.underlying27 rfl) λa A=>?_;rcases tf (decide (((i:Nat):Int)<((l.length:Nat):Int)))with hb12 | hb12
 ·have hb12':=of_decide_eq_true hb12;refine sdc A zr hb12 λa A=>?_;refine qa (hK11 _ _ (ct A ?_));refine wp_skip (hK10 _ _ (wp_block (wsk fun K13 hK13=>wrl ?_)));iterate 2 refine sda A λa A=>?_
  refine qa (hK13 _ _ (wsk fun K14 hK14=>?_));have hi8:i<l.length:=by omega
  refine wrl ?_;iterate 2 refine sdm A λa A=>?_
  obtain⟨bx,ox,hx1,hx2,hx3⟩:=zph (i:=i) hb (by omega);have hu9:=(l.getD (i) 0).toNat_lt;refine sdo (v:=pA bx (ox+(i))) A (je (k:=i) Tryz.underlying27 (by kernel_rfl) rfl rfl rfl hx1 (by omega)) λa A=>?_;refine sdo (v:=.int .u8 ((((l.getD i 0).toNat:Nat):Int))) A (znb M hx2 (hx3 (i) (by omega)) TrU_is1_5 rfl) λa A=>?_;refine sda A λa A=>?_;refine qa (hK14 _ _ (wsk fun K15 hK15=>?_));have hJ16:∀a w1,(∃(n:Nat) (r:Int),(LeadU (l.getD i 0).toNat n r)∧Sl a 122 [(0,.slice so l.length cap),(2,.slice none 0 0),(3,vo),(4,iV (((i:Nat):Int))),(5,iV (((n:Nat):Int))),(6,.int .i32 r),(12,.slice (aO g3) 0 0),(13,iV (((i:Nat):Int))),(14,.slice so l.length cap),(15,iV (((l.length:Nat):Int))),(16,bV true),(17,.slice so l.length cap),(18,iV (((i:Nat):Int))),(19,pA bx (ox+(i))),(20,.int .u8 ((((l.getD i 0).toNat:Nat):Int)))]∧Mg w w1 (.row 98 3 (vo) acc.length ((xe acc))::[]))→K15 a w1:=by
   clear A M;rintro a w17 ⟨n,r,hf18,A,M⟩;have hL:=hf18;have hn4:=jnf hL;refine hK15 _ _ (wsk fun K19 hK19=>?_);have hJ20:∀a w1,(∃(ok:Bool),(ok=decide (0<n∧i+n≤l.length))∧Sl a 122 [(0,.slice so l.length cap),(2,.slice none 0 0),(3,vo),(4,iV (((i:Nat):Int))),(5,iV (((n:Nat):Int))),(6,.int .i32 r),(8,bV ok),(12,.slice (aO g3) 0 0),(13,iV (((i:Nat):Int))),(14,.slice so l.length cap),(15,iV (((l.length:Nat):Int))),(16,bV true),(17,.slice so l.length cap),(18,iV (((i:Nat):Int))),(19,pA bx (ox+(i))),(20,.int .u8 ((((l.getD i 0).toNat:Nat):Int)))]∧Mg w w1 (.row 98 3 (vo) acc.length ((xe acc))::[]))→K19 a w1:=by
    clear A M;rintro a w21 ⟨ok,hf22,A,M⟩;have hok:=hf22;refine hK19 _ _ (wsk fun K23 hK23=>?_);have hJ24:∀a w1,(∃(k:Nat) (rk:Int) (ok3:Bool),(ContU l.length i n (l.getD (i+1) 0).toNat (l.getD (i+2) 0).toNat (l.getD (i+3) 0).toNat r k rk ok3∧(ok3=true→k=n))∧Sl a 122 [(0,.slice so l.length cap),(2,.slice none 0 0),(3,vo),(4,iV (((i:Nat):Int))),(5,iV (((n:Nat):Int))),(6,.int .i32 rk),(8,bV ok3),(12,.slice (aO g3) 0 0),(13,iV (((i:Nat):Int))),(14,.slice so l.length cap),(15,iV (((l.length:Nat):Int))),(16,bV true),(17,.slice so l.length cap),(18,iV (((i:Nat):Int))),(19,pA bx (ox+(i))),(20,.int .u8 ((((l.getD i 0).toNat:Nat):Int)))]∧Mg w w1 (.row 98 3 (vo) acc.length ((xe acc))::[]))→K23 a w1:=by
     clear A M;rintro a w25 ⟨k,rk,ok3,hf26,A,M⟩;obtain⟨hC,hkn⟩:=hf26;refine hK23 _ _ (wsk fun K27 hK27=>?_);have hJ28:∀a w1,(∃(ok4:Bool),(EndU l.length i n (l.getD i 0).toNat (l.getD (i+1) 0).toNat (l.getD (i+2) 0).toNat (l.getD (i+3) 0).toNat rk ok4)∧Sl a 122 [(0,.slice so l.length cap),(2,.slice none 0 0),(3,vo),(4,iV (((i:Nat):Int))),(5,iV (((n:Nat):Int))),(6,.int .i32 rk),(8,bV ok4),(12,.slice (aO g3) 0 0),(13,iV (((i:Nat):Int))),(14,.slice so l.length cap),(15,iV (((l.length:Nat):Int))),(16,bV true),(17,.slice so l.length cap),(18,iV (((i:Nat):Int))),(19,pA bx (ox+(i))),(20,.int .u8 ((((l.getD i 0).toNat:Nat):Int)))]∧Mg w w1 (.row 98 3 (vo) acc.length ((xe acc))::[]))→K27 a w1:=by
      clear A M;rintro a w29 ⟨ok4,hf30,A,M⟩;have hE:=hf30;refine hK27 _ _ (wsk fun K31 hK31=>wrl (sdm A λa A=>?_));refine qa (hK31 _ _ ?_);refine wp_cond_split (t:=ok4) (A.ev rfl) (fun hc32=>?_) (fun hc32=>?_)
      ·refine wsk fun K33 hK33=>wrl ?_;iterate 3 refine sdm A λa A=>?_
       refine sdo (v:=.agg #[.int .i32 rk,bV false,iV (((i:Nat):Int))]) A (qt rfl (fun w=>by kernel_rfl)) λa A=>?_;refine qgg (e:=98) (sz:=3) (m:=1) (vs:=[.int .i32 rk,bV false,iV (((i:Nat):Int))]) A M rfl rfl rfl (zw rfl (by kernel_rfl)) rfl rfl (.inl (by decide)) ?_;intro g34 w35 M a A;refine qti (e:=98) (sz:=3) (k:=1) (q:=acc.length) (m:=1) (xs:=(xe acc)) (news:=[.int .i32 rk,bV false,iV (((i:Nat):Int))]) (L':=fun v36=>(.row 98 3 (.slice (aO g34) 1 1) 1 ([.int .i32 rk,bV false,iV (((i:Nat):Int))])::.row 98 3 (v36) (acc.length+1) ((xe acc)++[.int .i32 rk,bV false,iV (((i:Nat):Int))])::[])) A rfl rfl rfl (qth (z:=.agg #[.int .i32 0,bV false,iV 0]) (sz:=3) (by_:=16) Tryz.underlying95 (by kernel_rfl) rfl rfl rfl M 1 rfl rfl 0 rfl rfl rfl rfl (by omega)) (fun _=>rfl) ?_;intro v36 w37 M a A;refine sda A λa A=>?_;refine qa (hK33 _ _ (wrl ?_));iterate 2 refine sdm A λa A=>?_
       refine sdo (v:=iV (((i+n:Nat):Int))) A (qe rfl rfl (ar_add ((in_i64 (by omega) (by omega)).trans (by omega)))) λa A=>?_;refine sda A λa A=>?_;refine qa ?_;obtain⟨hd,hr9,hrk,hn1,hn2⟩:decodeN (l.length-i) (l.getD i 0).toNat (l.getD (i+1) 0).toNat (l.getD (i+2) 0).toNat (l.getD (i+3) 0).toNat=(rk.toNat,n)∧uR rk.toNat n=rk∧0≤rk∧1≤n∧i+n≤l.length:=by
        rcases hE with⟨_,h⟩ | ⟨h,_⟩
        ·exact h
        ·rw[hc32]at h; cases h
       have hs9:=qrh hi8 hd;rw[hr9]at hs9;replace M:Mg w w37 [.row 98 3 v36 (acc++[((i:Int),rk)]).length (xe (acc++[((i:Int),rk)]))]:=by
        have h9:=M.sub (cN (cC (.refl _)));have e9:xe (acc++[((i:Int),rk)])=xe acc++[.int .i32 rk,bV false,iV (((i:Nat):Int))]:=by
         unfold xe;rw[List.flatMap_append,List.flatMap_singleton];rw[if_neg (show ¬_=(-1:Int)by simp only; omega)]
        rw[e9,List.length_append];exact h9
       refine hK8 _ _ _ (by omega) ⟨i+n,acc++[((i:Int),rk)],v36,rfl,⟨by rw[←hrun,hs9,List.append_assoc]; rfl,by omega,by rw[List.length_append]; simp only[List.length_cons,List.length_nil]; omega⟩,A.keep _ ⟨rfl,rfl,rfl,rfl,rfl,trivial⟩,M⟩
      ·refine wsk fun K38 hK38=>wrl ?_;iterate 2 refine sdm A λa A=>?_
       refine sdo (v:=.agg #[.int .i32 0,bV true,iV (((i:Nat):Int))]) A (qt rfl (fun w=>by kernel_rfl)) λa A=>?_;refine qgg (e:=98) (sz:=3) (m:=1) (vs:=[.int .i32 0,bV true,iV (((i:Nat):Int))]) A M rfl rfl rfl (zw rfl (by kernel_rfl)) rfl rfl (.inl (by decide)) ?_;intro g39 w40 M a A;refine qti (e:=98) (sz:=3) (k:=1) (q:=acc.length) (m:=1) (xs:=(xe acc)) (news:=[.int .i32 0,bV true,iV (((i:Nat):Int))]) (L':=fun v41=>(.row 98 3 (.slice (aO g39) 1 1) 1 ([.int .i32 0,bV true,iV (((i:Nat):Int))])::.row 98 3 (v41) (acc.length+1) ((xe acc)++[.int .i32 0,bV true,iV (((i:Nat):Int))])::[])) A rfl rfl rfl (qth (z:=.agg #[.int .i32 0,bV false,iV 0]) (sz:=3) (by_:=16) Tryz.underlying95 (by kernel_rfl) rfl rfl rfl M 1 rfl rfl 0 rfl rfl rfl rfl (by omega)) (fun _=>rfl) ?_;intro v41 w42 M a A;refine sda A λa A=>?_;refine qa (hK38 _ _ (wrl (sdm A λa A=>?_)));refine sdo (v:=iV (((i+1:Nat):Int))) A (qe rfl rfl (ar_add ((in_i64 (by omega) (by omega)).trans (by omega)))) λa A=>?_;refine sda A λa A=>?_;refine qa ?_;have hd:decodeN (l.length-i) (l.getD i 0).toNat (l.getD (i+1) 0).toNat (l.getD (i+2) 0).toNat (l.getD (i+3) 0).toNat=(65533,1):=by
        rcases hE with⟨h,_⟩ | ⟨_,h⟩
        ·rw[hc32]at h; cases h
        ·exact h
       have hr9:uR 65533 1=-1:=(by unfold uR; rw[if_pos ⟨rfl,by decide⟩]);have hs9:=qrh hi8 hd;rw[hr9]at hs9;replace M:Mg w w42 [.row 98 3 v41 (acc++[((i:Int),(-1))]).length (xe (acc++[((i:Int),(-1))]))]:=by
        have h9:=M.sub (cN (cC (.refl _)));have e9:xe (acc++[((i:Int),(-1))])=xe acc++[.int .i32 0,bV true,iV (((i:Nat):Int))]:=by
         unfold xe;rw[List.flatMap_append,List.flatMap_singleton];rw[if_pos rfl]
        rw[e9,List.length_append];exact h9
       refine hK8 _ _ _ (by omega) ⟨i+1,acc++[((i:Int),(-1))],v41,rfl,⟨by rw[←hrun,hs9,List.append_assoc]; rfl,by omega,by rw[List.length_append]; simp only[List.length_cons,List.length_nil]; omega⟩,A.keep _ ⟨rfl,rfl,rfl,rfl,rfl,trivial⟩,M⟩
     refine wsk fun K43 hK43=>wrl ?_;iterate 2 refine sdm A λa A=>?_
     rcases ok3 with _ | _
     ·iterate 2 refine qg A rfl rfl rfl λa A=>?_
      refine sdk (v:=bV false) A λa A=>?_;refine qa (hK43 _ _ (cf A ?_));refine wp_skip ?_;replace M:Mg w w25 (.row 98 3 (vo) acc.length ((xe acc))::[]):=by
       have h9:=M.sub (cC (.refl _));exact h9
      exact hJ28 _ _ ⟨false,qzh hi8 ((l.getD i 0).toNat_lt) hL hC hkn (.inl rfl),A.keep _ (by repeat' constructor),M⟩
     ·refine sdm A λa A=>?_;rcases tf (decide (1<((n:Nat):Int)))with hb44 | hb44
      ·have hb44':=of_decide_eq_true hb44;refine sdc A zp hb44 λa A=>?_;refine sdk (v:=bV true) A λa A=>?_;refine qa (hK43 _ _ (ct A ?_));refine wsk fun K45 hK45=>wrl (qgg (e:=21) (sz:=1) (m:=5) (vs:=[.int .i32 0,.int .i32 0,.int .i32 128,.int .i32 2048,.int .i32 65536]) A M rfl rfl rfl (zw rfl (by kernel_rfl)) rfl rfl (.inl (by decide)) ?_);intro g46 w47 M a A;refine sda A λa A=>?_;refine qa (hK45 _ _ ?_);have hc9:=yz hC;refine wrl ?_;iterate 3 refine sdm A λa A=>?_
       refine sdo (v:=pA g46 (n*1)) A (qlh (k:=n) Tryz.underlying150 (by kernel_rfl) rfl rfl rfl (by omega)) λa A=>?_;refine sdo (v:=.int .i32 (qhc n)) A (znc M 0 rfl (jcj (by omega) (by omega)) TrU_is1_21 rfl) λa A=>?_;rcases tf (decide (qhc n≤rk))with hb48 | hb48
       ·have hb48':=of_decide_eq_true hb48;refine sdc A jb hb48 λa A=>?_;iterate 2 refine sdm A λa A=>?_
        rcases tf (decide (rk≤1114111))with hb49 | hb49
        ·have hb49':=of_decide_eq_true hb49;refine sdc A jc hb49 λa A=>?_;refine sdk (v:=bV true) A λa A=>?_;iterate 2 refine sdm A λa A=>?_
         rcases tf (decide (rk<55296))with hb50 | hb50
         ·have hb50':=of_decide_eq_true hb50;refine sdc A zr hb50 λa A=>?_;refine sdm A λa A=>?_;iterate 2 refine qg A rfl rfl rfl λa A=>?_
          iterate 2 refine sdk (v:=bV true) A λa A=>?_
          refine sda A λa A=>?_;refine qa ?_;replace M:Mg w w47 (.row 98 3 (vo) acc.length ((xe acc))::[]):=by
           have h9:=M.sub (cN (cC (.refl _)));exact h9
          have hc8:=yz hC;exact hJ28 _ _ ⟨true,zlf hi8 ((l.getD i 0).toNat_lt) hL (hkn rfl▸hC) (by omega),A.keep _ (by repeat' constructor),M⟩
         ·have hb50':=of_decide_eq_false hb50;refine sdc A zr hb50 λa A=>?_;iterate 2 refine sdm A λa A=>?_
          rcases tf (decide (57343<rk))with hb51 | hb51
          ·have hb51':=of_decide_eq_true hb51;refine sdc A zp hb51 λa A=>?_;iterate 2 refine sdk (v:=bV true) A λa A=>?_
           refine sda A λa A=>?_;refine qa ?_;replace M:Mg w w47 (.row 98 3 (vo) acc.length ((xe acc))::[]):=by
            have h9:=M.sub (cN (cC (.refl _)));exact h9
           have hc8:=yz hC;exact hJ28 _ _ ⟨true,zlf hi8 ((l.getD i 0).toNat_lt) hL (hkn rfl▸hC) (by omega),A.keep _ (by repeat' constructor),M⟩
          ·have hb51':=of_decide_eq_false hb51;refine sdc A zp hb51 λa A=>?_;iterate 2 refine sdk (v:=bV false) A λa A=>?_
           refine sda A λa A=>?_;refine qa ?_;replace M:Mg w w47 (.row 98 3 (vo) acc.length ((xe acc))::[]):=by
            have h9:=M.sub (cN (cC (.refl _)));exact h9
           have hc8:=yz hC;exact hJ28 _ _ ⟨false,qzh hi8 ((l.getD i 0).toNat_lt) hL hC hkn (.inr ⟨by omega,by omega⟩),A.keep _ (by repeat' constructor),M⟩
        ·have hb49':=of_decide_eq_false hb49;refine sdc A jc hb49 λa A=>?_;refine sdk (v:=bV false) A λa A=>?_;refine sdm A λa A=>?_;iterate 3 refine qg A rfl rfl rfl λa A=>?_
         iterate 2 refine xw A rfl rfl rfl λa A=>?_
         refine qg A rfl rfl rfl λa A=>?_;refine sdk (v:=bV false) A λa A=>?_;refine sda A λa A=>?_;refine qa ?_;replace M:Mg w w47 (.row 98 3 (vo) acc.length ((xe acc))::[]):=by
          have h9:=M.sub (cN (cC (.refl _)));exact h9
         have hc8:=yz hC;exact hJ28 _ _ ⟨false,qzh hi8 ((l.getD i 0).toNat_lt) hL hC hkn (.inr ⟨by omega,by omega⟩),A.keep _ (by repeat' constructor),M⟩
       ·have hb48':=of_decide_eq_false hb48;refine sdc A jb hb48 λa A=>?_;refine sdm A λa A=>?_;iterate 2 refine qg A rfl rfl rfl λa A=>?_
        refine sdk (v:=bV false) A λa A=>?_;refine sdm A λa A=>?_;iterate 3 refine qg A rfl rfl rfl λa A=>?_
        iterate 2 refine xw A rfl rfl rfl λa A=>?_
        refine qg A rfl rfl rfl λa A=>?_;refine sdk (v:=bV false) A λa A=>?_;refine sda A λa A=>?_;refine qa ?_;replace M:Mg w w47 (.row 98 3 (vo) acc.length ((xe acc))::[]):=by
         have h9:=M.sub (cN (cC (.refl _)));exact h9
        have hc8:=yz hC;exact hJ28 _ _ ⟨false,qzh hi8 ((l.getD i 0).toNat_lt) hL hC hkn (.inr ⟨by omega,by omega⟩),A.keep _ (by repeat' constructor),M⟩
      ·have hb44':=of_decide_eq_false hb44;refine sdc A zp hb44 λa A=>?_;refine sdk (v:=bV false) A λa A=>?_;refine qa (hK43 _ _ (cf A ?_));refine wp_skip ?_;replace M:Mg w w25 (.row 98 3 (vo) acc.length ((xe acc))::[]):=by
        have h9:=M.sub (cC (.refl _));exact h9
       have hc8:=yz hC;exact hJ28 _ _ ⟨true,zlf hi8 ((l.getD i 0).toNat_lt) hL (hkn rfl▸hC) (by omega),A.keep _ (by repeat' constructor),M⟩
    refine wsk fun K52 hK52=>wrl (sda A λa A=>?_);refine qa (hK52 _ _ (wp_block (jd (fun m_ a w1=>∃(k:Nat) (rk:Int) (ok2:Bool),m_=5-k∧(ContU l.length i n (l.getD (i+1) 0).toNat (l.getD (i+2) 0).toNat (l.getD (i+3) 0).toNat r k rk ok2)∧Sl a 122 [(0,.slice so l.length cap),(2,.slice none 0 0),(3,vo),(4,iV (((i:Nat):Int))),(5,iV (((n:Nat):Int))),(6,.int .i32 rk),(8,bV ok2),(9,iV (((k:Nat):Int))),(12,.slice (aO g3) 0 0),(13,iV (((i:Nat):Int))),(14,.slice so l.length cap),(15,iV (((l.length:Nat):Int))),(16,bV true),(17,.slice so l.length cap),(18,iV (((i:Nat):Int))),(19,pA bx (ox+(i))),(20,.int .u8 ((((l.getD i 0).toNat:Nat):Int)))]∧Mg w w1 (.row 98 3 (vo) acc.length ((xe acc))::[])) _ ⟨1,r,ok,rfl,zle hok,A.keep _ (by repeat' constructor),M⟩ ?_)));clear M A;rintro m_ a w53 ⟨k,rk,ok2,rfl,hinv55,A,M⟩ K54 hK54;have hC:=hinv55;refine wsk fun K56 hK56=>wsk fun K57 hK57=>wrl ?_;iterate 2 refine sdm A λa A=>?_
    rcases ok2 with _ | _
    ·iterate 3 refine qg A rfl rfl rfl λa A=>?_
     refine sdk (v:=bV false) A λa A=>?_;refine qa (hK57 _ _ (cf A ?_));refine wp_exit ?_;exact hJ24 _ _ ⟨k,rk,false,⟨hC,fun h=>by cases h⟩,A.keep _ (by repeat' constructor),M⟩
    ·iterate 2 refine sdm A λa A=>?_
     rcases tf (decide (((k:Nat):Int)<((n:Nat):Int)))with hb58 | hb58
     ·have hb58':=of_decide_eq_true hb58;refine sdc A zr hb58 λa A=>?_;refine sdk (v:=bV true) A λa A=>?_;refine qa (hK57 _ _ (ct A ?_));refine wp_skip (hK56 _ _ (wsk fun K59 hK59=>wp_block (wsk fun K60 hK60=>?_)));have hc9:=yz hC;refine wrl ?_;iterate 3 refine sdm A λa A=>?_
      refine sdo (v:=iV (((i+k:Nat):Int))) A (qe rfl rfl (ar_add ((in_i64 (by omega) (by omega)).trans (by omega)))) λa A=>?_;obtain⟨bx,ox,hx1,hx2,hx3⟩:=zph (i:=i+k) hb (by omega);have hu9:=(l.getD (i+k) 0).toNat_lt;refine sdo (v:=pA bx (ox+(i+k))) A (je (k:=i+k) Tryz.underlying27 (by kernel_rfl) rfl rfl rfl hx1 (by omega)) λa A=>?_;refine sdo (v:=.int .u8 ((((l.getD (i+k) 0).toNat:Nat):Int))) A (znb M hx2 (hx3 (i+k) (by omega)) TrU_is1_5 rfl) λa A=>?_;refine sda A λa A=>?_;refine qa (hK60 _ _ (wsk fun K61 hK61=>wrl (sdm A λa A=>?_)));refine sdo (v:=.int .u8 (((((l.getD (i+k) 0).toNat:Nat):Int)) / 64)) A (qe rfl rfl (ar_shr (n:=6) rfl rfl rfl)) λa A=>?_;refine sdo (v:=bV ((((((l.getD (i+k) 0).toNat:Nat):Int)) / 64==2))) A (qe rfl rfl qf) λa A=>?_;refine sda A λa A=>?_;refine qa (hK61 _ _ (wrl (sdm A λa A=>?_)));refine sdo (v:=.int .i32 (rk*64)) A (qe rfl rfl (ar_shl (n:=6) rfl rfl (in_i32 (by omega) (by omega)))) λa A=>?_;refine sdm A λa A=>?_;refine sdo (v:=.int .u8 (((((l.getD (i+k) 0).toNat:Nat):Int))%64)) A (qe rfl rfl (ar_and (qzg 6 63 rfl (by decide) (by omega) (by omega)))) λa A=>?_;refine sdo (v:=.int .i32 (((((l.getD (i+k) 0).toNat:Nat):Int))%64)) A (zq rfl (ar_conv Tryz.underlying5 Tryz.underlying21 (in_i32 (by omega) (by omega)))) λa A=>?_;refine sdo (v:=.int .i32 (rk*64+(((((l.getD (i+k) 0).toNat:Nat):Int))%64))) A (qe rfl rfl (ar_or (jne (by omega) (by omega) (by omega) (by omega)))) λa A=>?_;refine sda A λa A=>?_;refine qa (hK59 _ _ (wrl (sdm A λa A=>?_)));refine sdo (v:=iV (((k+1:Nat):Int))) A (qe rfl rfl (ar_add ((in_i64 (by omega) (by omega)).trans (by omega)))) λa A=>?_;refine sda A λa A=>?_;refine qa ?_;refine hK54 _ _ _ (by omega) ⟨k+1,rk*64+(((((l.getD (i+k) 0).toNat:Nat):Int))%64),(((((l.getD (i+k) 0).toNat:Nat):Int)) / 64==2),rfl,zti (by omega) hC (by omega),A.keep _ (by repeat' constructor),M⟩
     ·have hb58':=of_decide_eq_false hb58;refine sdc A zr hb58 λa A=>?_;refine sdk (v:=bV false) A λa A=>?_;refine qa (hK57 _ _ (cf A ?_));refine wp_exit ?_;exact hJ24 _ _ ⟨k,rk,true,⟨hC,fun _=>by have:=yz hC; omega⟩,A.keep _ (by repeat' constructor),M⟩
   refine wrl (sdm A λa A=>?_);rcases tf (decide (0<((n:Nat):Int)))with hb62 | hb62
   ·have hb62':=of_decide_eq_true hb62;refine sdc A zp hb62 λa A=>?_;iterate 3 refine sdm A λa A=>?_
    refine sdo (v:=iV (((i+n:Nat):Int))) A (qe rfl rfl (ar_add ((in_i64 (by omega) (by omega)).trans (by omega)))) λa A=>?_;refine sdm A λa A=>?_;refine sdo A (zh Tryz.underlying27 rfl) λa A=>?_;rcases tf (decide (((i+n:Nat):Int)≤((l.length:Nat):Int)))with hb63 | hb63
    ·have hb63':=of_decide_eq_true hb63;refine sdc A jc hb63 λa A=>?_;refine sdk (v:=bV true) A λa A=>?_;refine sda A λa A=>?_;refine qa ?_;exact hJ20 _ _ ⟨true,(decide_eq_true (by omega)).symm,A.keep _ (by repeat' constructor),M⟩
    ·have hb63':=of_decide_eq_false hb63;refine sdc A jc hb63 λa A=>?_;refine sdk (v:=bV false) A λa A=>?_;refine sda A λa A=>?_;refine qa ?_;exact hJ20 _ _ ⟨false,(decide_eq_false (by omega)).symm,A.keep _ (by repeat' constructor),M⟩
   ·have hb62':=of_decide_eq_false hb62;refine sdc A zp hb62 λa A=>?_;refine sdm A λa A=>?_;iterate 6 refine qg A rfl rfl rfl λa A=>?_
    refine sdk (v:=bV false) A λa A=>?_;refine sda A λa A=>?_;refine qa ?_;exact hJ20 _ _ ⟨false,(decide_eq_false (by omega)).symm,A.keep _ (by repeat' constructor),M⟩
  refine wp_block (wsk fun K64 hK64=>wrl (sdm A λa A=>?_));rcases tf (decide ((((l.getD i 0).toNat:Nat):Int)<128))with hb65 | hb65
  ·have hb65':=of_decide_eq_true hb65;refine sdc A zr hb65 λa A=>?_;refine sda A λa A=>?_;refine qa (hK64 _ _ (ct A ?_));refine wrl (sdm A λa A=>?_);refine sdo (v:=.int .i32 ((((l.getD i 0).toNat:Nat):Int))) A (zq rfl (ar_conv Tryz.underlying5 Tryz.underlying21 (in_i32 (by omega) (by omega)))) λa A=>?_;iterate 2 refine sda A λa A=>?_
   refine qa ?_;exact hJ16 _ _ ⟨1,(((l.getD i 0).toNat:Nat):Int),(by unfold LeadU; omega),A.keep _ (by repeat' constructor),M⟩
  ·have hb65':=of_decide_eq_false hb65;refine sdc A zr hb65 λa A=>?_;refine sda A λa A=>?_;refine qa (hK64 _ _ (cf A ?_));refine wsk fun K66 hK66=>wrl (sdm A λa A=>?_);refine sdo (v:=.int .u8 (((((l.getD i 0).toNat:Nat):Int)) / 32)) A (qe rfl rfl (ar_shr (n:=5) rfl rfl rfl)) λa A=>?_;rcases tf ((((((l.getD i 0).toNat:Nat):Int)) / 32==6))with hb67 | hb67
   ·have hb67':=eq_of_beq hb67;refine sdc A qf hb67 λa A=>?_;refine sda A λa A=>?_;refine qa (hK66 _ _ (ct A ?_));refine wrl (sdm A λa A=>?_);refine sdo (v:=.int .u8 (((((l.getD i 0).toNat:Nat):Int))%32)) A (qe rfl rfl (ar_and (qzg 5 31 rfl (by decide) (by omega) (by omega)))) λa A=>?_;refine sdo (v:=.int .i32 (((((l.getD i 0).toNat:Nat):Int))%32)) A (zq rfl (ar_conv Tryz.underlying5 Tryz.underlying21 (in_i32 (by omega) (by omega)))) λa A=>?_;iterate 2 refine sda A λa A=>?_
    refine qa ?_;exact hJ16 _ _ ⟨2,((((l.getD i 0).toNat:Nat):Int))%32,(by unfold LeadU; omega),A.keep _ (by repeat' constructor),M⟩
   ·have hb67':=ne_of_beq_false hb67;refine sdc A qf hb67 λa A=>?_;refine sda A λa A=>?_;refine qa (hK66 _ _ (cf A ?_));refine wsk fun K68 hK68=>wrl (sdm A λa A=>?_);refine sdo (v:=.int .u8 (((((l.getD i 0).toNat:Nat):Int)) / 16)) A (qe rfl rfl (ar_shr (n:=4) rfl rfl rfl)) λa A=>?_;rcases tf ((((((l.getD i 0).toNat:Nat):Int)) / 16==14))with hb69 | hb69
    ·have hb69':=eq_of_beq hb69;refine sdc A qf hb69 λa A=>?_;refine sda A λa A=>?_;refine qa (hK68 _ _ (ct A ?_));refine wrl (sdm A λa A=>?_);refine sdo (v:=.int .u8 (((((l.getD i 0).toNat:Nat):Int))%16)) A (qe rfl rfl (ar_and (qzg 4 15 rfl (by decide) (by omega) (by omega)))) λa A=>?_;refine sdo (v:=.int .i32 (((((l.getD i 0).toNat:Nat):Int))%16)) A (zq rfl (ar_conv Tryz.underlying5 Tryz.underlying21 (in_i32 (by omega) (by omega)))) λa A=>?_;iterate 2 refine sda A λa A=>?_
     refine qa ?_;exact hJ16 _ _ ⟨3,((((l.getD i 0).toNat:Nat):Int))%16,(by unfold LeadU; omega),A.keep _ (by repeat' constructor),M⟩
    ·have hb69':=ne_of_beq_false hb69;refine sdc A qf hb69 λa A=>?_;refine sda A λa A=>?_;refine qa (hK68 _ _ (cf A ?_));refine wsk fun K70 hK70=>wrl (sdm A λa A=>?_);refine sdo (v:=.int .u8 (((((l.getD i 0).toNat:Nat):Int)) / 8)) A (qe rfl rfl (ar_shr (n:=3) rfl rfl rfl)) λa A=>?_;rcases tf ((((((l.getD i 0).toNat:Nat):Int)) / 8==30))with hb71 | hb71
     ·have hb71':=eq_of_beq hb71;refine sdc A qf hb71 λa A=>?_;refine sda A λa A=>?_;refine qa (hK70 _ _ (ct A ?_));refine wrl (sdm A λa A=>?_);refine sdo (v:=.int .u8 (((((l.getD i 0).toNat:Nat):Int))%8)) A (qe rfl rfl (ar_and (qzg 3 7 rfl (by decide) (by omega) (by omega)))) λa A=>?_;refine sdo (v:=.int .i32 (((((l.getD i 0).toNat:Nat):Int))%8)) A (zq rfl (ar_conv Tryz.underlying5 Tryz.underlying21 (in_i32 (by omega) (by omega)))) λa A=>?_;iterate 2 refine sda A λa A=>?_
      refine qa ?_;exact hJ16 _ _ ⟨4,((((l.getD i 0).toNat:Nat):Int))%8,(by unfold LeadU; omega),A.keep _ (by repeat' constructor),M⟩
     ·have hb71':=ne_of_beq_false hb71;refine sdc A qf hb71 λa A=>?_;refine sda A λa A=>?_;refine qa (hK70 _ _ (cf A ?_));refine wp_skip ?_;exact hJ16 _ _ ⟨0,0,(by unfold LeadU; omega),A.keep _ (by repeat' constructor),M⟩
 ·have hb12':=of_decide_eq_false hb12;refine sdc A zr hb12 λa A=>?_;refine qa (hK11 _ _ (cf A ?_));refine wp_exit (hK5 _ _ (wsk fun K72 hK72=>wrl (sdm A λa A=>?_)));refine sda A λa A=>?_;refine qa (hK72 _ _ (wr1 hret A ?_));rw[zld (by omega),List.append_nil]at hrun;subst hrun;exact⟨_,rfl,M⟩
open Go.RowKit Go.Lib
theorem zej{w:World}{B:Nat}{e:TypeId}{sz:Nat}{v:Value}{n:Nat}{xs:List Value}(h:w.ownsRow B e sz v n xs):∃so cap,v=.slice so n cap:=by
  rcases h.2 with⟨rfl,rfl⟩ | ⟨g,cap,cur,rfl,_⟩
  · exact⟨none,0,rfl⟩
  · exact⟨_,cap,rfl⟩
section
variable {P:Program} {w0 w:World} {L:List Ck} {l:List (Nat×Value)} {dst:Option Tmp} {ty:TypeId} {pos:String} {after:Array Edge} {guard:Option (Nat×Bool)} {v:Value}
theorem zlg{w':World}{s d:TypeId}{x:Operand}{u:Value}(hx:ev l x=some u)(hr:(convert s d u).run P w=.ok v w'):Does P l ⟨dst,.convert s d x,ty,pos,after,guard⟩ w v w':=fun ρ h=>by
  simp only[execOp,h x _ hx,Sem.run_bind,hr,Result.andThen_ok,Sem.run_pure]
theorem jda(hM:Mg w0 w L)(k:Nat){e:TypeId}{sz n cap:Nat}{so:Option Addr}{xs:List Value}(hk:L[k]?=some (.row e sz (.slice so n cap) n xs))(hn:0<n):∃g,so=some ⟨g,0,none⟩:=by
  rcases(hM.has k hk).2 with⟨_,h0⟩ | ⟨g,cap',cur,he,_⟩
  · omega
  · cases he; exact⟨g,rfl⟩
theorem zfa{t e:TypeId}{sz:Nat}(hu:P.underlying t=some (.slice e))(he:(P.info? e).map (·.size)=some sz){x i:Operand}{so:Option Addr}{g n c k:Nat}{z:Int}(hx:ev l x=some (.slice so n c))(hi:ev l i=some (.int .i64 z))(hz:z=(k:Nat))(hso:so=some ⟨g,0,none⟩)(hk:k<n):
    Does P l ⟨dst,.indexAddr t x i,ty,pos,after,guard⟩ w (.pointer (some ⟨g,k*sz,none⟩)) w:=by
  subst hso;exact qlh hu he hx hi hz hk
theorem zpi(hM:Mg w0 w L)(k:Nat){e:TypeId}{sz g n c j:Nat}{so:Option Addr}{xs:List Value}(hk:L[k]?=some (.row e sz (.slice so n c) n xs))(hso:so=some ⟨g,0,none⟩)(hj:xs[j]?=some v){t:TypeId}(ht:Is1 P t){x:Operand}(hx:ev l x=some (.pointer (some ⟨g,j,none⟩))):Does P l ⟨dst,.load t x,ty,pos,after,guard⟩ w v w:=by
  subst hso;exact znc hM k hk hj ht hx
end
section
variable {P:Program} {w0 w:World} {L:List Ck} {l:List (Nat×Value)} {ops:List Oper} {Q:Exit→Act→World→Prop} {a:Act} {n:Nat} {rest:List Oper} {d:Nat} {dst:Option Tmp} {ty:TypeId} {pos:String} {after:Array Edge} {guard:Option (Nat×Bool)}
theorem jii(hA:Sl a n l)(hM:Mg w0 w L){t t':TypeId}{x:Operand}{s:ByteArray}{o:Oper}(ho:o=⟨dst,.convert t t' x,ty,pos,after,guard⟩)(ht:P.underlying t=some .string)(hd:P.underlying t'=some (.slice BY))(he:P.underlying BY=some (.int .u8))(hx:ev l x=some (.string s))(hg:zf l ops o=true)(hdst:o.dst=some d)(hdn:Nat.blt d n=true)
    (hk:∀so cap w',Rb w' so s.data.toList→Mg w0 w' L→∀a',Sl a' n ((d,.slice so s.data.toList.length cap)::l)→wpList P ops.toArray Q rest a' w'):wpList P ops.toArray Q (o::rest) a w:=by
  subst ho;have hr:=Go.Lib.run_convert_string_bytes (P:=P) w t t' BY s ht hd he;have hb:Below w.heap.size w (bytesWorld w BY s):=⟨rfl,rfl,rfl,by rw[bytesWorld_size]; omega,fun j hj=>bytesWorld_at_old w BY s j hj⟩;refine kh hA hg hdst hdn (v:=.slice (some ⟨w.heap.size,0,none⟩) s.data.toList.length (grownCap w s.size 0 BY)) (w':=bytesWorld w BY s) (zlg hx (by rw[yk]; exact hr)) (hk _ _ _ ⟨fun _=>⟨w.heap.size,0,rfl,by rw[bytesWorld_size]; omega,fun j hj=>?_⟩⟩ (hM.call hb));rw[yk]at hj;rw[Nat.zero_add];exact bytesWorld_cell w BY s j hj
end
theorem qri(u:Int×Int)(us:List (Int×Int)):xe (u::us)=(if u.2=-1 then[.int .i32 0,.bool true,.int .i64 u.1]else[.int .i32 u.2,.bool false,.int .i64 u.1])++xe us:=rfl
theorem qrj: ∀(us:List (Int×Int)) (i f:Nat) (u:Int×Int),us[i]?=some u→f<3→(xe us)[i*3+f]?=(if u.2=-1 then[Value.int .i32 0,.bool true,.int .i64 u.1]else[.int .i32 u.2,.bool false,.int .i64 u.1])[f]?
  | [], i, f, u, h, hf => by simp at h
  | v :: us, 0, f, u, h, hf => by
    simp only[List.getElem?_cons_zero,Option.some.injEq]at h;subst h;rw[qri,Nat.zero_mul,Nat.zero_add,List.getElem?_append_left]
    split<;>exact hf
  | v :: us, i + 1, f, u, h, hf => by
    rw[List.getElem?_cons_succ]at h;rw[qri,List.getElem?_append_right (by split<;>(simp only[List.length_cons,List.length_nil]; omega))];have e:(i+1)*3+f-(if v.2=-1 then[Value.int .i32 0,.bool true,.int .i64 v.1]else[.int .i32 v.2,.bool false,.int .i64 v.1]).length=i*3+f:=by
      split<;>(simp only[List.length_cons,List.length_nil]; omega)
    rw[e];exact qrj us i f u h hf
theorem jdb{us:List (Int×Int)}{i:Nat}(h:i<us.length):∃ua ur,us[i]?=some (ua,ur):=⟨_,_,List.getElem?_eq_getElem h⟩
theorem qsa: ∀(f p:Nat) (l:List UInt8),(kk f p l).length≤l.length
  | 0, _, _ => Nat.zero_le _
  | f + 1, p, l => by
    by_cases hl:l=[]
    · subst hl; simp[kk]
    · rw[qmf hl,List.length_cons];have h1:=qsa f (p+(decodeL l).2) (l.drop (decodeL l).2);have h2:=kq l hl;rw[List.length_drop]at h1;omega
theorem jdc(l:List UInt8)(h:(decodeL l).1=65533):(decodeL l).2=1∨(decodeL l).2=3∨(decodeL l).2=0:=by
  rw[decodeL_N]at h ⊢;generalize (l.getD 0 0).toNat=b0 at h ⊢;generalize (l.getD 1 0).toNat=b1 at h ⊢;generalize (l.getD 2 0).toNat=b2 at h ⊢;generalize (l.getD 3 0).toNat=b3 at h ⊢;unfold decodeN at h ⊢;repeat' split
  all_goals (simp_all)
  all_goals omega
theorem qgb: ∀(f p:Nat) (l:List UInt8),validGoD f l=(kk f p l).all (fun u=>!decide (u.2=-1))
  | 0, p, l => rfl
  | f + 1, p, l => by
    unfold validGoD kk;by_cases hl:l=[]
    · rw[if_pos hl,if_pos hl]; rfl
    · rw[if_neg hl,if_neg hl,List.all_cons];have hw:=kq l hl;have h3:=jdc l;by_cases hb:(decodeL l).1=65533∧(decodeL l).2=1
      · rw[if_pos hb];have:uR (decodeL l).1 (decodeL l).2=-1:=(by unfold uR; rw[if_pos ⟨hb.1,by omega⟩]);rw[this]; rfl
      · rw[if_neg hb];have:¬uR (decodeL l).1 (decodeL l).2=-1:=by
          unfold uR;by_cases h9:(decodeL l).1=65533
          · rw[if_neg (by have:=h3 h9; omega)]; omega
          · rw[if_neg (fun e=>h9 e.1)]; omega
        rw[decide_eq_false this,qgb f (p+(decodeL l).2)];simp
theorem qvc(s:ByteArray):okS s=(jv s.data.toList).all (fun u=>!decide (u.2=-1)):=qgb _ 0 _
theorem jij{s:ByteArray}{i:Nat}{ua ur:Int}(h:(jv s.data.toList)[i]?=some (ua,ur))(hr:ur=-1):okS s=false:=by
  rw[qvc];apply Bool.eq_false_iff.2;intro k;have:=List.all_eq_true.1 k _ (List.mem_of_getElem? h);simp[hr]at this
theorem jdd{s:ByteArray}(h:∀(i:Nat) (ua ur:Int),(jv s.data.toList)[i]?=some (ua,ur)→ur≠-1):okS s=true:=by
  rw[qvc,List.all_eq_true];intro u hu;obtain⟨i,hi⟩:=List.mem_iff_getElem?.1 hu;simp[h i u.1 u.2 hi]
theorem zfb{w:World}{so:Option Addr}{cap:Nat}{l:List UInt8}(hb:Rb w so l)(hlen:l.length≤4000000):Calls Tryz.prog 69 #[iV 1,.slice so l.length cap] w fun e w'=>∃v,e=.returned v∧Mg w w' [.row 98 3 v (jv l).length (xe (jv l))]:=by
 have M:Mg w w ([]):=Mg.start w;refine qn (l:=[(0,iV 1),(1,.slice so l.length cap)]) Tryz.func69 rfl Tryz.ntmps69 rfl rfl ?_;intro Q hret hnorm hP a A;refine wsk fun K1 hK1=>wrl (sda A λa A=>?_);refine qa (hK1 _ _ (wsk fun K2 hK2=>wsk fun K3 hK3=>wrl (sdm A λa A=>?_)));refine sdo (v:=bV true) A dbK λa A=>?_;refine qa (hK3 _ _ (ct A ?_));refine wsk fun K4 hK4=>wrl (sdm A λa A=>?_);refine sct A (ef rfl rfl) (ztj (hb.below M.bel) hlen) ?_;rintro _ w5 ⟨v9,rfl,hM9⟩;replace M:Mg w w5 (.row 98 3 (v9) ((jv l).length) ((xe (jv l)))::[]):=(M.both hM9 (yn uf) (zu (by simp) (yn uf)));refine⟨_,rfl,?_⟩;intro a A;refine sda A λa A=>?_;refine qa (hK4 _ _ (wr1 hret A ?_));exact⟨_,rfl,M⟩
theorem qsb{w:World}{s:ByteArray}(hs:s.size≤4000000){r:Bool}(hr:okS s=r):Calls Tryz.prog 45 #[.string s] w fun e w'=>e=.returned (bV r)∧Below w.heap.size w w':=by
 have hul:(jv s.data.toList).length≤s.data.toList.length:=qsa _ _ _;have hsl:s.data.toList.length≤4000000:=by rw[yk]; exact hs
 have M:Mg w w ([]):=Mg.start w;refine qn (l:=[(0,.string s)]) Tryz.func45 rfl Tryz.ntmps45 rfl rfl ?_;intro Q hret hnorm hP a A;refine wsk fun K1 hK1=>wrl (sda A λa A=>?_);refine qa (hK1 _ _ (wsk fun K2 hK2=>wrl (sdm A λa A=>?_)));refine jii A M rfl Tryz.underlying9 Tryz.underlying27 Tryz.underlying5 rfl rfl rfl rfl ?_;intro so3 ca4 w5 hrb6 M a A;refine sct A (ef rfl rfl) (zfb hrb6 (by rw[yk]; exact hs)) ?_;rintro _ w10 ⟨v9,rfl,hM7⟩;obtain⟨so8,ca9,rfl⟩:=zej (hM7.has 0 rfl);replace M:Mg w w10 (.row 98 3 (.slice so8 ((jv s.data.toList).length) ca9) ((jv s.data.toList).length) ((xe (jv s.data.toList)))::[]):=(M.both hM7 (yn uf) (zu (by simp) (yn uf)));refine⟨_,rfl,?_⟩;intro a A;refine sda A λa A=>?_;refine qa (hK2 _ _ (wsk fun K11 hK11=>wsk fun K12 hK12=>wrl (sda A λa A=>?_)));refine qa (hK12 _ _ (wp_block (jd (fun m_ a w1=>∃(i:Nat),m_=1+((jv s.data.toList).length-i)∧(i≤(jv s.data.toList).length∧∀j ua ur,j<i→(jv s.data.toList)[j]?=some (ua,ur)→ur≠-1)∧Sl a 19 [(0,.string s),(3,.slice so8 ((jv s.data.toList).length) ca9),(4,iV (((i:Nat):Int))),(5,.string s),(6,.slice so3 s.data.toList.length ca4),(7,.slice so8 ((jv s.data.toList).length) ca9)]∧Mg w w1 (.row 98 3 (.slice so8 ((jv s.data.toList).length) ca9) ((jv s.data.toList).length) ((xe (jv s.data.toList)))::[])) _ ⟨0,rfl,⟨Nat.zero_le _,fun j ua ur hj=>absurd hj (Nat.not_lt_zero _)⟩,A.keep _ (by repeat' constructor),M⟩ ?_)));clear M A;rintro m_ a w13 ⟨i,rfl,hinv15,A,M⟩ K14 hK14;obtain⟨hi0,hin9⟩:=hinv15;refine wsk fun K16 hK16=>wsk fun K17 hK17=>wrl ?_;iterate 2 refine sdm A λa A=>?_
 refine sdo A (zh Tryz.underlying95 rfl) λa A=>?_;rcases tf (decide (((i:Nat):Int)<(((jv s.data.toList).length:Nat):Int)))with hb18 | hb18
 ·have hb18':=of_decide_eq_true hb18;refine sdc A zr hb18 λa A=>?_;refine qa (hK17 _ _ (ct A ?_));refine wp_skip (hK16 _ _ (wsk fun K19 hK19=>wp_block (wsk fun K20 hK20=>wrl ?_)));iterate 2 refine sdm A λa A=>?_
  obtain⟨gu,hgu⟩:=jda M 0 rfl (by omega);obtain⟨ua,ur,hu⟩:=jdb (us:=jv s.data.toList) (i:=i) (by omega);refine sdo (v:=pA gu (i*3)) A (zfa Tryz.underlying95 (by kernel_rfl) rfl rfl rfl hgu (show i<(jv s.data.toList).length by omega)) λa A=>?_;refine sdo (v:=pA gu (i*3+1)) A (qb jle rfl rfl) λa A=>?_;by_cases hf:ur=-1
  ·refine sdo (v:=bV true) A (zpi M 0 rfl hgu ((qrj _ i 1 _ hu (by decide)).trans (by rw[if_pos hf]; rfl)) o94 rfl) λa A=>?_;refine qa (hK20 _ _ (ct A ?_));refine wsk fun K21 hK21=>wrl (sda A λa A=>?_);refine qa (hK21 _ _ (wr1 hret A ?_));subst hr;exact⟨by rw[jij hu hf],M.bel⟩
  ·refine sdo (v:=bV false) A (zpi M 0 rfl hgu ((qrj _ i 1 _ hu (by decide)).trans (by rw[if_neg hf]; rfl)) o94 rfl) λa A=>?_;refine qa (hK20 _ _ (cf A ?_));refine wp_skip (hK19 _ _ (wrl (sdm A λa A=>?_)));refine sdo (v:=iV (((i+1:Nat):Int))) A (qe rfl rfl (fun w=>(kg (yw (by omega) (by omega)) w).trans (by rw[show(((i:Nat):Int)+1:Int)=((i+1:Nat):Int)from by omega]))) λa A=>?_;refine sda A λa A=>?_;refine qa ?_;refine hK14 _ _ _ (by omega) ⟨i+1,rfl,⟨by omega,fun j va vr hj hv=>if h9:j<i then hin9 j va vr h9 hv else by have h8:j=i:=(by omega); subst h8; rw[hu]at hv; injection hv with h7; injection h7 with _ h6; rw[←h6]; exact hf⟩,A.keep _ (by repeat' constructor),M⟩
 ·have hb18':=of_decide_eq_false hb18;refine sdc A zr hb18 λa A=>?_;refine qa (hK17 _ _ (cf A ?_));refine wp_exit (hK11 _ _ (wsk fun K22 hK22=>wrl (sda A λa A=>?_)));refine qa (hK22 _ _ (wr1 hret A ?_));subst hr;exact⟨by rw[jdd (fun j ua ur hj=>hin9 j ua ur (by have:=(List.getElem?_eq_some_iff.1 hj).1; omega) hj)],M.bel⟩
theorem qvd{w:World}{n:Int}{r:Bool}(hr:xd n=r):Calls Tryz.prog 48 #[iV n] w fun e w'=>e=.returned (bV r)∧Below w.heap.size w w':=by
 have M:Mg w w ([]):=Mg.start w;refine qn (l:=[(0,iV n)]) Tryz.func48 rfl Tryz.ntmps48 rfl rfl ?_;intro Q hret hnorm hP a A;refine wsk fun K1 hK1=>wrl (sda A λa A=>?_);refine qa (hK1 _ _ (wsk fun K2 hK2=>wrl (sdm A λa A=>?_)));rcases tf (decide (0≤n))with hb3 | hb3
 ·have hb3':=of_decide_eq_true hb3;refine sdc A jb hb3 λa A=>?_;iterate 2 refine sdm A λa A=>?_
  rcases tf (decide (n≤1114111))with hb4 | hb4
  ·have hb4':=of_decide_eq_true hb4;refine sdc A jc hb4 λa A=>?_;refine sdk (v:=bV true) A λa A=>?_;iterate 2 refine sdm A λa A=>?_
   rcases tf (decide (n<55296))with hb5 | hb5
   ·have hb5':=of_decide_eq_true hb5;refine sdc A zr hb5 λa A=>?_;refine sdm A λa A=>?_;iterate 2 refine qg A rfl rfl rfl λa A=>?_
    iterate 2 refine sdk (v:=bV true) A λa A=>?_
    refine sda A λa A=>?_;refine qa (hK2 _ _ (wr1 hret A ?_));subst hr;exact⟨by rw[show xd n=true from by unfold xd; apply decide_eq_true; omega],M.bel⟩
   ·have hb5':=of_decide_eq_false hb5;refine sdc A zr hb5 λa A=>?_;iterate 2 refine sdm A λa A=>?_
    rcases tf (decide (57343<n))with hb6 | hb6
    ·have hb6':=of_decide_eq_true hb6;refine sdc A zp hb6 λa A=>?_;iterate 2 refine sdk (v:=bV true) A λa A=>?_
     refine sda A λa A=>?_;refine qa (hK2 _ _ (wr1 hret A ?_));subst hr;exact⟨by rw[show xd n=true from by unfold xd; apply decide_eq_true; omega],M.bel⟩
    ·have hb6':=of_decide_eq_false hb6;refine sdc A zp hb6 λa A=>?_;iterate 2 refine sdk (v:=bV false) A λa A=>?_
     refine sda A λa A=>?_;refine qa (hK2 _ _ (wr1 hret A ?_));subst hr;exact⟨by rw[show xd n=false from by unfold xd; apply decide_eq_false; omega],M.bel⟩
  ·have hb4':=of_decide_eq_false hb4;refine sdc A jc hb4 λa A=>?_;refine sdk (v:=bV false) A λa A=>?_;refine sdm A λa A=>?_;iterate 3 refine qg A rfl rfl rfl λa A=>?_
   iterate 2 refine xw A rfl rfl rfl λa A=>?_
   refine qg A rfl rfl rfl λa A=>?_;refine sdk (v:=bV false) A λa A=>?_;refine sda A λa A=>?_;refine qa (hK2 _ _ (wr1 hret A ?_));subst hr;exact⟨by rw[show xd n=false from by unfold xd; apply decide_eq_false; omega],M.bel⟩
 ·have hb3':=of_decide_eq_false hb3;refine sdc A jb hb3 λa A=>?_;refine sdm A λa A=>?_;iterate 2 refine qg A rfl rfl rfl λa A=>?_
  refine sdk (v:=bV false) A λa A=>?_;refine sdm A λa A=>?_;iterate 3 refine qg A rfl rfl rfl λa A=>?_
  iterate 2 refine xw A rfl rfl rfl λa A=>?_
  refine qg A rfl rfl rfl λa A=>?_;refine sdk (v:=bV false) A λa A=>?_;refine sda A λa A=>?_;refine qa (hK2 _ _ (wr1 hret A ?_));subst hr;exact⟨by rw[show xd n=false from by unfold xd; apply decide_eq_false; omega],M.bel⟩
def kd(k n:Int)(q:Q6)(s:ByteArray)(mr ml:Nat):Bool:=
 if k<1∨11<k∨okS s=false then false
 else if k=3∧jj q=false then false
 else if k≠3∧(yp q.b1 q.t1.length q.q1.length=false∨yp q.b2 q.t2.length q.q2.length=false)then false
 else if s≠⟨#[]⟩∧k≠5∧k≠6∧k≠11 then false
 else if 0<mr∧k≠7 then false
 else if k=2∧n≠0∧n≠1 then false
 else if k=4∧xd n=false then false
 else if k≠2∧k≠4∧n≠0 then false
 else if k=8 then decide (ml=2)
 else decide (k=9∨ml=0)
theorem jja: okS ⟨#[]⟩=true:=by unfold okS; rfl
theorem jk(k n:Int)(q:Q6)(s:ByteArray)(mr ml:Nat):jf k n q s mr ml=kd k n q s mr ml:=by
 have hv:s=⟨#[]⟩→okS s=true:=by rintro rfl; exact jja
 have hn0:yp false 0 0=true:=rfl;unfold jf kd;by_cases hk:k<1∨11<k
 ·rw[if_pos (show k<1∨11<k∨okS s=false by omega)];repeat (rw[if_neg (by omega)])
 ·have h11:k=1∨k=2∨k=3∨k=4∨k=5∨k=6∨k=7∨k=8∨k=9∨k=10∨k=11:=by omega
  simp only[vz,hn0];generalize yp q.b1 q.t1.length q.q1.length=B1;generalize yp q.b2 q.t2.length q.q2.length=B2;generalize jj q=S1;generalize xd n=S2;by_cases hs:s=⟨#[]⟩
  ·rw[hv hs];have hs2:¬s≠⟨#[]⟩:=fun h=>h hs;rcases h11 with h | h | h | h | h | h | h | h | h | h | h<;>subst h<;>cases B1<;>cases B2<;>cases S1<;>cases S2<;>simp[hs]<;>by_cases hm:mr=0<;>simp[hm]<;>by_cases hn:n=0<;>simp[hn]<;>first | omega | (by_cases hn1:n=1<;>simp[hn1]) | skip
  ·cases hV:okS s<;>rcases h11 with h | h | h | h | h | h | h | h | h | h | h<;>subst h<;>cases B1<;>cases B2<;>cases S1<;>cases S2<;>simp[hs]<;>by_cases hm:mr=0<;>simp[hm]<;>by_cases hn:n=0<;>simp[hn]<;>first | omega | skip
section
variable {k n:Int} {q:Q6} {s:ByteArray} {mr ml:Nat}
def ShA(k:Int)(s:ByteArray):Prop:=1≤k∧k≤11∧okS s=true
def ShB(k:Int)(q:Q6):Prop:=(k=3→jj q=true)∧(k≠3→yp q.b1 q.t1.length q.q1.length=true∧yp q.b2 q.t2.length q.q2.length=true)
def ShC(k:Int)(s:ByteArray):Prop:=s=⟨#[]⟩∨k=5∨k=6∨k=11
def ShD(k:Int)(mr:Nat):Prop:=mr=0∨k=7
def ShE(k n:Int):Prop:=(k=2→n=0∨n=1)∧(k=4→xd n=true)∧(k≠2→k≠4→n=0)
theorem sh1(h:k<1∨11<k∨okS s=false):kd k n q s mr ml=false:=by unfold kd; rw[if_pos h]
theorem shA(a:ShA k s):¬(k<1∨11<k∨okS s=false):=fun e=>by
 rcases e with e | e | e
 ·have:=a.1; omega
 ·have:=a.2.1; omega
 ·rw[a.2.2]at e; cases e
theorem sh2(a:ShA k s)(h:k=3)(S:jj q=false):kd k n q s mr ml=false:=by unfold kd; rw[if_neg (shA a),if_pos ⟨h,S⟩]
theorem sh3(a:ShA k s)(h:k≠3)(S:yp q.b1 q.t1.length q.q1.length=false∨yp q.b2 q.t2.length q.q2.length=false):kd k n q s mr ml=false:=by unfold kd; rw[if_neg (shA a),if_neg (fun e=>h e.1),if_pos ⟨h,S⟩]
theorem jjb(b:ShB k q):¬(k=3∧jj q=false):=fun e=>by have:=b.1 e.1; rw[e.2]at this; cases this
theorem jjc(b:ShB k q):¬(k≠3∧(yp q.b1 q.t1.length q.q1.length=false∨yp q.b2 q.t2.length q.q2.length=false)):=fun e=>by
 have:=b.2 e.1;rcases e.2 with h | h
 ·rw[this.1]at h; cases h
 ·rw[this.2]at h; cases h
theorem sh4(a:ShA k s)(b:ShB k q)(h:s≠⟨#[]⟩∧k≠5∧k≠6∧k≠11):kd k n q s mr ml=false:=by unfold kd; rw[if_neg (shA a),if_neg (jjb b),if_neg (jjc b),if_pos h]
theorem shC(c:ShC k s):¬(s≠⟨#[]⟩∧k≠5∧k≠6∧k≠11):=fun e=>by rcases c with h | h | h | h<;>first | exact e.1 h | exact e.2.1 h | exact e.2.2.1 h | exact e.2.2.2 h
theorem sh5(a:ShA k s)(b:ShB k q)(c:ShC k s)(h:0<mr∧k≠7):kd k n q s mr ml=false:=by unfold kd; rw[if_neg (shA a),if_neg (jjb b),if_neg (jjc b),if_neg (shC c),if_pos h]
theorem shD(d:ShD k mr):¬(0<mr∧k≠7):=fun e=>by rcases d with h | h<;>omega
theorem sh6(a:ShA k s)(b:ShB k q)(c:ShC k s)(d:ShD k mr)(h:(k=2∧n≠0∧n≠1)∨(k=4∧xd n=false)∨(k≠2∧k≠4∧n≠0)):kd k n q s mr ml=false:=by
 unfold kd;rw[if_neg (shA a),if_neg (jjb b),if_neg (jjc b),if_neg (shC c),if_neg (shD d)];rcases h with h | h | h
 ·rw[if_pos h]
 ·rw[if_neg (by omega),if_pos h]
 ·rw[if_neg (by omega),if_neg (fun e=>h.2.1 e.1),if_pos h]
theorem sh9(a:ShA k s)(b:ShB k q)(c:ShC k s)(d:ShD k mr)(e:ShE k n):kd k n q s mr ml=if k=8 then decide (ml=2)else decide (k=9∨ml=0):=by
 unfold kd;have e1:=e.1;have e3:=e.2.2;rw[if_neg (shA a),if_neg (jjb b),if_neg (jjc b),if_neg (shC c),if_neg (shD d),if_neg (fun h=>by have:=e1 h.1; omega),if_neg (fun h=>by have:=e.2.1 h.1; rw[h.2]at this; cases this),if_neg (fun h=>by have:=e3 h.1 h.2.1; omega)]
end
theorem qsc{w:World}{d:Nd}{ts:List Dt}(hok:NdOk w d)(hs2:d.s.size≤4000000)(hlen:ts.length≤9223372036854775807){r:Bool}(hr:jf d.k d.n d.y.q d.s d.rl.length ts.length=r):Calls Tryz.prog 27 #[.agg (d.cells ts.length).toArray] w fun e w'=>e=.returned (bV r)∧Below w.heap.size w w':=by
 have hrl:d.rl.length≤9223372036854775807:=Nat.le_trans hok.rcap hok.rmax;have M:Mg w w ([]):=Mg.start w;refine qn (l:=[(0,.agg (d.cells ts.length).toArray)]) Tryz.func27 rfl Tryz.ntmps27 rfl rfl ?_;intro Q hret hnorm hP a A;refine wsk fun K1 hK1=>wrl (xt (vs:=[iV d.k,iV d.n,bV d.y.q.b1,.slice d.y.o1 d.y.q.t1.length d.y.c1,.slice d.y.o2 d.y.q.q1.length d.y.c2,bV d.y.q.b2,.slice d.y.o3 d.y.q.t2.length d.y.c3,.slice d.y.o4 d.y.q.q2.length d.y.c4,.string d.s,.slice d.ro d.rl.length d.rc,.slice d.lo ts.length d.lc]) (t:=30) A M rfl rfl rfl pg (zd rfl rfl) (by decide) ?_);intro g2 w3 M a A;refine sda A λa A=>?_;refine qa (hK1 _ _ (wsk fun K4 hK4=>?_));have hJ5:∀a w1,((ShA d.k d.s)∧Sl a 100 [(0,.agg (d.cells ts.length).toArray),(1,pA g2 0)]∧Mg w w1 (.obj g2 (.cells (d.cells ts.length).toArray 30)::[]))→K4 a w1:=by
  clear A M;rintro a w6 ⟨hf7,A,M⟩;have hSA:=hf7;refine hK4 _ _ (wsk fun K8 hK8=>?_);have hJ9:∀a w1,((ShB d.k d.y.q)∧Sl a 100 [(0,.agg (d.cells ts.length).toArray),(1,pA g2 0)]∧Mg w w1 (.obj g2 (.cells (d.cells ts.length).toArray 30)::[]))→K8 a w1:=by
   clear A M;rintro a w10 ⟨hf11,A,M⟩;have hSB:=hf11;refine hK8 _ _ (wsk fun K12 hK12=>?_);have hJ13:∀a w1,((ShC d.k d.s)∧Sl a 100 [(0,.agg (d.cells ts.length).toArray),(1,pA g2 0)]∧Mg w w1 (.obj g2 (.cells (d.cells ts.length).toArray 30)::[]))→K12 a w1:=by
    clear A M;rintro a w14 ⟨hf15,A,M⟩;have hSC:=hf15;refine hK12 _ _ (wsk fun K16 hK16=>?_);have hJ17:∀a w1,((ShD d.k d.rl.length)∧Sl a 100 [(0,.agg (d.cells ts.length).toArray),(1,pA g2 0)]∧Mg w w1 (.obj g2 (.cells (d.cells ts.length).toArray 30)::[]))→K16 a w1:=by
     clear A M;rintro a w18 ⟨hf19,A,M⟩;have hSD:=hf19;refine hK16 _ _ (wsk fun K20 hK20=>?_);have hJ21:∀a w1,((ShE d.k d.n)∧Sl a 100 [(0,.agg (d.cells ts.length).toArray),(1,pA g2 0)]∧Mg w w1 (.obj g2 (.cells (d.cells ts.length).toArray 30)::[]))→K20 a w1:=by
      clear A M;rintro a w22 ⟨hf23,A,M⟩;have hSE:=hf23;refine hK20 _ _ (wsk fun K24 hK24=>wsk fun K25 hK25=>wrl (sdo (v:=pA g2 0) A (qb kv rfl rfl) λa A=>?_));refine sdo A (qw M o93 rfl 0 rfl rfl) λa A=>?_;rcases tf ((d.k==8))with hb26 | hb26
      ·have hb26':=eq_of_beq hb26;refine sdc A qf hb26 λa A=>?_;refine qa (hK25 _ _ (ct A ?_));refine wsk fun K27 hK27=>wrl (sdo (v:=pA g2 10) A (qb vb rfl rfl) λa A=>?_);refine sdo A (qw M qff rfl 0 rfl rfl) λa A=>?_;refine sdo A (zh Tryz.underlying28 rfl) λa A=>?_;rcases tf ((((ts.length:Nat):Int)==2))with hb28 | hb28
       ·have hb28':=eq_of_beq hb28;refine sdc A qf hb28 λa A=>?_;refine sda A λa A=>?_;refine qa (hK27 _ _ (wr1 hret A ?_));exact⟨by rw[←hr,jk,sh9 hSA hSB hSC hSD hSE,if_pos (by omega),decide_eq_true (show(ts.length=2)by omega)],M.bel⟩
       ·have hb28':=ne_of_beq_false hb28;refine sdc A qf hb28 λa A=>?_;refine sda A λa A=>?_;refine qa (hK27 _ _ (wr1 hret A ?_));exact⟨by rw[←hr,jk,sh9 hSA hSB hSC hSD hSE,if_pos (by omega),decide_eq_false (show ¬(ts.length=2)by omega)],M.bel⟩
      ·have hb26':=ne_of_beq_false hb26;refine sdc A qf hb26 λa A=>?_;refine qa (hK25 _ _ (cf A ?_));refine wp_skip (hK24 _ _ (wsk fun K29 hK29=>wrl (sdo (v:=pA g2 0) A (qb kv rfl rfl) λa A=>?_)));refine sdo A (qw M o93 rfl 0 rfl rfl) λa A=>?_;rcases tf ((d.k==9))with hb30 | hb30
       ·have hb30':=eq_of_beq hb30;refine sdc A qf hb30 λa A=>?_;refine sdm A λa A=>?_;iterate 4 refine qg A rfl rfl rfl λa A=>?_
        refine sdk (v:=bV true) A λa A=>?_;refine sda A λa A=>?_;refine qa (hK29 _ _ (wr1 hret A ?_));exact⟨by rw[←hr,jk,sh9 hSA hSB hSC hSD hSE,if_neg (by omega),decide_eq_true (show(d.k=9∨ts.length=0)by omega)],M.bel⟩
       ·have hb30':=ne_of_beq_false hb30;refine sdc A qf hb30 λa A=>?_;refine sdm A λa A=>?_;refine sdo (v:=pA g2 10) A (qb vb rfl rfl) λa A=>?_;refine sdo A (qw M qff rfl 0 rfl rfl) λa A=>?_;refine sdo A (zh Tryz.underlying28 rfl) λa A=>?_;rcases tf ((((ts.length:Nat):Int)==0))with hb31 | hb31
        ·have hb31':=eq_of_beq hb31;refine sdc A qf hb31 λa A=>?_;refine sdk (v:=bV true) A λa A=>?_;refine sda A λa A=>?_;refine qa (hK29 _ _ (wr1 hret A ?_));exact⟨by rw[←hr,jk,sh9 hSA hSB hSC hSD hSE,if_neg (by omega),decide_eq_true (show(d.k=9∨ts.length=0)by omega)],M.bel⟩
        ·have hb31':=ne_of_beq_false hb31;refine sdc A qf hb31 λa A=>?_;refine sdk (v:=bV false) A λa A=>?_;refine sda A λa A=>?_;refine qa (hK29 _ _ (wr1 hret A ?_));exact⟨by rw[←hr,jk,sh9 hSA hSB hSC hSD hSE,if_neg (by omega),decide_eq_false (show ¬(d.k=9∨ts.length=0)by omega)],M.bel⟩
     refine wsk fun K32 hK32=>wrl (sdo (v:=pA g2 0) A (qb kv rfl rfl) λa A=>?_);refine sdo A (qw M o93 rfl 0 rfl rfl) λa A=>?_;refine qa (hK32 _ _ (wp_block (wsk fun K33 hK33=>wrl ?_)));rcases tf ((d.k==2))with hb34 | hb34
     ·have hb34':=eq_of_beq hb34;refine sdc A qf hb34 λa A=>?_;refine sda A λa A=>?_;refine qa (hK33 _ _ (ct A ?_));refine wsk fun K35 hK35=>wrl (sdo (v:=pA g2 1) A (qb kw rfl rfl) λa A=>?_);refine sdo A (qw M o93 rfl 0 rfl rfl) λa A=>?_;rcases tf ((d.n != 0))with hb36 | hb36
      ·have hb36':=bne_iff_ne.1 hb36;refine sdc A zt hb36 λa A=>?_;refine sdm A λa A=>?_;refine sdo (v:=pA g2 1) A (qb kw rfl rfl) λa A=>?_;refine sdo A (qw M o93 rfl 0 rfl rfl) λa A=>?_;rcases tf ((d.n != 1))with hb37 | hb37
       ·have hb37':=bne_iff_ne.1 hb37;refine sdc A zt hb37 λa A=>?_;refine sdk (v:=bV true) A λa A=>?_;refine qa (hK35 _ _ (ct A ?_));refine wsk fun K38 hK38=>wrl (sda A λa A=>?_);refine qa (hK38 _ _ (wr1 hret A ?_));exact⟨by rw[←hr,jk,sh6 hSA hSB hSC hSD (.inl ⟨by omega,by omega,by omega⟩)],M.bel⟩
       ·have hb37':=bne_eq_false_iff_eq.1 hb37;refine sdc A zt hb37 λa A=>?_;refine sdk (v:=bV false) A λa A=>?_;refine qa (hK35 _ _ (cf A ?_));refine wp_skip ?_;exact hJ21 _ _ ⟨⟨fun h=>by omega,fun h=>absurd h (by omega),fun h h2=>by omega⟩,A.keep _ ⟨rfl,rfl,trivial⟩,M⟩
      ·have hb36':=bne_eq_false_iff_eq.1 hb36;refine sdc A zt hb36 λa A=>?_;refine sdm A λa A=>?_;iterate 3 refine qg A rfl rfl rfl λa A=>?_
       refine sdk (v:=bV false) A λa A=>?_;refine qa (hK35 _ _ (cf A ?_));refine wp_skip ?_;exact hJ21 _ _ ⟨⟨fun h=>by omega,fun h=>absurd h (by omega),fun h h2=>by omega⟩,A.keep _ ⟨rfl,rfl,trivial⟩,M⟩
     ·have hb34':=ne_of_beq_false hb34;refine sdc A qf hb34 λa A=>?_;refine sda A λa A=>?_;refine qa (hK33 _ _ (cf A ?_));refine wsk fun K39 hK39=>wrl ?_;rcases tf ((d.k==4))with hb40 | hb40
      ·have hb40':=eq_of_beq hb40;refine sdc A qf hb40 λa A=>?_;refine sda A λa A=>?_;refine qa (hK39 _ _ (ct A ?_));refine wsk fun K41 hK41=>wrl (sdo (v:=pA g2 1) A (qb kw rfl rfl) λa A=>?_);refine sdo A (qw M o93 rfl 0 rfl rfl) λa A=>?_;rcases tf (xd d.n)with hb42 | hb42
       ·refine gcl A M (ef rfl rfl) (qvd hb42) fun w44 hb43 M a A=>?_;refine sdo (v:=bV false) A (qr rfl zb) λa A=>?_;refine qa (hK41 _ _ (cf A ?_));refine wp_skip ?_;exact hJ21 _ _ ⟨⟨fun h=>by omega,fun h=>hb42,fun h h2=>by omega⟩,A.keep _ ⟨rfl,rfl,trivial⟩,M⟩
       ·refine gcl A M (ef rfl rfl) (qvd hb42) fun w46 hb45 M a A=>?_;refine sdo (v:=bV true) A (qr rfl zb) λa A=>?_;refine qa (hK41 _ _ (ct A ?_));refine wsk fun K47 hK47=>wrl (sda A λa A=>?_);refine qa (hK47 _ _ (wr1 hret A ?_));exact⟨by rw[←hr,jk,sh6 hSA hSB hSC hSD (.inr (.inl ⟨by omega,hb42⟩))],M.bel⟩
      ·have hb40':=ne_of_beq_false hb40;refine sdc A qf hb40 λa A=>?_;refine sda A λa A=>?_;refine qa (hK39 _ _ (cf A ?_));refine wsk fun K48 hK48=>wrl (sdo (v:=pA g2 1) A (qb kw rfl rfl) λa A=>?_);refine sdo A (qw M o93 rfl 0 rfl rfl) λa A=>?_;rcases tf ((d.n != 0))with hb49 | hb49
       ·have hb49':=bne_iff_ne.1 hb49;refine sdc A zt hb49 λa A=>?_;refine qa (hK48 _ _ (ct A ?_));refine wsk fun K50 hK50=>wrl (sda A λa A=>?_);refine qa (hK50 _ _ (wr1 hret A ?_));exact⟨by rw[←hr,jk,sh6 hSA hSB hSC hSD (.inr (.inr ⟨by omega,by omega,by omega⟩))],M.bel⟩
       ·have hb49':=bne_eq_false_iff_eq.1 hb49;refine sdc A zt hb49 λa A=>?_;refine qa (hK48 _ _ (cf A ?_));refine wp_skip ?_;exact hJ21 _ _ ⟨⟨fun h=>by omega,fun h=>absurd h (by omega),fun h h2=>by omega⟩,A.keep _ ⟨rfl,rfl,trivial⟩,M⟩
    refine wsk fun K51 hK51=>wrl (sdo (v:=pA g2 9) A (qb zhe rfl rfl) λa A=>?_);refine sdo A (qw M zhd rfl 0 rfl rfl) λa A=>?_;refine sdo A (zh Tryz.underlying27 rfl) λa A=>?_;rcases tf (decide (0<((d.rl.length:Nat):Int)))with hb52 | hb52
    ·have hb52':=of_decide_eq_true hb52;refine sdc A zp hb52 λa A=>?_;refine sdm A λa A=>?_;refine sdo (v:=pA g2 0) A (qb kv rfl rfl) λa A=>?_;refine sdo A (qw M o93 rfl 0 rfl rfl) λa A=>?_;rcases tf ((d.k != 7))with hb53 | hb53
     ·have hb53':=bne_iff_ne.1 hb53;refine sdc A zt hb53 λa A=>?_;refine sdk (v:=bV true) A λa A=>?_;refine qa (hK51 _ _ (ct A ?_));refine wsk fun K54 hK54=>wrl (sda A λa A=>?_);refine qa (hK54 _ _ (wr1 hret A ?_));exact⟨by rw[←hr,jk,sh5 hSA hSB hSC ⟨by omega,by omega⟩],M.bel⟩
     ·have hb53':=bne_eq_false_iff_eq.1 hb53;refine sdc A zt hb53 λa A=>?_;refine sdk (v:=bV false) A λa A=>?_;refine qa (hK51 _ _ (cf A ?_));refine wp_skip ?_;exact hJ17 _ _ ⟨.inr (by omega),A.keep _ ⟨rfl,rfl,trivial⟩,M⟩
    ·have hb52':=of_decide_eq_false hb52;refine sdc A zp hb52 λa A=>?_;refine sdm A λa A=>?_;iterate 3 refine qg A rfl rfl rfl λa A=>?_
     refine sdk (v:=bV false) A λa A=>?_;refine qa (hK51 _ _ (cf A ?_));refine wp_skip ?_;exact hJ17 _ _ ⟨.inl (by omega),A.keep _ ⟨rfl,rfl,trivial⟩,M⟩
   refine wsk fun K55 hK55=>wrl (sdo (v:=pA g2 8) A (qb ya rfl rfl) λa A=>?_);refine sdo A (qw M o99 rfl 0 rfl rfl) λa A=>?_;rcases tf (decide (d.s=⟨#[]⟩))with hb56 | hb56
   ·have hb56':=of_decide_eq_true hb56;refine sdo (v:=bV false) A (qe rfl rfl (fun w=>(zaf Tryz.underlying9 w).trans (by rw[hb56]<;>rfl))) λa A=>?_;refine sdm A λa A=>?_;iterate 3 refine qg A rfl rfl rfl λa A=>?_
    refine sdk (v:=bV false) A λa A=>?_;refine sdm A λa A=>?_;iterate 3 refine qg A rfl rfl rfl λa A=>?_
    refine sdk (v:=bV false) A λa A=>?_;refine sdm A λa A=>?_;iterate 3 refine qg A rfl rfl rfl λa A=>?_
    refine sdk (v:=bV false) A λa A=>?_;refine qa (hK55 _ _ (cf A ?_));refine wp_skip ?_;exact hJ13 _ _ ⟨.inl hb56',A.keep _ ⟨rfl,rfl,trivial⟩,M⟩
   ·have hb56':=of_decide_eq_false hb56;refine sdo (v:=bV true) A (qe rfl rfl (fun w=>(zaf Tryz.underlying9 w).trans (by rw[hb56]<;>rfl))) λa A=>?_;refine sdm A λa A=>?_;refine sdo (v:=pA g2 0) A (qb kv rfl rfl) λa A=>?_;refine sdo A (qw M o93 rfl 0 rfl rfl) λa A=>?_;rcases tf ((d.k != 5))with hb57 | hb57
    ·have hb57':=bne_iff_ne.1 hb57;refine sdc A zt hb57 λa A=>?_;refine sdk (v:=bV true) A λa A=>?_;refine sdm A λa A=>?_;refine sdo (v:=pA g2 0) A (qb kv rfl rfl) λa A=>?_;refine sdo A (qw M o93 rfl 0 rfl rfl) λa A=>?_;rcases tf ((d.k != 6))with hb58 | hb58
     ·have hb58':=bne_iff_ne.1 hb58;refine sdc A zt hb58 λa A=>?_;refine sdk (v:=bV true) A λa A=>?_;refine sdm A λa A=>?_;refine sdo (v:=pA g2 0) A (qb kv rfl rfl) λa A=>?_;refine sdo A (qw M o93 rfl 0 rfl rfl) λa A=>?_;rcases tf ((d.k != 11))with hb59 | hb59
      ·have hb59':=bne_iff_ne.1 hb59;refine sdc A zt hb59 λa A=>?_;refine sdk (v:=bV true) A λa A=>?_;refine qa (hK55 _ _ (ct A ?_));refine wsk fun K60 hK60=>wrl (sda A λa A=>?_);refine qa (hK60 _ _ (wr1 hret A ?_));exact⟨by rw[←hr,jk,sh4 hSA hSB ⟨hb56',by omega,by omega,by omega⟩],M.bel⟩
      ·have hb59':=bne_eq_false_iff_eq.1 hb59;refine sdc A zt hb59 λa A=>?_;refine sdk (v:=bV false) A λa A=>?_;refine qa (hK55 _ _ (cf A ?_));refine wp_skip ?_;exact hJ13 _ _ ⟨.inr (by omega),A.keep _ ⟨rfl,rfl,trivial⟩,M⟩
     ·have hb58':=bne_eq_false_iff_eq.1 hb58;refine sdc A zt hb58 λa A=>?_;refine sdk (v:=bV false) A λa A=>?_;refine sdm A λa A=>?_;iterate 3 refine qg A rfl rfl rfl λa A=>?_
      refine sdk (v:=bV false) A λa A=>?_;refine qa (hK55 _ _ (cf A ?_));refine wp_skip ?_;exact hJ13 _ _ ⟨.inr (by omega),A.keep _ ⟨rfl,rfl,trivial⟩,M⟩
    ·have hb57':=bne_eq_false_iff_eq.1 hb57;refine sdc A zt hb57 λa A=>?_;refine sdk (v:=bV false) A λa A=>?_;refine sdm A λa A=>?_;iterate 3 refine qg A rfl rfl rfl λa A=>?_
     refine sdk (v:=bV false) A λa A=>?_;refine sdm A λa A=>?_;iterate 3 refine qg A rfl rfl rfl λa A=>?_
     refine sdk (v:=bV false) A λa A=>?_;refine qa (hK55 _ _ (cf A ?_));refine wp_skip ?_;exact hJ13 _ _ ⟨.inr (by omega),A.keep _ ⟨rfl,rfl,trivial⟩,M⟩
  refine wsk fun K61 hK61=>wrl (sdo (v:=pA g2 0) A (qb kv rfl rfl) λa A=>?_);refine sdo A (qw M o93 rfl 0 rfl rfl) λa A=>?_;rcases tf ((d.k==3))with hb62 | hb62
  ·have hb62':=eq_of_beq hb62;refine sdc A qf hb62 λa A=>?_;refine qa (hK61 _ _ (ct A ?_));refine wsk fun K63 hK63=>wrl (sdo (v:=pA g2 2) A (qb qbj rfl rfl) λa A=>?_);refine sdo A (jg M jfd rfl 0 rfl (cs:=[bV d.y.q.b1,.slice d.y.o1 d.y.q.t1.length d.y.c1,.slice d.y.o2 d.y.q.q1.length d.y.c2,bV d.y.q.b2,.slice d.y.o3 d.y.q.t2.length d.y.c3,.slice d.y.o4 d.y.q.q2.length d.y.c4]) rfl rfl) λa A=>?_;rcases tf (jj d.y.q)with hb64 | hb64
   ·refine gcl A M (ef rfl rfl) (qlj (Nu.below hok.num M.bel) hok.len hb64) fun w66 hb65 M a A=>?_;refine sdo (v:=bV false) A (qr rfl zb) λa A=>?_;refine qa (hK63 _ _ (cf A ?_));refine wp_skip ?_;exact hJ9 _ _ ⟨⟨fun _=>hb64,fun h=>absurd (show d.k=3 by omega) h⟩,A.keep _ ⟨rfl,rfl,trivial⟩,M⟩
   ·refine gcl A M (ef rfl rfl) (qlj (Nu.below hok.num M.bel) hok.len hb64) fun w68 hb67 M a A=>?_;refine sdo (v:=bV true) A (qr rfl zb) λa A=>?_;refine qa (hK63 _ _ (ct A ?_));refine wsk fun K69 hK69=>wrl (sda A λa A=>?_);refine qa (hK69 _ _ (wr1 hret A ?_));exact⟨by rw[←hr,jk,sh2 hSA (by omega) hb64],M.bel⟩
  ·have hb62':=ne_of_beq_false hb62;refine sdc A qf hb62 λa A=>?_;refine qa (hK61 _ _ (cf A ?_));refine wsk fun K70 hK70=>wrl (sdo (v:=pA g2 2) A (qb qbj rfl rfl) λa A=>?_);refine sdo (v:=pA g2 2) A (qb zxa rfl rfl) λa A=>?_;refine sdo A (jg M jfc rfl 0 rfl (cs:=[bV d.y.q.b1,.slice d.y.o1 d.y.q.t1.length d.y.c1,.slice d.y.o2 d.y.q.q1.length d.y.c2]) rfl rfl) λa A=>?_;rcases tf (yp d.y.q.b1 d.y.q.t1.length d.y.q.q1.length)with hb71 | hb71
   ·refine gcl A M (ef rfl rfl) (qee hok.len.l1 hok.len.l2 hb71) fun w73 hb72 M a A=>?_;refine sdo (v:=bV false) A (qr rfl zb) λa A=>?_;refine sdm A λa A=>?_;refine sdo (v:=pA g2 2) A (qb qbj rfl rfl) λa A=>?_;refine sdo (v:=pA g2 5) A (qb zxb rfl rfl) λa A=>?_;refine sdo A (jg M jfc rfl 0 rfl (cs:=[bV d.y.q.b2,.slice d.y.o3 d.y.q.t2.length d.y.c3,.slice d.y.o4 d.y.q.q2.length d.y.c4]) rfl rfl) λa A=>?_;rcases tf (yp d.y.q.b2 d.y.q.t2.length d.y.q.q2.length)with hb74 | hb74
    ·refine gcl A M (ef rfl rfl) (qee hok.len.l3 hok.len.l4 hb74) fun w76 hb75 M a A=>?_;refine sdo (v:=bV false) A (qr rfl zb) λa A=>?_;refine sdk (v:=bV false) A λa A=>?_;refine qa (hK70 _ _ (cf A ?_));refine wp_skip ?_;exact hJ9 _ _ ⟨⟨fun h=>absurd h (by omega),fun _=>⟨hb71,hb74⟩⟩,A.keep _ ⟨rfl,rfl,trivial⟩,M⟩
    ·refine gcl A M (ef rfl rfl) (qee hok.len.l3 hok.len.l4 hb74) fun w78 hb77 M a A=>?_;refine sdo (v:=bV true) A (qr rfl zb) λa A=>?_;refine sdk (v:=bV true) A λa A=>?_;refine qa (hK70 _ _ (ct A ?_));refine wsk fun K79 hK79=>wrl (sda A λa A=>?_);refine qa (hK79 _ _ (wr1 hret A ?_));exact⟨by rw[←hr,jk,sh3 hSA (by omega) (.inr hb74)],M.bel⟩
   ·refine gcl A M (ef rfl rfl) (qee hok.len.l1 hok.len.l2 hb71) fun w81 hb80 M a A=>?_;refine sdo (v:=bV true) A (qr rfl zb) λa A=>?_;refine sdm A λa A=>?_;iterate 5 refine qg A rfl rfl rfl λa A=>?_
    refine sdk (v:=bV true) A λa A=>?_;refine qa (hK70 _ _ (ct A ?_));refine wsk fun K82 hK82=>wrl (sda A λa A=>?_);refine qa (hK82 _ _ (wr1 hret A ?_));exact⟨by rw[←hr,jk,sh3 hSA (by omega) (.inl hb71)],M.bel⟩
 refine wsk fun K83 hK83=>wrl (sdo (v:=pA g2 0) A (qb kv rfl rfl) λa A=>?_);refine sdo A (qw M o93 rfl 0 rfl rfl) λa A=>?_;rcases tf (decide (d.k<1))with hb84 | hb84
 ·have hb84':=of_decide_eq_true hb84;refine sdc A zr hb84 λa A=>?_;refine sdm A λa A=>?_;iterate 3 refine qg A rfl rfl rfl λa A=>?_
  refine sdk (v:=bV true) A λa A=>?_;refine sdm A λa A=>?_;iterate 4 refine qg A rfl rfl rfl λa A=>?_
  refine sdk (v:=bV true) A λa A=>?_;refine qa (hK83 _ _ (ct A ?_));refine wsk fun K85 hK85=>wrl (sda A λa A=>?_);refine qa (hK85 _ _ (wr1 hret A ?_));exact⟨by rw[←hr,jk,sh1 (by omega)],M.bel⟩
 ·have hb84':=of_decide_eq_false hb84;refine sdc A zr hb84 λa A=>?_;refine sdm A λa A=>?_;refine sdo (v:=pA g2 0) A (qb kv rfl rfl) λa A=>?_;refine sdo A (qw M o93 rfl 0 rfl rfl) λa A=>?_;rcases tf (decide (11<d.k))with hb86 | hb86
  ·have hb86':=of_decide_eq_true hb86;refine sdc A zp hb86 λa A=>?_;refine sdk (v:=bV true) A λa A=>?_;refine sdm A λa A=>?_;iterate 4 refine qg A rfl rfl rfl λa A=>?_
   refine sdk (v:=bV true) A λa A=>?_;refine qa (hK83 _ _ (ct A ?_));refine wsk fun K87 hK87=>wrl (sda A λa A=>?_);refine qa (hK87 _ _ (wr1 hret A ?_));exact⟨by rw[←hr,jk,sh1 (by omega)],M.bel⟩
  ·have hb86':=of_decide_eq_false hb86;refine sdc A zp hb86 λa A=>?_;refine sdk (v:=bV false) A λa A=>?_;refine sdm A λa A=>?_;refine sdo (v:=pA g2 8) A (qb ya rfl rfl) λa A=>?_;refine sdo A (qw M o99 rfl 0 rfl rfl) λa A=>?_;rcases tf (okS d.s)with hb88 | hb88
   ·refine gcl A M (ef rfl rfl) (qsb hs2 hb88) fun w90 hb89 M a A=>?_;refine sdo (v:=bV false) A (qr rfl zb) λa A=>?_;refine sdk (v:=bV false) A λa A=>?_;refine qa (hK83 _ _ (cf A ?_));refine wp_skip ?_;exact hJ5 _ _ ⟨⟨by omega,by omega,hb88⟩,A.keep _ ⟨rfl,rfl,trivial⟩,M⟩
   ·refine gcl A M (ef rfl rfl) (qsb hs2 hb88) fun w92 hb91 M a A=>?_;refine sdo (v:=bV true) A (qr rfl zb) λa A=>?_;refine sdk (v:=bV true) A λa A=>?_;refine qa (hK83 _ _ (ct A ?_));refine wsk fun K93 hK93=>wrl (sda A λa A=>?_);refine qa (hK93 _ _ (wr1 hret A ?_));exact⟨by rw[←hr,jk,sh1 (.inr (.inr hb88))],M.bel⟩

def smT: Tr→Bool
 | .mk _ _ _ s _ _ => decide (s.size ≤ 4000000)
theorem zpj{d:Nd}{ts:List Dt}(h:jp smT (Dt.mk d ts).tr=true):d.s.size≤4000000:=by
 rw[Dt.tr_mk]at h;exact of_decide_eq_true (Bool.and_eq_true_iff.1 (show(decide (d.s.size≤4000000)&&vj smT (ts.map Dt.tr))=true from h)).1
theorem zqa{p:Tr→Bool}:∀{ts:List Tr} {t:Tr},vj p ts=true→t∈ts→jp p t=true
 | u :: us, t, h, hm => by
  obtain⟨a,b⟩:=Bool.and_eq_true_iff.1 (show(jp p u&&vj p us)=true from h);rcases List.mem_cons.1 hm with e | e
  ·subst e; exact a
  ·exact zqa b e
theorem zlh{d:Nd}{ts:List Dt}{t:Dt}(hm:t∈ts)(h:jp smT (Dt.mk d ts).tr=true):jp smT t.tr=true:=by
 rw[Dt.tr_mk]at h;exact zqa (Bool.and_eq_true_iff.1 (show(decide (d.s.size≤4000000)&&vj smT (ts.map Dt.tr))=true from h)).2 (List.mem_map_of_mem hm)
mutual
theorem zqb: ∀{t:Tr},t.bulk≤4000000→jp smT t=true
 | .mk k n q s rl ts, h => by
  rw[qua]at h;show(decide (s.size≤4000000)&&vj smT ts)=true;rw[decide_eq_true (show s.size≤4000000 by omega),zfc (show Tr.bulks ts≤4000000 by omega)];rfl
theorem zfc: ∀{ts:List Tr},Tr.bulks ts≤4000000→vj smT ts=true
 | [], _ => rfl
 | t :: ts, h => by
  rw[Tr.bulks]at h;show(jp smT t&&vj smT ts)=true;rw[zqb (show t.bulk≤4000000 by omega),zfc (show Tr.bulks ts≤4000000 by omega)];rfl
end
def CountsS(t:Dt):Prop:=∀{w:World} {dp left:Int},t.rd w→jp smT t.tr=true→0≤left→left≤20000→0≤dp→dp≤201→Calls Tryz.prog 17 #[.agg t.cells.toArray,iV dp,iV left] w fun e w'=>e=.returned (iV (qfe zl dp left t.tr))∧Below w.heap.size w w'
theorem zli: ∀t:Dt,CountsS t:=Dt.indT fun d ts ih=>by
 intro w dp left hrd hbk hl0 hl1 hd0 hd1;have hok:=(Dt.rd_iff.1 hrd);have hlen:ts.length≤9223372036854775807:=Nat.le_trans hok.2.1 hok.2.2.1;have M:Mg w w ([]):=Mg.start w;refine qn (l:=[(0,.agg (d.cells ts.length).toArray),(1,iV dp),(2,iV left)]) Tryz.func17 rfl Tryz.ntmps17 rfl rfl ?_;intro Q hret hnorm hP a H;refine wsk fun K1 hK1=>wrl (xt (vs:=[iV d.k,iV d.n,bV d.y.q.b1,.slice d.y.o1 d.y.q.t1.length d.y.c1,.slice d.y.o2 d.y.q.q1.length d.y.c2,bV d.y.q.b2,.slice d.y.o3 d.y.q.t2.length d.y.c3,.slice d.y.o4 d.y.q.q2.length d.y.c4,.string d.s,.slice d.ro d.rl.length d.rc,.slice d.lo ts.length d.lc]) (t:=30) H M rfl rfl rfl pg (zd rfl rfl) (by decide) ?_);intro g2 w3 M a H;refine sda H λa H=>?_;refine qa (hK1 _ _ (wsk fun K4 hK4=>wsk fun K5 hK5=>wrl (sdm H λa H=>?_)));rcases tf (decide (200<dp))with hb6 | hb6
 ·have hb6':=of_decide_eq_true hb6;refine sdc H zp hb6 λa H=>?_;refine sdm H λa H=>?_;iterate 2 refine qg H rfl rfl rfl λa H=>?_
  refine sdk (v:=bV true) H λa H=>?_;refine sdm H λa H=>?_;iterate 3 refine qg H rfl rfl rfl λa H=>?_
  refine sdk (v:=bV true) H λa H=>?_;refine qa (hK5 _ _ (ct H ?_));refine wsk fun K7 hK7=>wrl (sda H λa H=>?_);refine qa (hK7 _ _ (wr1 hret H ?_));rw[qwh (by omega)];exact⟨rfl,M.bel⟩
 ·have hb6':=of_decide_eq_false hb6;refine sdc H zp hb6 λa H=>?_;iterate 2 refine sdm H λa H=>?_
  rcases tf (decide (left≤0))with hb8 | hb8
  ·have hb8':=of_decide_eq_true hb8;refine sdc H jc hb8 λa H=>?_;refine sdk (v:=bV true) H λa H=>?_;refine sdm H λa H=>?_;iterate 3 refine qg H rfl rfl rfl λa H=>?_
   refine sdk (v:=bV true) H λa H=>?_;refine qa (hK5 _ _ (ct H ?_));refine wsk fun K9 hK9=>wrl (sda H λa H=>?_);refine qa (hK9 _ _ (wr1 hret H ?_));rw[qwh (by omega)];exact⟨rfl,M.bel⟩
  ·have hb8':=of_decide_eq_false hb8;refine sdc H jc hb8 λa H=>?_;refine sdk (v:=bV false) H λa H=>?_;refine sdm H λa H=>?_;refine sdo H (jg M xi rfl 0 rfl (cs:=[iV d.k,iV d.n,bV d.y.q.b1,.slice d.y.o1 d.y.q.t1.length d.y.c1,.slice d.y.o2 d.y.q.q1.length d.y.c2,bV d.y.q.b2,.slice d.y.o3 d.y.q.t2.length d.y.c3,.slice d.y.o4 d.y.q.q2.length d.y.c4,.string d.s,.slice d.ro d.rl.length d.rc,.slice d.lo ts.length d.lc]) rfl rfl) λa H=>?_;rcases tf (jf d.k d.n d.y.q d.s d.rl.length ts.length)with hb10 | hb10
   ·refine gcl H M (ef rfl rfl) (qsc (hok.1.below M.bel) (zpj hbk) hlen hb10) fun w12 hb11 M a H=>?_;refine sdo (v:=bV false) H (qr rfl zb) λa H=>?_;refine sdk (v:=bV false) H λa H=>?_;refine qa (hK5 _ _ (cf H ?_));refine wp_skip (hK4 _ _ (wsk fun K13 hK13=>wrl (sdm H λa H=>?_)));refine sdo (v:=iV (left-1)) H (qe rfl rfl (zna (yw (by omega) (by omega)))) λa H=>?_;refine sda H λa H=>?_;refine qa (hK13 _ _ (wsk fun K14 hK14=>wsk fun K15 hK15=>wrl (sda H λa H=>?_)));refine qa (hK15 _ _ (wp_block (jd (fun m_ a w1=>∃(i:Nat) (m:Int),m_=1+(ts.length-i)∧(i≤ts.length∧qhi zl dp (decide (d.k=8)) 0 (left-1) ((ts.map Dt.tr).drop 0)=qhi zl dp (decide (d.k=8)) i m ((ts.map Dt.tr).drop i)∧-1≤m∧m≤20000)∧Sl a 52 [(0,.agg (d.cells ts.length).toArray),(1,iV dp),(2,iV m),(3,pA g2 0),(6,iV 0),(7,iV (((i:Nat):Int))),(9,iV dp),(10,bV false),(11,bV false),(12,iV left),(13,bV false),(14,bV false),(15,bV false),(16,.agg (d.cells ts.length).toArray),(17,bV true),(18,bV false),(19,bV false),(20,iV left),(21,iV (left-1))]∧Mg w w1 (.obj g2 (.cells (d.cells ts.length).toArray 30)::[])) _ ⟨0,left-1,rfl,⟨Nat.zero_le _,rfl,by omega,by omega⟩,H.keep _ (by repeat' constructor),M⟩ ?_)));clear M H;rintro m_ a w16 ⟨i,m,rfl,hinv18,H,M⟩ K17 hK17;obtain⟨hi0,hin9,hm0,hm1_⟩:=hinv18;refine wsk fun K19 hK19=>wsk fun K20 hK20=>wrl (sdm H λa H=>?_);refine sdo (v:=pA g2 10) H (qb vb rfl rfl) λa H=>?_;refine sdo H (qw M qff rfl 0 rfl rfl) λa H=>?_;refine sdo H (zh Tryz.underlying28 rfl) λa H=>?_;rcases tf (decide (((i:Nat):Int)<((ts.length:Nat):Int)))with hb21 | hb21
    ·have hb21':=of_decide_eq_true hb21;refine sdc H zr hb21 λa H=>?_;iterate 2 refine sdm H λa H=>?_
     rcases tf (decide (0≤m))with hb22 | hb22
     ·have hb22':=of_decide_eq_true hb22;refine sdc H jb hb22 λa H=>?_;refine sdk (v:=bV true) H λa H=>?_;refine qa (hK20 _ _ (ct H ?_));refine wp_skip (hK19 _ _ (wsk fun K23 hK23=>wp_block (wsk fun K24 hK24=>wrl (sdm H λa H=>?_))));refine sdo (v:=iV (dp+1)) H (qe rfl rfl (kg (yw (by omega) (by omega)))) λa H=>?_;refine sda H λa H=>?_;refine qa (hK24 _ _ (wsk fun K25 hK25=>wsk fun K26 hK26=>wrl (sdo (v:=pA g2 0) H (qb kv rfl rfl) λa H=>?_)));refine sdo H (qw M o93 rfl 0 rfl rfl) λa H=>?_;rcases tf ((d.k==8))with hb27 | hb27
      ·have hb27':=eq_of_beq hb27;refine sdc H qf hb27 λa H=>?_;iterate 2 refine sdm H λa H=>?_
       rcases tf ((((i:Nat):Int)==1))with hb28 | hb28
       ·have hb28':=eq_of_beq hb28;refine sdc H qf hb28 λa H=>?_;refine sdk (v:=bV true) H λa H=>?_;refine qa (hK26 _ _ (ct H ?_));refine wrl (sdm H λa H=>?_);refine sda H λa H=>?_;refine qa (hK25 _ _ ?_);obtain⟨t1,b1,o1,hi1,hm1,hr1,hl1,hH1⟩:=kid hrd (i:=i) (by omega);have hD:(if decide (d.k=8)=true∧i=1 then dp else dp+1)=dp:=if_pos ⟨decide_eq_true hb27',by omega⟩;refine wrl (sdo (v:=pA g2 10) H (qb vb rfl rfl) λa H=>?_);refine sdo H (qw M qff rfl 0 rfl rfl) λa H=>?_;refine sdm H λa H=>?_;refine sdo (v:=pA b1 (o1+i*11)) H (jy (k:=i) Tryz.underlying28 (by kernel_rfl) rfl rfl rfl hl1 (by omega)) λa H=>?_;refine sdo H (qia M hH1 xi rfl rfl) λa H=>?_;iterate 2 refine sdm H λa H=>?_
        refine gcl H M (ef rfl rfl) (ih t1 hm1 (Dt.keep M.bel _ hr1) (zlh hm1 hbk) (by omega) (by omega) (by omega) (by omega)) fun w30 hb29 M a H=>?_;refine sda H λa H=>?_;refine qa (hK23 _ _ (wrl (sdm H λa H=>?_)));refine sdo (v:=iV (((i+1:Nat):Int))) H (qe rfl rfl (fun w=>(kg (yw (by omega) (by omega)) w).trans (by rw[show(((i:Nat):Int)+1:Int)=((i+1:Nat):Int)from by omega]))) λa H=>?_;refine sda H λa H=>?_;refine qa ?_;have hc9:=zhc zl t1.tr (dp) m (by omega);refine hK17 _ _ _ (by omega) ⟨i+1,qfe zl (dp) m t1.tr,rfl,⟨by omega,by rw[hin9,qwi hi1 (by omega) hD],by omega,by omega⟩,H.keep _ (by repeat' constructor),M⟩
       ·have hb28':=ne_of_beq_false hb28;refine sdc H qf hb28 λa H=>?_;refine sdk (v:=bV false) H λa H=>?_;refine qa (hK26 _ _ (cf H ?_));refine wp_skip (hK25 _ _ ?_);obtain⟨t1,b1,o1,hi1,hm1,hr1,hl1,hH1⟩:=kid hrd (i:=i) (by omega);have hD:(if decide (d.k=8)=true∧i=1 then dp else dp+1)=dp+1:=if_neg (fun e=>by omega);refine wrl (sdo (v:=pA g2 10) H (qb vb rfl rfl) λa H=>?_);refine sdo H (qw M qff rfl 0 rfl rfl) λa H=>?_;refine sdm H λa H=>?_;refine sdo (v:=pA b1 (o1+i*11)) H (jy (k:=i) Tryz.underlying28 (by kernel_rfl) rfl rfl rfl hl1 (by omega)) λa H=>?_;refine sdo H (qia M hH1 xi rfl rfl) λa H=>?_;iterate 2 refine sdm H λa H=>?_
        refine gcl H M (ef rfl rfl) (ih t1 hm1 (Dt.keep M.bel _ hr1) (zlh hm1 hbk) (by omega) (by omega) (by omega) (by omega)) fun w32 hb31 M a H=>?_;refine sda H λa H=>?_;refine qa (hK23 _ _ (wrl (sdm H λa H=>?_)));refine sdo (v:=iV (((i+1:Nat):Int))) H (qe rfl rfl (fun w=>(kg (yw (by omega) (by omega)) w).trans (by rw[show(((i:Nat):Int)+1:Int)=((i+1:Nat):Int)from by omega]))) λa H=>?_;refine sda H λa H=>?_;refine qa ?_;have hc9:=zhc zl t1.tr (dp+1) m (by omega);refine hK17 _ _ _ (by omega) ⟨i+1,qfe zl (dp+1) m t1.tr,rfl,⟨by omega,by rw[hin9,qwi hi1 (by omega) hD],by omega,by omega⟩,H.keep _ (by repeat' constructor),M⟩
      ·have hb27':=ne_of_beq_false hb27;refine sdc H qf hb27 λa H=>?_;refine sdm H λa H=>?_;iterate 2 refine qg H rfl rfl rfl λa H=>?_
       refine sdk (v:=bV false) H λa H=>?_;refine qa (hK26 _ _ (cf H ?_));refine wp_skip (hK25 _ _ ?_);obtain⟨t1,b1,o1,hi1,hm1,hr1,hl1,hH1⟩:=kid hrd (i:=i) (by omega);have hD:(if decide (d.k=8)=true∧i=1 then dp else dp+1)=dp+1:=if_neg (fun e=>hb27' (of_decide_eq_true e.1));refine wrl (sdo (v:=pA g2 10) H (qb vb rfl rfl) λa H=>?_);refine sdo H (qw M qff rfl 0 rfl rfl) λa H=>?_;refine sdm H λa H=>?_;refine sdo (v:=pA b1 (o1+i*11)) H (jy (k:=i) Tryz.underlying28 (by kernel_rfl) rfl rfl rfl hl1 (by omega)) λa H=>?_;refine sdo H (qia M hH1 xi rfl rfl) λa H=>?_;iterate 2 refine sdm H λa H=>?_
       refine gcl H M (ef rfl rfl) (ih t1 hm1 (Dt.keep M.bel _ hr1) (zlh hm1 hbk) (by omega) (by omega) (by omega) (by omega)) fun w34 hb33 M a H=>?_;refine sda H λa H=>?_;refine qa (hK23 _ _ (wrl (sdm H λa H=>?_)));refine sdo (v:=iV (((i+1:Nat):Int))) H (qe rfl rfl (fun w=>(kg (yw (by omega) (by omega)) w).trans (by rw[show(((i:Nat):Int)+1:Int)=((i+1:Nat):Int)from by omega]))) λa H=>?_;refine sda H λa H=>?_;refine qa ?_;have hc9:=zhc zl t1.tr (dp+1) m (by omega);refine hK17 _ _ _ (by omega) ⟨i+1,qfe zl (dp+1) m t1.tr,rfl,⟨by omega,by rw[hin9,qwi hi1 (by omega) hD],by omega,by omega⟩,H.keep _ (by repeat' constructor),M⟩
     ·have hb22':=of_decide_eq_false hb22;refine sdc H jb hb22 λa H=>?_;refine sdk (v:=bV false) H λa H=>?_;refine qa (hK20 _ _ (cf H ?_));refine wp_exit (hK14 _ _ (wsk fun K35 hK35=>wrl (sdm H λa H=>?_)));refine sda H λa H=>?_;refine qa (hK35 _ _ (wr1 hret H ?_));rw[znf (by omega) (by omega) (by rw[ub]; exact hb10),hin9,qpc (by omega)];exact⟨rfl,M.bel⟩
    ·have hb21':=of_decide_eq_false hb21;refine sdc H zr hb21 λa H=>?_;refine sdm H λa H=>?_;iterate 2 refine qg H rfl rfl rfl λa H=>?_
     refine sdk (v:=bV false) H λa H=>?_;refine qa (hK20 _ _ (cf H ?_));refine wp_exit (hK14 _ _ (wsk fun K36 hK36=>wrl (sdm H λa H=>?_)));refine sda H λa H=>?_;refine qa (hK36 _ _ (wr1 hret H ?_));rw[znf (by omega) (by omega) (by rw[ub]; exact hb10),hin9,qed (by omega),qhi];exact⟨rfl,M.bel⟩
   ·refine gcl H M (ef rfl rfl) (qsc (hok.1.below M.bel) (zpj hbk) hlen hb10) fun w38 hb37 M a H=>?_;refine sdo (v:=bV true) H (qr rfl zb) λa H=>?_;refine sdk (v:=bV true) H λa H=>?_;refine qa (hK5 _ _ (ct H ?_));refine wsk fun K39 hK39=>wrl (sda H λa H=>?_);refine qa (hK39 _ _ (wr1 hret H ?_));rw[qwh (.inr (.inr (by rw[ub]; exact hb10)))];exact⟨rfl,M.bel⟩
theorem zlj{w:World}{d:Nd}{ts:List Dt}(hrd:(Dt.mk d ts).rd w)(hbk:jp smT (Dt.mk d ts).tr=true):Calls Tryz.prog 10 #[.agg (d.cells ts.length).toArray] w fun e w'=>e=.returned (bV (ku zl (Dt.mk d ts).tr))∧Below w.heap.size w w':=by
 have M:Mg w w ([]):=Mg.start w;refine qn (l:=[(0,.agg (d.cells ts.length).toArray)]) Tryz.func10 rfl Tryz.ntmps10 rfl rfl ?_;intro Q hret hnorm hP a H;refine wsk fun K1 hK1=>wrl (xt (vs:=[iV d.k,iV d.n,bV d.y.q.b1,.slice d.y.o1 d.y.q.t1.length d.y.c1,.slice d.y.o2 d.y.q.q1.length d.y.c2,bV d.y.q.b2,.slice d.y.o3 d.y.q.t2.length d.y.c3,.slice d.y.o4 d.y.q.q2.length d.y.c4,.string d.s,.slice d.ro d.rl.length d.rc,.slice d.lo ts.length d.lc]) (t:=30) H M rfl rfl rfl pg (zd rfl rfl) (by decide) ?_);intro g2 w3 M a H;refine sda H λa H=>?_;refine qa (hK1 _ _ (wsk fun K4 hK4=>wrl (sdo H (jg M xi rfl 0 rfl (cs:=[iV d.k,iV d.n,bV d.y.q.b1,.slice d.y.o1 d.y.q.t1.length d.y.c1,.slice d.y.o2 d.y.q.q1.length d.y.c2,bV d.y.q.b2,.slice d.y.o3 d.y.q.t2.length d.y.c3,.slice d.y.o4 d.y.q.q2.length d.y.c4,.string d.s,.slice d.ro d.rl.length d.rc,.slice d.lo ts.length d.lc]) rfl rfl) λa H=>?_)));refine gcl H M (ef rfl rfl) (zli (Dt.mk d ts) (Dt.keep M.bel _ hrd) hbk (by omega) (by omega) (by omega) (by omega)) fun w5 hb9 M a H=>?_;refine sdo (v:=bV (decide (0≤qfe zl 1 20000 (Dt.mk d ts).tr))) H (qe rfl rfl jb) λa H=>?_;refine sda H λa H=>?_;refine qa (hK4 _ _ (wr1 hret H ?_));exact⟨by rw[←zac],M.bel⟩
theorem uu{w:World}{t:Dt}(hrd:t.rd w)(hbk:jp smT t.tr=true):Calls Tryz.prog 10 #[.agg t.cells.toArray] w fun e w'=>e=.returned (bV (ku zl t.tr))∧Below w.heap.size w w':=by
 obtain⟨d,ts⟩:=t;exact zlj hrd hbk
theorem zfd: ∀(f:Nat) (l:List UInt8) (r:List UInt8×Nat),qki f l=some r→r.1.length≤4*f
 | 0, l, r, h => by rw [qki] at h; cases h
 | f + 1, l, r, h => by
  rw[qki]at h;by_cases c1:Lib.hasPrefix l [34]=true
  ·rw[if_pos c1]at h; cases h; exact Nat.zero_le _
  rw[if_neg c1]at h;by_cases c2:l.isEmpty=true
  ·rw[if_pos c2]at h; cases h
  rw[if_neg c2]at h;obtain⟨⟨c,n⟩,h1,h⟩:=Option.bind_eq_some_iff.1 h;obtain⟨v,h2,rfl⟩:=Option.map_eq_some_iff.1 h;show(Lib.encodeRune c++v.1).length≤_;have h3:=zfd f _ _ h2;have h4:=(vm c).2;rw[List.length_append];omega
theorem qsd: ∀(f:Nat) (ne:Bool) (l r:List UInt8),qgi f ne l=some r→r.length≤4*f
 | 0, ne, l, r, h => by rw [qgi] at h; cases h
 | f + 1, ne, l, r, h => by
  rw[qgi]at h;by_cases c2:l.isEmpty=true
  ·rw[if_pos c2]at h; cases h; exact Nat.zero_le _
  rw[if_neg c2]at h;obtain⟨⟨c,n⟩,h1,h⟩:=Option.bind_eq_some_iff.1 h;obtain⟨v,h2,rfl⟩:=Option.map_eq_some_iff.1 h;show(Lib.encodeRune c++v).length≤_;have h3:=qsd f _ _ _ h2;have h4:=(vm c).2;rw[List.length_append];omega
theorem jde{l r:List UInt8}(h:qig l=some r):r.length≤4*l.length+8:=by
 unfold qig at h;by_cases c1:l=[43]
 ·rw[if_pos c1]at h; cases h; omega
 rw[if_neg c1]at h;by_cases c2:l=[45]
 ·rw[if_pos c2]at h; cases h; omega
 rw[if_neg c2]at h;by_cases c3:l=[46,46,46]
 ·rw[if_pos c3]at h; cases h; omega
 rw[if_neg c3]at h;by_cases c4:Lib.hasPrefix l [45,62]=true
 ·rw[if_pos c4]at h;obtain⟨v,h2,rfl⟩:=Option.map_eq_some_iff.1 h;show(45::62::v).length≤_;have:=qsd _ _ _ _ h2;simp only[List.length_cons];omega
 rw[if_neg c4]at h;have:=qsd _ _ _ _ h;omega
theorem jdf(l:List UInt8):(tkX l).length≤l.length:=by
 unfold tkX;rw[List.length_take];omega
theorem ko{k n:Int}{s:ByteArray}(h:s.size≤4000000):jp smT (lfT k n s)=true:=by
 show(decide (s.size≤4000000)&&true)=true;rw[decide_eq_true h];rfl
theorem zua{W:List UInt8}{t:Tr}(hW:W.length≤65536)(h:qdi W=some (t,false)):jp smT t=true:=by
 unfold qdi at h;by_cases c1:W=[35,116]
 ·rw[if_pos c1]at h; cases h; exact ko (by decide)
 rw[if_neg c1]at h;by_cases c2:W=[35,84]
 ·rw[if_pos c2]at h; cases h; exact ko (by decide)
 rw[if_neg c2]at h;by_cases c3:W=[35,102]
 ·rw[if_pos c3]at h; cases h; exact ko (by decide)
 rw[if_neg c3]at h;by_cases c4:W=[35,70]
 ·rw[if_pos c4]at h; cases h; exact ko (by decide)
 rw[if_neg c4]at h;by_cases c5:Lib.hasPrefix W [35,92]=true
 ·rw[if_pos c5]at h;obtain⟨v,h2,e⟩:=Option.map_eq_some_iff.1 h;cases e
  exact ko (by decide)
 rw[if_neg c5]at h;by_cases c6:(vd W 10).2=0
 ·rw[if_pos c6]at h;cases h
  rfl
 rw[if_neg c6]at h;by_cases c7:(vd W 10).2=4
 ·rw[if_pos c7]at h; cases h
 rw[if_neg c7]at h;obtain⟨v,h2,e⟩:=Option.map_eq_some_iff.1 h;cases e
 exact ko (by rw[xb]; have:=jde h2; omega)
theorem qci: ∀{ts:List Tr} {z:Tr},vj smT ts=true→jp smT z=true→jp smT (ke ts z)=true
 | [], z, _, h => h
 | t :: ts, z, h1, h => by
  obtain⟨a,b⟩:=Bool.and_eq_true_iff.1 (show(jp smT t&&vj smT ts)=true from h1);show(smT (.mk 8 0 Q6.zero ⟨#[]⟩ [] [t,ke ts z])&&(jp smT t&&(jp smT (ke ts z)&&true)))=true;rw[a,qci b h,show smT (.mk 8 0 Q6.zero ⟨#[]⟩ [] [t,ke ts z])=true from rfl];rfl
theorem qve: jp smT nilT=true:=rfl
theorem zub: jp smT zkg=true:=rfl
theorem zuc{ts:List Tr}(h:vj smT ts=true):jp smT (jbc ts)=true:=by
 show(true&&vj smT ts)=true;rw[h]; rfl
theorem zud(l:List UInt8):jp smT (zkj l)=true:=rfl
theorem qvf: ∀f:Nat,(∀l t n,l.length≤65536→dat f l=some (t,n,false)→jp smT t=true)∧(∀e l ts n,List.length l≤65536→itm f e l=some (ts,n,false)→vj smT ts=true)∧(∀e h l ts z n,List.length l≤65536→lst f e h l=some (ts,z,n,false)→vj smT ts=true∧jp smT z=true)
 | 0 => ⟨fun l t n _ h => (by rw [dat] at h; cases h), fun e l ts n _ h => (by rw [itm] at h; cases h), fun e h l ts z n _ k => (by rw [lst] at k; cases k)⟩
 | f + 1 => by
  obtain⟨hd,hi,hl⟩:=qvf f;refine⟨fun l t n hq h=>?_,fun e l ts n hq h=>?_,fun e hh l ts z n hq h=>?_⟩;all_goals have hdr:∀k,(l.drop k).length≤65536:=fun k=>by rw[List.length_drop]; omega
  ·rw[dat]at h;by_cases c1:Lib.hasPrefix l [40]=true
   ·rw[if_pos c1]at h;obtain⟨⟨ts,z,m,b⟩,hx,e⟩:=Option.map_eq_some_iff.1 h;cases e
    exact qci (hl _ _ _ _ _ _ (by simp only[List.length_drop]; omega) hx).1 (hl _ _ _ _ _ _ (by simp only[List.length_drop]; omega) hx).2
   rw[if_neg c1]at h;by_cases c2:Lib.hasPrefix l [91]=true
   ·rw[if_pos c2]at h;obtain⟨⟨ts,z,m,b⟩,hx,e⟩:=Option.map_eq_some_iff.1 h;cases e
    exact qci (hl _ _ _ _ _ _ (by simp only[List.length_drop]; omega) hx).1 (hl _ _ _ _ _ _ (by simp only[List.length_drop]; omega) hx).2
   rw[if_neg c2]at h;by_cases c3:Lib.hasPrefix l [35,40]=true
   ·rw[if_pos c3]at h;obtain⟨⟨ts,m,b⟩,hx,e⟩:=Option.map_eq_some_iff.1 h;cases e
    exact zuc (hi _ _ _ _ (by simp only[List.length_drop]; omega) hx)
   rw[if_neg c3]at h;by_cases c4:Lib.hasPrefix l [35,118,117,56,40]=true
   ·rw[if_pos c4]at h;obtain⟨⟨us,m,b⟩,_,h⟩:=Option.bind_eq_some_iff.1 h;obtain⟨y,_,e⟩:=Option.map_eq_some_iff.1 h;cases e
    exact zud y
   rw[if_neg c4]at h;by_cases c5:Lib.hasPrefix l [39]=true
   ·rw[if_pos c5]at h;obtain⟨x,_,h⟩:=Option.bind_eq_some_iff.1 h;obtain⟨⟨y,m,b⟩,hy,e⟩:=Option.map_eq_some_iff.1 h;cases e
    exact qci (by show(jp smT zkg&&(jp smT y&&true))=true; rw[zub,hd _ _ _ (by simp only[List.length_drop]; omega) hy]; rfl) qve
   rw[if_neg c5]at h;by_cases c6:Lib.hasPrefix l [34]=true
   ·rw[if_pos c6]at h;obtain⟨x,hx,e⟩:=Option.map_eq_some_iff.1 h;cases e
    exact ko (by rw[xb]; have h9:=zfd _ _ _ hx; have h8:=hdr 1; omega)
   rw[if_neg c6]at h;unfold qrb at h;by_cases c7:tkX l=[]
   ·rw[if_pos c7]at h; cases h
   ·rw[if_neg c7]at h;obtain⟨⟨x,b⟩,hx,e⟩:=Option.map_eq_some_iff.1 h;cases e
    exact zua (by have h9:=jdf l; omega) hx
  ·rw[itm]at h;obtain⟨m,_,h⟩:=Option.bind_eq_some_iff.1 h;by_cases c:m.1=true
   ·rw[if_pos c]at h;obtain⟨⟨t,k,b⟩,h1,h⟩:=Option.bind_eq_some_iff.1 h;obtain⟨⟨us,k2,b2⟩,h2,e9⟩:=Option.map_eq_some_iff.1 h;have e2:(b||b2)=false:=(congrArg (fun x=>x.2.2) e9);obtain⟨rfl,rfl⟩:=Bool.or_eq_false_iff.1 e2;have e3:t::us=ts:=congrArg (fun x=>x.1) e9;subst e3;show(jp smT t&&vj smT us)=true;rw[hd _ _ _ (by simp only[List.length_drop]; omega) h1,hi _ _ _ _ (by simp only[List.length_drop]; omega) h2]; rfl
   ·rw[if_neg c]at h;cases h; rfl
  ·rw[lst]at h;obtain⟨m,_,h⟩:=Option.bind_eq_some_iff.1 h;by_cases c:m.1=true
   ·rw[if_pos c]at h;by_cases d:qkb (l.drop m.2)=true
    ·rw[if_pos d]at h;by_cases k:hh=true
     ·rw[if_pos k]at h; cases h
     rw[if_neg k]at h;obtain⟨b9,_,h⟩:=Option.bind_eq_some_iff.1 h;obtain⟨⟨t,k1,b⟩,h1,h⟩:=Option.bind_eq_some_iff.1 h;obtain⟨k3,_,h⟩:=Option.bind_eq_some_iff.1 h
     split at h
     ·cases h
     ·cases h
      exact⟨rfl,hd _ _ _ (by simp only[List.length_drop]; omega) h1⟩
    ·rw[if_neg d]at h;obtain⟨⟨t,k1,b⟩,h1,h⟩:=Option.bind_eq_some_iff.1 h;obtain⟨⟨us,z2,k2,b2⟩,h2,e9⟩:=Option.map_eq_some_iff.1 h;have e2:(b||b2)=false:=(congrArg (fun x=>x.2.2.2) e9);obtain⟨rfl,rfl⟩:=Bool.or_eq_false_iff.1 e2;have e3:t::us=ts:=congrArg (fun x=>x.1) e9;have e4:z2=z:=congrArg (fun x=>x.2.1) e9;subst e3 e4;refine⟨?_,(hl _ _ _ _ _ _ (by simp only[List.length_drop]; omega) h2).2⟩;show(jp smT t&&vj smT us)=true;rw[hd _ _ _ (by simp only[List.length_drop]; omega) h1,(hl _ _ _ _ _ _ (by simp only[List.length_drop]; omega) h2).1]; rfl
   ·rw[if_neg c]at h;cases h
    exact⟨rfl,qve⟩
theorem zue{L:List UInt8}(h:(rdX L).1=0):jp smT (rdX L).2.2=true:=by
 have hl:=zeg h;rw[jce (by omega)]at h ⊢;unfold frX at h ⊢;cases hs:skp (2*L.length+1) L with
 | none => rw [hs] at h; cases h
 | some a =>
  rw[hs]at h;simp only at h ⊢;by_cases c:(L.drop a).isEmpty=true
  ·rw[if_pos c]at h; cases h
  rw[if_neg c]at h ⊢;cases hd:dat (2*L.length+1) (L.drop a)with
  | none => rw [hd] at h; cases h
  | some r =>
   rw[hd]at h;simp only at h ⊢;by_cases v:Lib.validD (L.take (a+r.2.1))=true
   ·rw[if_pos v]at h ⊢;by_cases b:r.2.2=true
    ·rw[if_pos b]at h; cases h
    rw[if_neg b]at h ⊢;by_cases ft:(jo 1 20000 r.1).1=true
    ·rw[if_pos ft];obtain⟨t,n,b9⟩:=r;have e:b9=false:=(by simpa using b);subst e;exact(qvf _).1 _ _ _ (by rw[List.length_drop]; omega) hd
    ·rw[if_neg ft]at h; cases h
   ·rw[if_neg v]at h; cases h
def AW: List UInt8:=[32,40,97,32,46,32,35,116,41,120]
def AWT: Tr:=.mk 8 0 Q6.zero ⟨#[]⟩ [] [lfT 6 0 (tx [97]),lfT 2 1 ⟨#[]⟩]
set_option maxRecDepth 100000 in
theorem jng: rdX AW=(0,9,AWT):=by kernel_rfl
theorem jdg{w:World}(hN:Env w):Calls Tryz.prog 7 #[.string (tx AW)] w fun e w'=>∃t:Dt,e=.returned (.tuple #[.agg (t.d.cells t.ts.length).toArray,iV 9,iV 0])∧(t.tr=AWT∧t.rd w')∧Below w.heap.size w w':=by
 refine(read_any (L:=AW) (U:=[]) (Z:=[]) hN Cu.nil Ob.nil (by decide) (Mg.start w)).mono ?_;rintro e w' ⟨t,F,rfl,⟨h1,_⟩,⟨hL,_⟩,M⟩;rw[jng]at h1 ⊢;exact⟨t,rfl,⟨h1,hL _ M⟩,M.bel⟩
theorem jkd(t:Dt):t.tr.ts=t.ts.map Dt.tr:=by cases t; rw[Dt.tr_mk]; rfl
theorem jsh(t:Dt):t.tr.s=t.d.s:=by cases t; rw[Dt.tr_mk]; rfl
theorem jsi(t:Dt):t.tr.n=t.d.n:=by cases t; rw[Dt.tr_mk]; rfl
theorem jdh{t u:Dt}{i:Nat}{x:Tr}(h:t.ts[i]?=some u)(hx:t.tr.ts[i]?=some x):u.tr=x:=by
 rw[jkd,List.getElem?_map,h]at hx;exact Option.some.inj hx
theorem zuf{w:World}(hN:Env w):Calls Tryz.prog 8 #[] w fun e w'=>e=.returned (bV true)∧Below w.heap.size w w':=by
 have M:Mg w w ([]):=Mg.start w;refine qn (l:=[]) Tryz.func8 rfl Tryz.ntmps8 rfl rfl ?_;intro Q hret hnorm hP a A;refine wsk fun K1 hK1=>wrl (sda A λa A=>?_);refine qa (hK1 _ _ (wsk fun K2 hK2=>wrl (sct A (ef rfl rfl) (jdg hN) ?_)));rintro _ w3 ⟨t1,rfl,⟨htr1,hr1⟩,hB1⟩;have hk8:t1.d.k=8:=by rw[←jsf,htr1]; rfl
 have hln:t1.ts.length=2:=by rw[←List.length_map (f:=Dt.tr),←jkd,htr1]; rfl
 obtain⟨ta,bta,ota,ita,mta,rta_,lta,Hta⟩:=jpj hr1 (i:=0) (by omega);obtain⟨tb,btb,otb,itb,mtb,rtb_,ltb,Htb⟩:=jpj hr1 (i:=1) (by omega);have hsq:decide (ta.d.s=⟨#[97]⟩)=true:=decide_eq_true (by rw[←jsh,jdh ita (by rw[htr1]; rfl)]; rfl);have hnq:tb.d.n=1:=by rw[←jsi,jdh itb (by rw[htr1]; rfl)]; rfl
 replace M:Mg w3 w3 ([]):=Mg.start w3;refine⟨_,rfl,?_⟩;intro a A;refine sdm A λa A=>?_;iterate 3 refine sdo A (qi (vs:=[.agg (t1.d.cells t1.ts.length).toArray,iV 9,iV 0]) rfl rfl) λa A=>?_
 refine xt (vs:=zD) (t:=30) A M rfl rfl rfl pg (ql (z:=.agg zD.toArray) (by kernel_rfl) rfl) (by decide) ?_;intro g4 w5 M a A;refine za (L':=(.obj g4 (.cells (t1.d.cells t1.ts.length).toArray 30)::[])) A M rfl rfl (qp rfl rfl rfl (by kernel_rfl) M 0 rfl rfl rfl) 0 rfl rfl rfl ?_;intro w6 M;iterate 2 refine sda A λa A=>?_
 refine qa (hK2 _ _ (wsk fun K7 hK7=>wrl (sdm A λa A=>?_)));refine sdo (v:=bV true) A dbK λa A=>?_;iterate 2 refine sdm A λa A=>?_
 refine sdo (v:=bV true) A dbK λa A=>?_;refine sdk (v:=bV true) A λa A=>?_;refine sdm A λa A=>?_;refine sdo (v:=pA g4 0) A (qb kv rfl rfl) λa A=>?_;refine sdo A (qw M o93 rfl 0 rfl rfl) λa A=>?_;refine sdo (v:=bV true) A (qe rfl rfl (fun w=>(qf w).trans (by rw[show((t1.d.k==8))=true from(beq_iff_eq.2 hk8)]))) λa A=>?_;refine sdk (v:=bV true) A λa A=>?_;refine sdm A λa A=>?_;refine sdo (v:=pA g4 10) A (qb vb rfl rfl) λa A=>?_;refine sdo A (qw M qff rfl 0 rfl rfl) λa A=>?_;refine sdo A (zh Tryz.underlying28 rfl) λa A=>?_;refine sdo (v:=bV true) A (qe rfl rfl (fun w=>(qf w).trans (by rw[show((((t1.ts.length:Nat):Int)==2))=true from(beq_iff_eq.2 (by omega))]))) λa A=>?_;refine sdk (v:=bV true) A λa A=>?_;refine sdm A λa A=>?_;refine sdo (v:=pA g4 10) A (qb vb rfl rfl) λa A=>?_;refine sdo A (qw M qff rfl 0 rfl rfl) λa A=>?_;refine sdo (v:=pA bta (ota+0*11)) A (jy (k:=0) Tryz.underlying28 (by kernel_rfl) rfl rfl rfl lta (by omega)) λa A=>?_;refine sdo (v:=pA bta (ota+0*11+8)) A (qb ya rfl rfl) λa A=>?_;refine sdo A (qbi (j:=8) M Hta o99 rfl rfl rfl) λa A=>?_;refine sdo (v:=bV true) A (qe rfl rfl (fun w=>(qhj Tryz.underlying9 w).trans (by rw[hsq]<;>rfl))) λa A=>?_;refine sdk (v:=bV true) A λa A=>?_;refine sdm A λa A=>?_;refine sdo (v:=pA g4 10) A (qb vb rfl rfl) λa A=>?_;refine sdo A (qw M qff rfl 0 rfl rfl) λa A=>?_;refine sdo (v:=pA btb (otb+1*11)) A (jy (k:=1) Tryz.underlying28 (by kernel_rfl) rfl rfl rfl ltb (by omega)) λa A=>?_;refine sdo (v:=pA btb (otb+1*11+1)) A (qb kw rfl rfl) λa A=>?_;refine sdo A (qbi (j:=1) M Htb o93 rfl rfl rfl) λa A=>?_;refine sdo (v:=bV true) A (qe rfl rfl (fun w=>(qf w).trans (by rw[show((tb.d.n==1))=true from(beq_iff_eq.2 hnq)]))) λa A=>?_;refine sdk (v:=bV true) A λa A=>?_;refine sda A λa A=>?_;refine qa (hK7 _ _ (wr1 hret A ?_));exact⟨rfl,hB1.trans (M.bel.mono hB1.size)⟩
end Go.Proofs.YtjhkejihhpnooaaGreatDoor.G
namespace Go.Proofs.YtjhkejihhpnooaaGreatDoor
open Go.RowKit
set_option maxRecDepth 100000
end Go.Proofs.YtjhkejihhpnooaaGreatDoor
namespace Go.Proofs.YtjhkejihhpnooaaGreatDoor.G
open Go.RowKit
set_option maxRecDepth 100000
section
variable {P:Program} {md:Region.Mode} {ops:List Oper} {Q:Exit→Act→World→Prop} {S:World→Prop} {fuel:Nat} {listed:Array Bool} {a:Act} {w w':World} {n:Nat} {l:List (Nat×Value)} {o:Oper} {v:Value}
theorem qoa(A:Sl a n l)(i:Nat)(hi:ops[i]?=some o)(hg:qda l ops o=true){d:Nat}(hdst:o.dst=some d)(hd:Nat.blt d n=true)(hP:∀c a d v w,Q (.panic c) (Act.put a d v) w→Q (.panic c) a w)(V:S w)
  (hk:∀a',Sl a' n ((d,undef)::l)→wpAnyH P md ops.toArray Q S fuel (listed.setIfInBounds i true) a' w) (hs:Region.noSelect ops.toArray=true:=by kernel_rfl) (hf:Region.free md ops.toArray listed i=true:=by kernel_rfl) (hr:(Region.ready md ops.toArray listed).contains i=true:=by kernel_rfl):wpAnyH P md ops.toArray Q S (fuel+1) listed a w:=
 by
 refine wpAnyH_take (i:=i) (oi:=o) (v:=undef) (by simpa using hi) hs hf hr (fun c a w h=>hP c a _ _ w h) (Or.inr ⟨A.unwantedU hg,rfl⟩) V ?_;rw[hdst];exact hk _ (A.put hd undef)
end
theorem zma{w:World}{t:Dt}{L:List UInt8}(hN:Env w)(ht:t.rd w)(hsz:jp smT t.tr=true)(hl:L.length≤140737488355328):Calls Tryz.prog 3 #[.agg (t.d.cells t.ts.length).toArray,.string (tx L)] w fun e w'=>e=.returned (bV true)∧Below w.heap.size w w':=by
 have M:Mg w w ([]):=Mg.start w;refine qn (l:=[(0,.agg (t.d.cells t.ts.length).toArray),(1,.string ((tx L)))]) Tryz.func3 rfl Tryz.ntmps3 rfl rfl ?_;intro Q hret hnorm hP a A;refine wsk fun K1 hK1=>wrl (xt (vs:=[iV t.d.k,iV t.d.n,bV t.d.y.q.b1,.slice t.d.y.o1 t.d.y.q.t1.length t.d.y.c1,.slice t.d.y.o2 t.d.y.q.q1.length t.d.y.c2,bV t.d.y.q.b2,.slice t.d.y.o3 t.d.y.q.t2.length t.d.y.c3,.slice t.d.y.o4 t.d.y.q.q2.length t.d.y.c4,.string t.d.s,.slice t.d.ro t.d.rl.length t.d.rc,.slice t.d.lo t.ts.length t.d.lc]) (t:=30) A M rfl rfl rfl pg (zd rfl rfl) (by decide) ?_);intro g2 w3 M a A;refine sda A λa A=>?_;refine qa (hK1 _ _ (wsk fun K4 hK4=>wrl (sdm A λa A=>?_)));obtain⟨e1,n1,T1,hr1⟩:∃e n t,rdX L=(e,n,t):=⟨_,_,_,rfl⟩;refine sct A (ef rfl rfl) ((by have h:=read_any (L:=L) (U:=(.obj g2 (.cells (t.d.cells t.ts.length).toArray 30)::[])) (Z:=[]) hN (Cu.cons rfl Cu.nil) Ob.nil (by omega) M; rw[hr1]at h; exact h)) ?_;rintro _ w5 ⟨t1,F1,rfl,⟨htr0,hle0⟩,⟨hL0,hO1⟩,hM1⟩;have htr1:t1.tr=T1:=htr0;have hL1:Lv w F1 t1:=by rw[List.append_nil]at hL0; exact hL0
 have hsd:e1=0→ku zl t1.tr=true:=fun k=>by have h:=jci (L:=L) (by rw[hr1]; exact k); rw[hr1]at h; rw[htr1]; exact h
 have hsm:e1=0→jp smT t1.tr=true:=fun k=>by have h:=zue (L:=L) (by rw[hr1]; exact k); rw[hr1]at h; rw[htr1]; exact h
 rw[List.append_nil]at hM1;replace M:Mg w w5 (.obj g2 (.cells (t.d.cells t.ts.length).toArray 30)::F1):=hM1;refine⟨_,rfl,?_⟩;intro a A;refine sdm A λa A=>?_;iterate 3 refine sdo A (qi (vs:=[.agg (t1.d.cells t1.ts.length).toArray,iV (((n1:Nat):Int)),iV e1]) rfl rfl) λa A=>?_
 refine xt (vs:=zD) (t:=30) A M rfl rfl rfl pg (ql (z:=.agg zD.toArray) (by kernel_rfl) rfl) (by decide) ?_;intro g6 w7 M a A;refine za (L':=(.obj g6 (.cells (t1.d.cells t1.ts.length).toArray 30)::.obj g2 (.cells (t.d.cells t.ts.length).toArray 30)::F1)) A M rfl rfl (qp rfl rfl rfl (by kernel_rfl) M 0 rfl rfl rfl) 0 rfl rfl rfl ?_;intro w8 M;iterate 2 refine sda A λa A=>?_
 refine qa (hK4 _ _ (wsk fun K9 hK9=>jt (S:=fun w1=>Mg w w1 (.obj g6 (.cells (t1.d.cells t1.ts.length).toArray 30)::.obj g2 (.cells (t.d.cells t.ts.length).toArray 30)::F1)) (by kernel_rfl) ?_));replace M:=M.drew;refine zj (by kernel_rfl) (ji A 0 rfl rfl rfl rfl (ef rfl rfl) (zuf (hN.below M.bel)) ?_);rintro _ w11 ⟨rfl,hb10⟩;replace M:=M.call hb10;refine⟨_,rfl,(M.sub (cC (cC (List.Sublist.refl _)))),?_⟩;intro a A;refine atk A 1 rfl hP (M.sub (cC (cC (List.Sublist.refl _)))) (λ_ M=>qs rfl) λa A=>?_;refine atk A 2 rfl hP (M.sub (cC (cC (List.Sublist.refl _)))) (λ_ M=>jg M xi rfl 1 rfl (cs:=[iV t.d.k,iV t.d.n,bV t.d.y.q.b1,.slice t.d.y.o1 t.d.y.q.t1.length t.d.y.c1,.slice t.d.y.o2 t.d.y.q.q1.length t.d.y.c2,bV t.d.y.q.b2,.slice t.d.y.o3 t.d.y.q.t2.length t.d.y.c3,.slice t.d.y.o4 t.d.y.q.q2.length t.d.y.c4,.string t.d.s,.slice t.d.ro t.d.rl.length t.d.rc,.slice t.d.lo t.ts.length t.d.lc]) rfl rfl) λa A=>?_;refine atk A 4 rfl hP (M.sub (cC (cC (List.Sublist.refl _)))) (λ_ M=>jg M xi rfl 1 rfl (cs:=[iV t.d.k,iV t.d.n,bV t.d.y.q.b1,.slice t.d.y.o1 t.d.y.q.t1.length t.d.y.c1,.slice t.d.y.o2 t.d.y.q.q1.length t.d.y.c2,bV t.d.y.q.b2,.slice t.d.y.o3 t.d.y.q.t2.length t.d.y.c3,.slice t.d.y.o4 t.d.y.q.q2.length t.d.y.c4,.string t.d.s,.slice t.d.ro t.d.rl.length t.d.rc,.slice t.d.lo t.ts.length t.d.lc]) rfl rfl) λa A=>?_;rcases tf (ku zl t.tr)with hb13 | hb13
 ·refine zj (by kernel_rfl) (ji A 3 rfl rfl rfl rfl (ef rfl rfl) ((hb13▸sound_any (t:=t) (Dt.keep M.bel _ ht) (hN.below M.bel).tb)) ?_);rintro _ w15 ⟨rfl,hb14⟩;replace M:=M.call hb14;refine⟨_,rfl,(M.sub (cC (cC (List.Sublist.refl _)))),?_⟩;intro a A;refine zj (by kernel_rfl) (ji A 5 rfl rfl rfl rfl (ef rfl rfl) ((hb13▸uu (t:=t) (Dt.keep M.bel _ ht) hsz)) ?_);rintro _ w17 ⟨rfl,hb16⟩;replace M:=M.call hb16;refine⟨_,rfl,(M.sub (cC (cC (List.Sublist.refl _)))),?_⟩;intro a A;refine atk (v:=bV true) A 6 rfl hP (M.sub (cC (cC (List.Sublist.refl _)))) (λ_ M=>qe rfl rfl (qoe Tryz.underlying4)) λa A=>?_;refine atk (v:=bV true) A 7 rfl hP (M.sub (cC (cC (List.Sublist.refl _)))) (λ_ M=>zn rfl rfl rfl rfl) λa A=>?_;refine atk A 8 rfl hP (M.sub (cC (cC (List.Sublist.refl _)))) (λ_ M=>qs rfl) λa A=>?_;refine atk A 9 rfl hP (M.sub (cC (cC (List.Sublist.refl _)))) (λ_ M=>qs rfl) λa A=>?_;rcases tf ((e1 != 0))with hb18 | hb18
  ·have hb18':=bne_iff_ne.1 hb18;refine atk (v:=bV true) A 10 rfl hP (M.sub (cC (cC (List.Sublist.refl _)))) (λ_ M=>qe rfl rfl (fun w=>(zt w).trans (by rw[hb18]))) λa A=>?_;refine atk A 11 rfl hP (M.sub (cC (cC (List.Sublist.refl _)))) (λ_ M=>qs rfl) λa A=>?_;refine ka A 12 rfl rfl rfl rfl hP (M.sub (cC (cC (List.Sublist.refl _)))) λa A=>?_;refine ka A 13 rfl rfl rfl rfl hP (M.sub (cC (cC (List.Sublist.refl _)))) λa A=>?_;refine ka A 14 rfl rfl rfl rfl hP (M.sub (cC (cC (List.Sublist.refl _)))) λa A=>?_;refine qoa A 15 rfl rfl rfl rfl hP (M.sub (cC (cC (List.Sublist.refl _)))) λa A=>?_;refine qoa A 16 rfl rfl rfl rfl hP (M.sub (cC (cC (List.Sublist.refl _)))) λa A=>?_;refine ka A 17 rfl rfl rfl rfl hP (M.sub (cC (cC (List.Sublist.refl _)))) λa A=>?_;refine atk (v:=bV true) A 18 rfl hP (M.sub (cC (cC (List.Sublist.refl _)))) (λ_ M=>zn rfl rfl rfl rfl) λa A=>?_;refine atk (v:=bV true) A 19 rfl hP (M.sub (cC (cC (List.Sublist.refl _)))) (λ_ M=>zn rfl rfl rfl rfl) λa A=>?_;refine atk A 20 rfl hP (M.sub (cC (cC (List.Sublist.refl _)))) (λ_ M=>ze rfl) λa A=>?_;refine zx (by kernel_rfl) ?_;refine hK9 _ _ (wr1 hret A ?_);exact⟨rfl,M.bel⟩
  ·have hb18':=bne_eq_false_iff_eq.1 hb18;refine atk (v:=bV false) A 10 rfl hP (M.sub (cC (cC (List.Sublist.refl _)))) (λ_ M=>qe rfl rfl (fun w=>(zt w).trans (by rw[hb18]))) λa A=>?_;refine atk A 11 rfl hP (M.sub (cC (cC (List.Sublist.refl _)))) (λ_ M=>qs rfl) λa A=>?_;refine atk A 12 rfl hP (M.sub (cC (cC (List.Sublist.refl _)))) (λ_ M=>jg M xi rfl 0 rfl (cs:=[iV t1.d.k,iV t1.d.n,bV t1.d.y.q.b1,.slice t1.d.y.o1 t1.d.y.q.t1.length t1.d.y.c1,.slice t1.d.y.o2 t1.d.y.q.q1.length t1.d.y.c2,bV t1.d.y.q.b2,.slice t1.d.y.o3 t1.d.y.q.t2.length t1.d.y.c3,.slice t1.d.y.o4 t1.d.y.q.q2.length t1.d.y.c4,.string t1.d.s,.slice t1.d.ro t1.d.rl.length t1.d.rc,.slice t1.d.lo t1.ts.length t1.d.lc]) rfl rfl) λa A=>?_;refine zj (by kernel_rfl) (ji A 13 rfl rfl rfl rfl (ef rfl rfl) ((hsd (by simpa using hb18)▸sound_any (t:=t1) (hL1 _ (M.sub (cN (cN (.refl _))))) (hN.below M.bel).tb)) ?_);rintro _ w20 ⟨rfl,hb19⟩;replace M:=M.call hb19;refine⟨_,rfl,(M.sub (cC (cC (List.Sublist.refl _)))),?_⟩;intro a A;refine atk A 14 rfl hP (M.sub (cC (cC (List.Sublist.refl _)))) (λ_ M=>qs rfl) λa A=>?_;refine atk A 15 rfl hP (M.sub (cC (cC (List.Sublist.refl _)))) (λ_ M=>jg M xi rfl 0 rfl (cs:=[iV t1.d.k,iV t1.d.n,bV t1.d.y.q.b1,.slice t1.d.y.o1 t1.d.y.q.t1.length t1.d.y.c1,.slice t1.d.y.o2 t1.d.y.q.q1.length t1.d.y.c2,bV t1.d.y.q.b2,.slice t1.d.y.o3 t1.d.y.q.t2.length t1.d.y.c3,.slice t1.d.y.o4 t1.d.y.q.q2.length t1.d.y.c4,.string t1.d.s,.slice t1.d.ro t1.d.rl.length t1.d.rc,.slice t1.d.lo t1.ts.length t1.d.lc]) rfl rfl) λa A=>?_;refine zj (by kernel_rfl) (ji A 16 rfl rfl rfl rfl (ef rfl rfl) ((hsd (by simpa using hb18)▸uu (t:=t1) (hL1 _ (M.sub (cN (cN (.refl _))))) (hsm (by simpa using hb18)))) ?_);rintro _ w22 ⟨rfl,hb21⟩;replace M:=M.call hb21;refine⟨_,rfl,(M.sub (cC (cC (List.Sublist.refl _)))),?_⟩;intro a A;refine atk (v:=bV true) A 17 rfl hP (M.sub (cC (cC (List.Sublist.refl _)))) (λ_ M=>zn rfl rfl rfl rfl) λa A=>?_
   refine atk (v:=bV true) A 18 rfl hP (M.sub (cC (cC (List.Sublist.refl _)))) (λ_ M=>zn rfl rfl rfl rfl) λa A=>?_;refine atk (v:=bV true) A 19 rfl hP (M.sub (cC (cC (List.Sublist.refl _)))) (λ_ M=>zn rfl rfl rfl rfl) λa A=>?_;refine atk A 20 rfl hP (M.sub (cC (cC (List.Sublist.refl _)))) (λ_ M=>ze rfl) λa A=>?_;refine zx (by kernel_rfl) ?_;refine hK9 _ _ (wr1 hret A ?_);exact⟨rfl,M.bel⟩
 ·refine zj (by kernel_rfl) (ji A 3 rfl rfl rfl rfl (ef rfl rfl) ((hb13▸sound_any (t:=t) (Dt.keep M.bel _ ht) (hN.below M.bel).tb)) ?_);rintro _ w24 ⟨rfl,hb23⟩;replace M:=M.call hb23;refine⟨_,rfl,(M.sub (cC (cC (List.Sublist.refl _)))),?_⟩;intro a A;refine zj (by kernel_rfl) (ji A 5 rfl rfl rfl rfl (ef rfl rfl) ((hb13▸uu (t:=t) (Dt.keep M.bel _ ht) hsz)) ?_);rintro _ w26 ⟨rfl,hb25⟩;replace M:=M.call hb25;refine⟨_,rfl,(M.sub (cC (cC (List.Sublist.refl _)))),?_⟩;intro a A;refine atk (v:=bV true) A 6 rfl hP (M.sub (cC (cC (List.Sublist.refl _)))) (λ_ M=>qe rfl rfl (qoe Tryz.underlying4)) λa A=>?_;refine atk (v:=bV true) A 7 rfl hP (M.sub (cC (cC (List.Sublist.refl _)))) (λ_ M=>zn rfl rfl rfl rfl) λa A=>?_;refine atk A 8 rfl hP (M.sub (cC (cC (List.Sublist.refl _)))) (λ_ M=>qs rfl) λa A=>?_;refine atk A 9 rfl hP (M.sub (cC (cC (List.Sublist.refl _)))) (λ_ M=>qs rfl) λa A=>?_;rcases tf ((e1 != 0))with hb27 | hb27
  ·have hb27':=bne_iff_ne.1 hb27;refine atk (v:=bV true) A 10 rfl hP (M.sub (cC (cC (List.Sublist.refl _)))) (λ_ M=>qe rfl rfl (fun w=>(zt w).trans (by rw[hb27]))) λa A=>?_;refine atk A 11 rfl hP (M.sub (cC (cC (List.Sublist.refl _)))) (λ_ M=>qs rfl) λa A=>?_;refine ka A 12 rfl rfl rfl rfl hP (M.sub (cC (cC (List.Sublist.refl _)))) λa A=>?_;refine ka A 13 rfl rfl rfl rfl hP (M.sub (cC (cC (List.Sublist.refl _)))) λa A=>?_;refine ka A 14 rfl rfl rfl rfl hP (M.sub (cC (cC (List.Sublist.refl _)))) λa A=>?_;refine qoa A 15 rfl rfl rfl rfl hP (M.sub (cC (cC (List.Sublist.refl _)))) λa A=>?_;refine qoa A 16 rfl rfl rfl rfl hP (M.sub (cC (cC (List.Sublist.refl _)))) λa A=>?_;refine ka A 17 rfl rfl rfl rfl hP (M.sub (cC (cC (List.Sublist.refl _)))) λa A=>?_;refine atk (v:=bV true) A 18 rfl hP (M.sub (cC (cC (List.Sublist.refl _)))) (λ_ M=>zn rfl rfl rfl rfl) λa A=>?_;refine atk (v:=bV true) A 19 rfl hP (M.sub (cC (cC (List.Sublist.refl _)))) (λ_ M=>zn rfl rfl rfl rfl) λa A=>?_;refine atk A 20 rfl hP (M.sub (cC (cC (List.Sublist.refl _)))) (λ_ M=>ze rfl) λa A=>?_;refine zx (by kernel_rfl) ?_;refine hK9 _ _ (wr1 hret A ?_);exact⟨rfl,M.bel⟩
  ·have hb27':=bne_eq_false_iff_eq.1 hb27;refine atk (v:=bV false) A 10 rfl hP (M.sub (cC (cC (List.Sublist.refl _)))) (λ_ M=>qe rfl rfl (fun w=>(zt w).trans (by rw[hb27]))) λa A=>?_;refine atk A 11 rfl hP (M.sub (cC (cC (List.Sublist.refl _)))) (λ_ M=>qs rfl) λa A=>?_;refine atk A 12 rfl hP (M.sub (cC (cC (List.Sublist.refl _)))) (λ_ M=>jg M xi rfl 0 rfl (cs:=[iV t1.d.k,iV t1.d.n,bV t1.d.y.q.b1,.slice t1.d.y.o1 t1.d.y.q.t1.length t1.d.y.c1,.slice t1.d.y.o2 t1.d.y.q.q1.length t1.d.y.c2,bV t1.d.y.q.b2,.slice t1.d.y.o3 t1.d.y.q.t2.length t1.d.y.c3,.slice t1.d.y.o4 t1.d.y.q.q2.length t1.d.y.c4,.string t1.d.s,.slice t1.d.ro t1.d.rl.length t1.d.rc,.slice t1.d.lo t1.ts.length t1.d.lc]) rfl rfl) λa A=>?_;refine zj (by kernel_rfl) (ji A 13 rfl rfl rfl rfl (ef rfl rfl) ((hsd (by simpa using hb27)▸sound_any (t:=t1) (hL1 _ (M.sub (cN (cN (.refl _))))) (hN.below M.bel).tb)) ?_);rintro _ w29 ⟨rfl,hb28⟩;replace M:=M.call hb28;refine⟨_,rfl,(M.sub (cC (cC (List.Sublist.refl _)))),?_⟩;intro a A;refine atk A 14 rfl hP (M.sub (cC (cC (List.Sublist.refl _)))) (λ_ M=>qs rfl) λa A=>?_;refine atk A 15 rfl hP (M.sub (cC (cC (List.Sublist.refl _)))) (λ_ M=>jg M xi rfl 0 rfl (cs:=[iV t1.d.k,iV t1.d.n,bV t1.d.y.q.b1,.slice t1.d.y.o1 t1.d.y.q.t1.length t1.d.y.c1,.slice t1.d.y.o2 t1.d.y.q.q1.length t1.d.y.c2,bV t1.d.y.q.b2,.slice t1.d.y.o3 t1.d.y.q.t2.length t1.d.y.c3,.slice t1.d.y.o4 t1.d.y.q.q2.length t1.d.y.c4,.string t1.d.s,.slice t1.d.ro t1.d.rl.length t1.d.rc,.slice t1.d.lo t1.ts.length t1.d.lc]) rfl rfl) λa A=>?_;refine zj (by kernel_rfl) (ji A 16 rfl rfl rfl rfl (ef rfl rfl) ((hsd (by simpa using hb27)▸uu (t:=t1) (hL1 _ (M.sub (cN (cN (.refl _))))) (hsm (by simpa using hb27)))) ?_);rintro _ w31 ⟨rfl,hb30⟩;replace M:=M.call hb30;refine⟨_,rfl,(M.sub (cC (cC (List.Sublist.refl _)))),?_⟩;intro a A;refine atk (v:=bV true) A 17 rfl hP (M.sub (cC (cC (List.Sublist.refl _)))) (λ_ M=>zn rfl rfl rfl rfl) λa A=>?_
   refine atk (v:=bV true) A 18 rfl hP (M.sub (cC (cC (List.Sublist.refl _)))) (λ_ M=>zn rfl rfl rfl rfl) λa A=>?_;refine atk (v:=bV true) A 19 rfl hP (M.sub (cC (cC (List.Sublist.refl _)))) (λ_ M=>zn rfl rfl rfl rfl) λa A=>?_;refine atk A 20 rfl hP (M.sub (cC (cC (List.Sublist.refl _)))) (λ_ M=>ze rfl) λa A=>?_;refine zx (by kernel_rfl) ?_;refine hK9 _ _ (wr1 hret A ?_);exact⟨rfl,M.bel⟩
end Go.Proofs.YtjhkejihhpnooaaGreatDoor.G
namespace Go.Proofs.YtjhkejihhpnooaaGreatDoor

section
variable {H:Type}
theorem zfe(d:DataW H):0<Rows.uptoBulk d:=by
  unfold Rows.uptoBulk
  split<;>omega
theorem zff: ∀l:List (DataW H),l.length≤Rows.uptoBulkAll l
  | [] => by simp
  | d :: l => by
    have h1:=zfe d;have h2:=zff l;simp only[Rows.uptoBulkAll,List.length_cons];omega
theorem zfg(xs ys:List (DataW H)):xs.length≤Rows.uptoBulk (.slice xs ys):=by
  have:=zff xs;simp only[Rows.uptoBulk];omega
theorem zqc{d:DataW H}:∀{l:List (DataW H)},d∈l→Rows.uptoBulk d≤Rows.uptoBulkAll l
  | c :: l, h => by
    simp only[Rows.uptoBulkAll];rcases List.mem_cons.1 h with rfl | h
    · omega
    · have:=zqc h;omega
theorem zqd{l:List (DataW H)}(hk:Rows.uptoSmall H l=true){j:Nat}{d:DataW H}(hd:l[j]?=some d):Rows.uptoBulk d≤1048576:=
  Nat.le_trans (zqc (List.mem_of_getElem? hd)) (of_decide_eq_true hk)
end
end Go.Proofs.YtjhkejihhpnooaaGreatDoor
namespace Go.Proofs.YtjhkejihhpnooaaGreatDoor.G
open Go.ChangeShapes Go.WideShapes Go.ChangeAt Go.RowKit Go.Joins Go.Deep
set_option maxRecDepth 100000

section
variable {H:Type} {enc:TypeId×Value→H} {W:World}
end
theorem zug{w:World}{x:Addr}{len cap:Nat}{zs:List Int}(hl:len≤cap)(hz:zs.length=cap)
    (hc:∀i,i<zs.length→w.cell? (x.add i)=some (.int .u8 (zs.getD i 0))) (hw:∀n∈zs,(Lit.int .u8 n).wf=true) :
    ∃l:List UInt8,l.length=len∧Rb w (some x) l:=by
  have hbd:∀n∈zs,0≤n∧n<256:=by
    intro n hn;have:=bounds_u8 (hw n hn);omega
  refine⟨(zs.take len).map b8,by rw[List.length_map,List.length_take]; omega,⟨fun hne=>?_⟩⟩;have hlen:((zs.take len).map b8).length=len:=by rw[List.length_map,List.length_take]; omega
  have h0:0<len:=by
    apply Classical.byContradiction;intro h;have:len=0:=(by omega);subst this;simp at hne
  obtain⟨b,off,spot⟩:=x;have hspot:spot=none:=by
    have:=hc 0 (by omega);simp only[World.cell?,Addr.add]at this
    split at this
    · cases spot with
      | none => rfl
      | some s => simp at this
    · cases this
  subst hspot;have hcj:∀j,j<len→w.cell? ⟨b,off+j,none⟩=some (.int .u8 (((((zs.take len).map b8).getD j 0).toNat:Nat):Int)):=by
    intro j hj;have h1:=hc j (by omega);rw[Addr.add_lit]at h1;rw[h1];have hjz:j<zs.length:=(by omega);have h2:=hbd zs[j] (List.getElem_mem hjz);have e1:zs.getD j 0=zs[j]:=(by simp[hjz]);have e2:((zs.take len).map b8).getD j 0=b8 zs[j]:=(by simp[List.getD_eq_getElem?_getD,hj,hjz]);rw[e1,e2,uh h2.1 h2.2]
  refine⟨b,off,rfl,?_,fun j hj=>hcj j (by omega)⟩;have:=hcj 0 h0;apply Classical.byContradiction;intro h;simp[World.cell?,Array.getElem?_eq_none (Nat.le_of_not_lt h)]at this
section
variable {H:Type} {enc:TypeId×Value→H} {W:World}
end
theorem Rb.take{w:World}{so:Option Addr}{l:List UInt8}(h:Rb w so l)(n:Nat):Rb w so (l.take n):=by
  refine⟨fun hne=>?_⟩;obtain⟨b,off,h1,h2,h3⟩:=h.pos (fun k=>hne (by rw[k]; simp));refine⟨b,off,h1,h2,fun j hj=>?_⟩;rw[List.length_take]at hj;rw[h3 j (by omega),List.getD_eq_getElem?_getD,List.getD_eq_getElem?_getD,List.getElem?_take_of_lt (by omega)]
section
variable {P:Program} {w:World} {l:List (Nat×Value)} {dst:Option Tmp} {ty:TypeId} {pos:String} {after:Array Edge} {guard:Option (Nat×Bool)}
end
def Nu.cells(y:Nu):List Value:=[.bool y.q.b1,.slice y.o1 y.q.t1.length y.c1,.slice y.o2 y.q.q1.length y.c2,.bool y.q.b2,.slice y.o3 y.q.t2.length y.c3,.slice y.o4 y.q.q2.length y.c4]
theorem jdi{w:World}{b o:Nat}{v:Value}(h:w.cell? ⟨b,o,none⟩=some v):b<w.heap.size:=by
  apply Classical.byContradiction;intro k;simp[World.cell?,Array.getElem?_eq_none (Nat.le_of_not_lt k)]at h
section
variable {H:Type} {enc:TypeId×Value→H} {W:World}
theorem qse(l:List (DataW H)):Rows.uptoBulk (.agg l)=Rows.uptoBulkAll l+1:=by simp only[Rows.uptoBulk]
theorem zfh{fuel:Nat}{v:Value}{x:DataW H×List MemPlace}(h:DataW.trod enc Tryz.prog W 0 (fun _=>true) true fuel 27 [v]=some x):∃so cap l,v=.slice so (l:List UInt8).length cap∧Rb W so l∧l.length≤cap∧cap≤9223372036854775807∧l.length≤Rows.uptoBulk x.1:=by
  rcases open_ints Tryz.underlying27 Tryz.underlying5 (by kernel_rfl) h with⟨hcs,_⟩ | ⟨x,l,c,zs,hcs,_,hl,hm,hz,hx,hcell,hwz⟩
  · simp only[List.cons.injEq,and_true]at hcs;subst hcs;exact⟨none,0,[],rfl,⟨fun k=>absurd rfl k⟩,Nat.le_refl _,by decide,Nat.zero_le _⟩
  · simp only[List.cons.injEq,and_true]at hcs;subst hcs;obtain⟨us,e,ha⟩:=zug hl (by simpa using hz) hcell hwz;subst e;subst hx;refine⟨_,_,us,rfl,ha,hl,hm,?_⟩;simp only[if_true]at hz;refine Nat.le_trans ?_ (zfg _ _);simp only[lits,List.length_map,List.length_take,List.length_drop];omega
theorem qmh{fuel:Nat}{v:Value}{x:DataW H×List MemPlace}(h:DataW.trod enc Tryz.prog W 0 (fun _=>true) true fuel 22 [v]=some x):∃ao c l,v=.slice ao (l:List Nat).length c∧Arg W ao c l∧l.length≤Rows.uptoBulk x.1:=by
  rcases open_ints Tryz.underlying22 Tryz.underlying99 (by kernel_rfl) h with⟨hcs,_⟩ | ⟨x,l,c,zs,hcs,_,hl,hm,hz,hx,hcell,hwz⟩
  · cases hcs
    exact⟨none,0,[],rfl,arg_nil W,Nat.zero_le _⟩
  · cases hcs
    obtain⟨us,e,ha⟩:=arg_row hl hm (by simpa using hz) hcell hwz;subst e;subst hx;refine⟨_,_,us,rfl,ha,?_⟩;simp only[if_true]at hz;refine Nat.le_trans ?_ (zfg _ _);simp only[lits,List.length_map,List.length_take,List.length_drop];omega
theorem qvg{fuel:Nat}{v0 v1 v2:Value}{x:DataW H×List MemPlace}(h:DataW.trod enc Tryz.prog W 0 (fun _=>true) true fuel 24 [v0,v1,v2]=some x):∃b o1 c1 l1 o2 c2 l2,v0=.bool b∧v1=.slice o1 (l1:List Nat).length c1∧v2=.slice o2 (l2:List Nat).length c2∧Arg W o1 c1 l1∧Arg W o2 c2 l2∧l1.length+l2.length≤Rows.uptoBulk x.1:=by
  obtain⟨y0,y1,y2,n,hx,_,h0,h1,h2⟩:=trod_struct3 Tryz.underlying24 h;have e0:Tryz.prog.cellsOf 4=1:=by kernel_rfl
  have e1:Tryz.prog.cellsOf 22=1:=by kernel_rfl
  simp only[e0,e1,List.drop_zero,List.take_succ_cons,List.take_zero,List.drop_succ_cons]at h0 h1 h2;obtain⟨b,rfl⟩:=trod_bool h0;obtain⟨o1,c1,l1,rfl,a1,k1⟩:=qmh h1;obtain⟨o2,c2,l2,rfl,a2,k2⟩:=qmh h2;refine⟨b,o1,c1,l1,o2,c2,l2,rfl,rfl,rfl,a1,a2,?_⟩;rw[hx,qse];simp only[Rows.uptoBulkAll];omega
theorem zuh{fuel:Nat}{cs:List Value}{x:DataW H×List MemPlace}(hl:cs.length=6)(h:DataW.trod enc Tryz.prog W 0 (fun _=>true) true fuel 26 cs=some x):
    ∃y:Nu,cs=y.cells∧y.nm W∧LenQ y.q∧y.q.t1.length+y.q.q1.length+(y.q.t2.length+y.q.q2.length)≤Rows.uptoBulk x.1:=by
  match cs,hl with
  | [v0, v1, v2, v3, v4, v5], _ =>
    obtain⟨y0,y1,n,hx,_,h0,h1⟩:=trod_struct2 Tryz.underlying26 h;have e:Tryz.prog.cellsOf 24=3:=(by kernel_rfl);simp only[e,List.drop_zero,List.take_succ_cons,List.take_zero,List.drop_succ_cons]at h0 h1;obtain⟨b1,o1,c1,l1,o2,c2,l2,rfl,rfl,rfl,a1,a2,k1⟩:=qvg h0;obtain⟨b2,o3,c3,l3,o4,c4,l4,rfl,rfl,rfl,a3,a4,k2⟩:=qvg h1;refine⟨⟨⟨b1,l1,l2,b2,l3,l4⟩,o1,c1,o2,c2,o3,c3,o4,c4⟩,rfl,⟨⟨a1.rd,a1.nil,a1.caps⟩,⟨a2.rd,a2.nil,a2.caps⟩,⟨a3.rd,a3.nil,a3.caps⟩,⟨a4.rd,a4.nil,a4.caps⟩⟩,⟨a1.len,a2.len,a3.len,a4.len⟩,?_⟩;rw[hx,qse];simp only[Rows.uptoBulkAll];omega
def OpenD(H:Type)(enc:TypeId×Value→H)(W:World)(fuel:Nat):Prop:=∀(cs:List Value) (x:DataW H×List MemPlace),DataW.trod enc Tryz.prog W 0 (fun _=>true) true fuel 30 cs=some x→∃t:Dt,cs=t.cells∧t.rd W∧t.tr.bulk≤Rows.uptoBulk x.1
theorem zmb{fuel:Nat}{v:Value}{x:DataW H×List MemPlace}(ih:∀n,n<fuel→OpenD H enc W n)(h:DataW.trod enc Tryz.prog W 0 (fun _=>true) true fuel 28 [v]=some x):
    ∃lo lc ts,v=.slice lo (ts:List Dt).length lc∧ts.length≤lc∧lc≤9223372036854775807∧Rt W lo ts∧(∀t∈ts,t.rd W)∧Tr.bulks (ts.map Dt.tr)≤Rows.uptoBulk x.1:=by
  rcases DataW.trod_slice Tryz.underlying28 h with⟨hcs,_⟩ | ⟨a,len,cap,elems,rest,n,hf,hcs,hx,_,hl,hm,hlen,hel,_,_⟩
  · simp only[List.cons.injEq,and_true]at hcs;subst hcs;exact⟨none,0,[],rfl,Nat.le_refl _,by decide,fun k=>absurd rfl k,fun _ k=>by simp at k,Nat.zero_le _⟩
  · simp only[List.cons.injEq,and_true]at hcs;subst hcs;rw[show Tryz.prog.cellsOf 30=11 from by kernel_rfl]at hel;have each:∀i,∃t:Dt,i<len→t.rd W∧(∀j v,t.cells[j]?=some v→W.cell? ((a.add (i*11)).add j)=some v)∧∃y,elems[i]?=some y∧t.tr.bulk≤Rows.uptoBulk y.1:=by
      intro i;by_cases hi:i<len
      · have h1:=hel i hi;rw[List.getElem?_eq_getElem (by omega)]at h1;obtain⟨cs,h2,h3⟩:=Option.bind_eq_some_iff.1 h1;obtain⟨_,hlc,hcell⟩:=World.cells?_some h2;obtain⟨t,rfl,hr,hb⟩:=ih n (by omega) cs _ h3;exact⟨t,fun _=>⟨hr,fun j v hj=>by rw[hcell j (by have:=(List.getElem?_eq_some_iff.1 hj).1; rw[hlc]at this; exact this)]; exact hj,_,List.getElem?_eq_getElem (by omega),hb⟩⟩
      · exact⟨.mk ⟨0,0,⟨⟨false,[],[],false,[],[]⟩,none,0,none,0,none,0,none,0⟩,⟨#[]⟩,none,0,[],none,0⟩ [],fun k=>absurd k hi⟩
    obtain⟨F,hF⟩:=Classical.skolem.1 each;have hget:∀(j:Nat) (q:Dt),((List.range len).map F)[j]?=some q→j<len∧q=F j:=by
      intro j q hq;rw[List.getElem?_map]at hq;obtain⟨y,h1,h2⟩:=Option.map_eq_some_iff.1 hq;obtain⟨h3,h4⟩:=List.getElem?_eq_some_iff.1 h1;rw[List.length_range]at h3;rw[List.getElem_range]at h4;subst h4;exact⟨h3,h2.symm⟩
    refine⟨some a,cap,(List.range len).map F,by simp,by simpa using hl,hm,fun hne=>?_,fun t ht=>?_,?_⟩
    · have hn:0<len:=by
        apply Classical.byContradiction;intro k;exact hne (by rw[show len=0 from by omega]; rfl)
      obtain⟨b,off,spot⟩:=a;have h0:=(hF 0 hn).2.1 0 _ rfl;have hspot:spot=none:=(by simpa[Addr.add]using World.cell?_spot h0);subst hspot;refine⟨b,off,rfl,fun i t hi=>?_⟩;obtain⟨hlt,rfl⟩:=hget i t hi;have hat:∀j v,(F i).cells[j]?=some v→W.cell? ⟨b,off+i*11+j,none⟩=some v:=fun j v hj=>by
        have:=(hF i hlt).2.1 j v hj
        rwa [Addr.add_lit,Addr.add_lit]at this
      exact⟨jdi (hat 0 _ rfl),hat⟩
    · obtain⟨j,hj⟩:=List.mem_iff_getElem?.1 ht;obtain⟨h1,rfl⟩:=hget j t hj;exact(hF j h1).1
    · rw[hx];have key:∀m,m≤len→Tr.bulks (((List.range m).map F).map Dt.tr)≤Rows.uptoBulkAll ((elems.map (·.1)).take m):=by
        intro m
        induction m with
        | zero => intro _; simp [Tr.bulks]
        | succ m ih2 =>
          intro hm2;have hs:∀(l:List Tr) (t:Tr),Tr.bulks (l++[t])=Tr.bulks l+t.bulk:=by
            intro l t
            induction l with
            | nil => simp [Tr.bulks]
            | cons u l ih3 => simp only [List.cons_append, Tr.bulks, ih3]; omega
          have hu:∀(l:List (DataW H)) (d:DataW H),Rows.uptoBulkAll (l++[d])=Rows.uptoBulkAll l+Rows.uptoBulk d:=by
            intro l d
            induction l with
            | nil => simp [Rows.uptoBulkAll]
            | cons u l ih3 => simp only [List.cons_append, Rows.uptoBulkAll, ih3]; omega
          obtain⟨_,_,y,hy,hb⟩:=hF m (by omega);have:=ih2 (by omega);rw[List.range_succ,List.map_append,List.map_append,List.take_add_one,List.getElem?_map,hy];simp only[List.map_cons,List.map_nil,Option.map_some,Option.toList_some];rw[hs,hu];omega
      have h1:=key len (Nat.le_refl _);rw[List.take_of_length_le (by rw[List.length_map]; omega)]at h1;simp only[Rows.uptoBulk];omega
theorem jjd: ∀fuel,OpenD H enc W fuel:=by
  intro fuel
  induction fuel using Nat.strongRecOn with
  | ind fuel ih =>
    intro cs x h;obtain⟨xs,n,hfu,hx,hl,hxl,hf⟩:=DataW.trod_struct Tryz.underlying30 h;rw[show Tryz.prog.cellsOf 30=11 from by kernel_rfl]at hl
    match cs,hl with
    | [v0, v1, v2, v3, v4, v5, v6, v7, v8, v9, v10], _ =>
      match xs,hxl with
      | [x0, x1, x2, x3, x4, x5], _ =>
        have g0:=hf 0 _ rfl;have g1:=hf 1 _ rfl;have g2:=hf 2 _ rfl;have g3:=hf 3 _ rfl;have g4:=hf 4 _ rfl;have g5:=hf 5 _ rfl;have c1:Tryz.prog.cellsOf 3=1:=(by kernel_rfl);have c2:Tryz.prog.cellsOf 26=6:=(by kernel_rfl);have c3:Tryz.prog.cellsOf 9=1:=(by kernel_rfl);have c4:Tryz.prog.cellsOf 27=1:=(by kernel_rfl);have c5:Tryz.prog.cellsOf 28=1:=(by kernel_rfl);simp only[c1,c2,c3,c4,c5,List.drop_zero,List.take_succ_cons,List.take_zero,List.drop_succ_cons,List.getElem?_cons_zero,List.getElem?_cons_succ]at g0 g1 g2 g3 g4 g5;obtain⟨k,e0,_,w0⟩:=DataW.trod_int Tryz.underlying3 g0;obtain⟨m,e1,_,w1⟩:=DataW.trod_int Tryz.underlying3 g1;obtain⟨y,e2,hy,hq,b2⟩:=zuh rfl g2;obtain⟨s,e3,hs,hsm⟩:=DataW.trod_string Tryz.underlying9 g3;obtain⟨ro,rc,rl,e4,hr,hrc,hrm,b4⟩:=zfh g4;obtain⟨lo,lc,ts,e5,hlc,hlm,hrt,hrd,b5⟩:=zmb (fun n' hn'=>ih n' (by omega)) g5;have bk:=bounds_i64 w0;have bm:=bounds_i64 w1;refine⟨.mk ⟨k,m,y,s,ro,rc,rl,lo,lc⟩ ts,?_,?_,?_⟩
        · injection e0 with f0;injection e1 with f1;injection e3 with f3;injection e2 with e20 g;injection g with e21 g;injection g with e22 g;injection g with e23 g;injection g with e24 g;injection g with e25 g;subst f0 f1 f3 e4 e5 e20 e21 e22 e23 e24 e25;rfl
        · rw[Dt.rd_iff];exact⟨⟨hy,hq,hr,hrc,hrm,bk.1,bk.2,bm.1,bm.2,hsm⟩,hlc,hlm,hrt,hrd⟩
        · rw[Dt.tr_mk,qua,hx,qse];have h3:Rows.uptoBulk x3.1=s.size+1:=by
            rw[hs];rw[show Rows.uptoBulk (DataW.lit (H:=H) (.string s.data.toList))=s.data.toList.length+1 from by simp only[Rows.uptoBulk],Array.length_toList];rfl
          simp only[List.map_cons,List.map_nil,Rows.uptoBulkAll];have:=zfe x0.1;omega
theorem zmc{base:Nat}{v:Value}{d:DataW H}{p:List MemPlace}(hv:Value.okWide Tryz.prog W .any base 30 v)(h:DataW.Trod enc Tryz.prog W 0 (fun _=>true) true 30 v d p):
    ∃t:Dt,v=.agg t.cells.toArray∧t.rd W∧t.tr.bulk≤Rows.uptoBulk d:=by
  obtain⟨cs,rfl,hsz⟩:=okWide_struct Tryz.underlying30 hv;obtain⟨fuel,hf⟩:=h;obtain⟨t,e,hr,hb⟩:=jjd fuel _ _ hf;refine⟨t,?_,hr,hb⟩;rw[←e];rfl
end
open Go.RowKit
theorem qgc{W:World}{n nm:String}{d:DataW Unit}{g t:Nat}{ms:Array (String×TypeId)}(hg:Tryz.prog.globalNamed n=some g)(ht:(Tryz.prog.globals[g]?).map (·.type)=some t)(hi:Tryz.prog.underlying t=some (.interface ms))(h:Lib.VarReads Tryz.prog W n (.iface nm d)):
  ∃ev:Value,W.cell? ⟨g,0,none⟩=some ev∧(ev=.nilIface∨∃te pe,ev=.iface te pe):=by
 obtain⟨g',t',cs,fuel,p,h1,h2,h3,h4⟩:=h;obtain rfl:g'=g:=Option.some.inj (h1.symm.trans hg);obtain rfl:t'=t:=Option.some.inj (h2.symm.trans ht);obtain⟨_,u,v,hc,_⟩:=iface_of_trod hi h4;refine⟨.iface u v,?_,.inr ⟨u,v,rfl⟩⟩;rw[World.var?_cell h1 h3 0,←Array.getElem?_toList,hc];rfl
theorem jrg{W:World}(h:World.ShapedOpen Tryz.prog W):∃m:Int,W.cell? ⟨Tryz.lays145_ren.g 1,0,none⟩=some (iV m):=by
 obtain⟨ha,_⟩:=h;obtain⟨cs,h1,h2,h3⟩:=ha 2 #[iV 0] 3 (of_decide_eq_true (by kernel_rfl)) (by kernel_rfl);obtain⟨ts,e1,_,e2⟩:=h3 (by kernel_rfl);have ets:ts=[3]:=Option.some.inj (e1.symm.trans (by kernel_rfl));subst ets;have h0:0<cs.size:=by rw[h2]; exact Nat.one_pos
 obtain⟨u,hu,ho⟩:=e2 0 cs[0] (Array.getElem?_eq_getElem h0);obtain rfl:3=u:=Option.some.inj hu;have hc:W.cell? ⟨2,0,none⟩=some cs[0]:=by
  simp only[World.cell?,h1];exact Array.getElem?_eq_getElem h0
 unfold Cell.ok at ho;rw[Tryz.underlying3]at ho;generalize cs[0]=v at hc ho;cases v with
 | int k n =>
  obtain⟨e,_⟩:=ho;cases e
  exact⟨n,hc⟩
 | _ => exact absurd ho id
theorem jnh {W : World} (hT : Tb W) (hR : Lib.VarReads Tryz.prog W "strconv.ErrRange" Rows.laid_strconv_ErrRange) (S : Lib.VarReads Tryz.prog W "strconv.ErrSyntax" Rows.laid_strconv_ErrSyntax) (hO : World.ShapedOpen Tryz.prog W) : Env W :=
 ⟨hT,⟨qgc (by kernel_rfl) (by kernel_rfl) Tryz.underlying85 S,qgc (by kernel_rfl) (by kernel_rfl) Tryz.underlying85 hR⟩,jrg hO⟩
theorem zmd{W:World}{t:Dt}{s:ByteArray}(hE:Env W)(ht:t.rd W)(hb:t.tr.bulk≤1048576)(hs:s.size≤1048576):Calls Tryz.prog 3 #[.agg t.cells.toArray,.string s] W fun e w'=>e=.returned (bV true)∧Below W.heap.size W w':=by
 have h:=zma (t:=t) (L:=s.data.toList) hE ht (zqb (by omega)) (by rw[Array.length_toList]; exact Nat.le_trans hs (by decide));have e:tx s.data.toList=s:=jje s;rw[e]at h;obtain⟨d,ts⟩:=t;exact h
end Go.Proofs.YtjhkejihhpnooaaGreatDoor.G
