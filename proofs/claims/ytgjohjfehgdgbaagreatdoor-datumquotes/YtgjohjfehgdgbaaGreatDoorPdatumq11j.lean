/- Qg Qe Qh TrU Tu TrV TrW TrX Qf EqO Ov RsA ReA ReI ReB ReC -/
import Derived.Test.YtgjohjfehgdgbaaGreatDoorPdatumq11i
import Derived.Test.YtgjohjfehgdgbaaGreatDoorPdatumq11d
import Derived.Test.YtgjohjfehgdgbaaGreatDoorPdatumq11h
import Derived.Test.YtgjohjfehgdgbaaGreatDoorPdatumq11f
import Derived.Test.YtgjohjfehgdgbaaGreatDoorProg
import Derived.Lib.ConvBytes
import Derived.KernelRfl
import Derived.Test.YtgjohjfehgdgbaaGreatDoorRows
import Derived.Handed
import Derived.FnData
import Derived.LaidLaws
import Derived.Lib.LaidU8
set_option linter.unusedVariables false
set_option linter.unusedSimpArgs false
set_option maxHeartbeats 1000000
namespace Go.Proofs.YtgjohjfehgdgbaaGreatDoor.G
open Go.RowKit
set_option maxRecDepth 100000
theorem zkf{n m b0 b1 b2 b3 c1 c2 c3:Nat}(hn:n≤m)(h1:1<n→c1=b1)(h2:2<n→c2=b2)(h3:3<n→c3=b3)(hb:Lib.decodeN n b0 b1 b2 b3≠(65533,1)):Lib.decodeN m b0 c1 c2 c3=Lib.decodeN n b0 b1 b2 b3:=by
 unfold Lib.decodeN at hb ⊢;by_cases k0:b0<128
 ·rw[if_pos k0,if_pos k0]
 rw[if_neg k0]at hb ⊢;rw[if_neg k0];by_cases k1:b0 / 32=6∧(1<n∧b1 / 64=2)
 ·obtain rfl:=h1 k1.2.1;rw[if_pos k1,if_pos ⟨k1.1,by omega,k1.2.2⟩]
 rw[if_neg k1]at hb ⊢;by_cases k2:b0 / 16=14∧(1<n∧b1 / 64=2)∧(2<n∧b2 / 64=2)
 ·obtain rfl:=h1 k2.2.1.1;obtain rfl:=h2 k2.2.2.1;rw[if_pos k2,if_neg (by omega),if_pos ⟨k2.1,⟨by omega,k2.2.1.2⟩,by omega,k2.2.2.2⟩]
 rw[if_neg k2]at hb ⊢;by_cases k3:b0 / 8=30∧(1<n∧b1 / 64=2)∧(2<n∧b2 / 64=2)∧(3<n∧b3 / 64=2)
 ·obtain rfl:=h1 k3.2.1.1;obtain rfl:=h2 k3.2.2.1.1;obtain rfl:=h3 k3.2.2.2.1;rw[if_pos k3,if_neg (by omega),if_neg (by omega),if_pos ⟨k3.1,⟨by omega,k3.2.1.2⟩,⟨by omega,k3.2.2.1.2⟩,by omega,k3.2.2.2.2⟩]
 rw[if_neg k3]at hb;exact absurd rfl hb
theorem qne{q z:List UInt8}{i:Nat}(h:i<q.length):((q++z).getD i 0).toNat=(q.getD i 0).toNat:=by
 rw[List.getD_eq_getElem?_getD,List.getD_eq_getElem?_getD,List.getElem?_append_left h]
theorem kl{q:List UInt8}(hv:Lib.validD q=true)(hn:q≠[])(z:List UInt8):dcX (q++z)=dcX q∧Lib.validD (q.drop (dcX q).2)=true:=by
 have hl:=List.length_pos_iff.2 hn;have hs:=Lib.validD_step q hn;rw[hv]at hs;rw[yi hn,yi (by simp[hn])];by_cases k:(Lib.decodeL q).1=65533∧(Lib.decodeL q).2=1
 ·rw[if_pos k]at hs; cases hs
 rw[if_neg k]at hs;refine⟨?_,hs.symm⟩;rw[Lib.decodeL_N,Lib.decodeL_N,qne hl];rw[Lib.decodeL_N]at k;exact zkf (by rw[List.length_append]; omega) (fun h=>qne h) (fun h=>qne h) (fun h=>qne h) (fun h=>k (by rw[h]; exact⟨rfl,rfl⟩))
theorem jif{l:List UInt8}(h:(dcX l).1<128):∃b t,l=b::t∧b.toNat<128:=by
 cases l with
 | nil => rw [jng] at h; simp at h
 | cons b t =>
  refine⟨b,t,rfl,?_⟩;rw[yi (by simp),Lib.decodeL_N]at h;rw[show((b::t).getD 0 0).toNat=b.toNat from rfl]at h;revert h;generalize ((b::t).getD 1 0).toNat=b1;generalize ((b::t).getD 2 0).toNat=b2;generalize ((b::t).getD 3 0).toNat=b3;unfold Lib.decodeN;intro h;by_cases k:b.toNat<128
  ·exact k
  ·exfalso;rw[if_neg k]at h;revert h;repeat' split
   all_goals (intro h; simp only at h; omega)
theorem qzf{q:List UInt8}{n:Nat}(hn:1≤n)(h:n<(Lib.decodeL q).2):128≤(q.getD n 0).toNat:=by
 rw[Lib.decodeL_N]at h;have e:n=1∨n=2∨n=3:=by
  revert h;unfold Lib.decodeN;repeat' split
  all_goals (intro h; simp only at h; omega)
 rcases e with rfl | rfl | rfl;all_goals
  revert h;generalize (q.getD 0 0).toNat=b0;generalize (q.getD 1 0).toNat=b1;generalize (q.getD 2 0).toNat=b2;generalize (q.getD 3 0).toNat=b3;unfold Lib.decodeN;repeat' split
  all_goals (intro h; simp only at h; omega)
theorem jti: ∀(m:Nat) (q:List UInt8) (n:Nat) (b:UInt8),q.length≤m→Lib.validD q=true→q[n]?=some b→b.toNat<128→Lib.validD (q.drop n)=true
 | 0, q, n, b, hm, _, hb, _ => by
  obtain rfl:=List.eq_nil_of_length_eq_zero (Nat.le_zero.1 hm);cases hb
 | m + 1, q, n, b, hm, hv, hb, h8 => by
  have hn:q≠[]:=fun k=>by rw[k]at hb; cases hb
  obtain⟨e,h2⟩:=kl hv hn [];have hw:=jg hn;by_cases k:(dcX q).2≤n
  ·have h3:=jti m (q.drop (dcX q).2) (n-(dcX q).2) b (by rw[List.length_drop]; omega) h2 (by rw[List.getElem?_drop,show(dcX q).2+(n-(dcX q).2)=n by omega]; exact hb) h8;rw[List.drop_drop,show(dcX q).2+(n-(dcX q).2)=n by omega]at h3;exact h3
  ·cases n with
   | zero => exact hv
   | succ n =>
    have h4:=qzf (q:=q) (n:=n+1) (by omega) (by rw[yi hn]at k; omega);rw[List.getD_eq_getElem?_getD,hb]at h4;exact absurd h8 (Nat.not_lt.2 h4)
theorem jqj{q:List UInt8}{n:Nat}{b:UInt8}(hv:Lib.validD q=true)(hb:q[n]?=some b)(h8:b.toNat<128):Lib.validD (q.drop (n+1))=true:=by
 have h:=jti q.length q n b (Nat.le_refl _) hv hb h8;obtain⟨hl,e⟩:=List.getElem?_eq_some_iff.1 hb;rw[List.drop_eq_getElem_cons hl,e,Lib.validD_cons _ _ h8]at h;exact h
theorem qhb{q z p:List UInt8}(h:Lib.hasPrefix (q++z) p=true)(hl:p.length≤q.length)(y:List UInt8):Lib.hasPrefix (q++y) p=true:=by
 have h1:=List.isPrefixOf_iff_prefix.1 h;have h2:p <+: q:=List.prefix_of_prefix_length_le h1 (List.prefix_append q z) hl;exact List.isPrefixOf_iff_prefix.2 (h2.trans (List.prefix_append q y))
theorem qlc{q z p:List UInt8}{x:List UInt8}(h:¬Lib.hasPrefix (q++z) p=true)(hp:(32:UInt8)∉p):¬Lib.hasPrefix (q++32::x) p=true:=fun k=>by
 have h1:=List.isPrefixOf_iff_prefix.1 k;by_cases hl:p.length≤q.length
 ·exact h (qhb k hl z)
 ·obtain⟨r,rfl⟩:=List.prefix_of_prefix_length_le (List.prefix_append q (32::x)) h1 (by omega);rw[List.prefix_append_right_inj]at h1;cases r with
  | nil => simp at hl
  | cons a r =>
   obtain⟨s,hs⟩:=h1;injection hs with e _;exact hp (by rw[e]; simp)
theorem yk: ∀{p q z:List UInt8},Lib.validD q=true→Lib.hasPrefix (q++z) p=true→p.length≤q.length→(p.all fun b=>decide (b.toNat<128))=true→Lib.validD (q.drop p.length)=true
 | [], q, z, h, _, _, _ => h
 | a :: p, [], z, h, _, hl, _ => absurd hl (by simp)
 | a :: p, b :: q, z, h, hp, hl, ha => by
  rw[List.all_cons,Bool.and_eq_true]at ha;have h8:=of_decide_eq_true ha.1;obtain⟨e,hp2⟩:=Bool.and_eq_true_iff.1 (show(a==b&&Lib.hasPrefix (q++z) p)=true from hp);obtain rfl:=eq_of_beq e;replace h:Lib.validD q=true:=by rwa [Lib.validD_cons _ _ h8]at h
  exact yk (p:=p) (q:=q) (z:=z) h hp2 (by simpa using hl) ha.2
theorem ja{q z:List UInt8}{k:Nat}(h:k≤q.length):(q++z).drop k=q.drop k++z:=List.drop_append_of_le_length h
-- tokens
theorem jig: ∀{q z:List UInt8} (x:List UInt8),Lib.validD q=true→hxN (q++z)≤q.length→hxN (q++32::x)=hxN (q++z)∧Lib.validD (q.drop (hxN (q++z)))=true
 | [], z, x, hv, h => by
  have e:hxN ([]++z)=0:=Nat.le_zero.1 h;rw[e];exact⟨rfl,rfl⟩
 | b :: t, z, x, hv, h => by
  show hxN (b::(t++32::x))=hxN (b::(t++z))∧Lib.validD ((b::t).drop (hxN (b::(t++z))))=true;replace h:hxN (b::(t++z))≤t.length+1:=h;rw[hxN]at h ⊢;rw[hxN];by_cases k:qai b=true
  ·rw[if_pos k]at h ⊢;rw[if_pos k];have h8:b.toNat<128:=by
    unfold qai at k;simp only[Bool.or_eq_true,Bool.and_eq_true,decide_eq_true_eq]at k;omega
   obtain⟨h1,h2⟩:=jig (q:=t) (z:=z) x (by rwa [Lib.validD_cons _ _ h8]at hv) (by omega);exact⟨by rw[h1],h2⟩
  ·rw[if_neg k,if_neg k];exact⟨rfl,hv⟩
theorem jih{q z:List UInt8}(x:List UInt8)(hv:Lib.validD q=true)(hn:q≠[])(h:ve (q++z)≤q.length):ve (q++32::x)=ve (q++z)∧Lib.validD (q.drop (ve (q++z)))=true:=by
 obtain⟨e1,hv1⟩:=kl hv hn z;obtain⟨e2,_⟩:=kl hv hn (32::x);have hw:=jg hn;unfold ve at h ⊢;rw[e1]at h ⊢;rw[e2];generalize (dcX q).2=k at *
 rw[ja hw.2]at h ⊢;rw[ja hw.2];obtain⟨h1,hv2⟩:=jig (q:=q.drop k) (z:=z) x hv1 (by rw[List.length_drop]; omega);rw[h1];generalize hxN (q.drop k++z)=m at *
 have hkm:k+m≤q.length:=by omega
 rw[List.drop_drop]at hv2;rw[ja hkm]at h ⊢;rw[ja hkm];by_cases c:Lib.hasPrefix (q.drop (k+m)++z) [59]=true
 ·rw[c]at h ⊢;by_cases c0:0<m
  ·rw[decide_eq_true c0]at h ⊢;rw[if_pos (show(true&&true)=true from rfl)]at h ⊢;have hl:[(59:UInt8)].length≤(q.drop (k+m)).length:=(by rw[List.length_drop]; simp; omega);rw[qhb c hl,if_pos (show(true&&true)=true from rfl)];refine⟨rfl,?_⟩;have:=yk hv2 c hl (by decide)
   rwa [List.drop_drop]at this
  ·rw[decide_eq_false c0];exact⟨rfl,hv2⟩
 ·rw[Bool.eq_false_iff.2 c,Bool.eq_false_iff.2 (qlc c (by decide))];rw[Bool.and_false,if_neg (by decide)];exact⟨rfl,hv2⟩
theorem zkg(x:List UInt8):C.delimB (((dcX (32::x)).1:Nat):Int)=true:=by rw[ya (by decide)]; decide
theorem zzi{q:List UInt8}{m:Nat}{b:UInt8}(h:(q.drop m).getLast?=some b):q.getLast?=some b:=by
 have hne:q.drop m≠[]:=fun k=>by rw[k]at h; cases h
 have e:q=q.take m++q.drop m:=(List.take_append_drop m q).symm;rw[e,List.getLast?_append,h];rfl
theorem zec: ∀(f g n:Nat) (q z x:List UInt8),Lib.validD q=true→kh f (q++z)=n→n≤q.length→(q++z).length<f→(q++32::x).length<g→(kh g (q++32::x)=n∧Lib.validD (q.drop n)=true)∨(z=[]∧n=q.length∧q.getLast?=some 92)
 | 0, g, n, q, z, x, _, _, _, h, _ => by omega
 | f + 1, 0, n, q, z, x, _, _, _, _, h => by omega
 | f + 1, g + 1, n, q, z, x, hv, ht, hn, hf, hg => by
  by_cases hq:q=[]
  ·subst hq;obtain rfl:n=0:=Nat.le_zero.1 hn;exact .inl ⟨qdf (zkg x),rfl⟩
  have hw:=jg hq;obtain⟨e1,hv1⟩:=kl hv hq z;obtain⟨e2,_⟩:=kl hv hq (32::x);have hne1:q++z≠[]:=by simp[hq]
  have hne2:q++32::x≠[]:=by simp
  rw[List.length_append]at hf hg;cases hd:C.delimB (((dcX q).1:Nat):Int)with
  | true =>
   rw[qdf (by rw[e1]; exact hd)]at ht;subst ht;exact .inl ⟨qdf (by rw[e2]; exact hd),hv⟩
  | false =>
   have go:∀m,1≤m→m≤q.length→Lib.validD (q.drop m)=true→kh (f+1) (q++z)=m+kh f ((q++z).drop m)→kh (g+1) (q++32::x)=m+kh g ((q++32::x).drop m)→(kh (g+1) (q++32::x)=n∧Lib.validD (q.drop n)=true)∨(z=[]∧n=q.length∧q.getLast?=some 92):=fun m m1 m2 mv t1 t2=>by
    rw[ja m2]at t1 t2;have hm:m≤n:=(by omega);rcases zec f g (n-m) (q.drop m) z x mv (by omega) (by rw[List.length_drop]; omega) (by rw[List.length_append,List.length_drop]; omega) (by rw[List.length_append,List.length_drop]; omega)with⟨h1,h2⟩ | ⟨h1,h2,h3⟩
    ·rw[List.drop_drop,show m+(n-m)=n by omega]at h2;exact .inl ⟨by omega,h2⟩
    ·rw[List.length_drop]at h2;exact .inr ⟨h1,by omega,zzi h3⟩
   by_cases c:(((dcX q).1:Nat):Int)=92
   ·obtain⟨b,t,rfl,hb⟩:=jif (l:=q) (by omega);have e3:=ya (s:=t) hb;rw[e3]at c e1 e2 hd hv1;replace hv1:Lib.validD t=true:=hv1;have eb:b=92:=by
     apply UInt8.toNat.inj;have:((b.toNat:Nat):Int)=92:=c;show b.toNat=92;omega
    subst eb;have t1:=qgh (f:=f) hne1 (by rw[e1]; exact hd) (m:=1+ve (t++z)) (by rw[e1]; exact if_pos rfl);have t2:=qgh (f:=g) hne2 (by rw[e2]; exact hd) (m:=1+ve (t++32::x)) (by rw[e2]; exact if_pos rfl);by_cases ht0:t=[]
    ·subst ht0;have hz:ve z=0:=by
      rw[ht]at t1;have hn':n≤1:=hn;have:ve ([]++z)=ve z:=rfl;omega
     have hz0:z=[]:=by
      by_cases k:z=[]
      ·exact k
      ·have:=(jg k).1;unfold ve at hz;omega
     subst hz0;rw[ht]at t1;refine .inr ⟨rfl,?_,rfl⟩;have hn':n≤1:=hn;show n=1;omega
    ·have hle:ve (t++z)≤t.length:=by
      have hn':n≤t.length+1:=hn;omega
     obtain⟨k1,k2⟩:=jih x hv1 ht0 hle;rw[k1]at t2;exact go _ (by omega) (by simp; omega) (by rw[Nat.add_comm]; exact k2) t1 t2
   ·exact go _ hw.1 hw.2 hv1 (qgh hne1 (by rw[e1]; exact hd) (by rw[e1]; exact if_neg c)) (qgh hne2 (by rw[e2]; exact hd) (by rw[e2]; exact if_neg c))

-- what stands behind the last
theorem jii{q y:List UInt8}{j:Nat}{b:UInt8}(h:q[j]?=some b):Lib.occAt (q++y) [59] j=(59==b):=by
 obtain⟨hl,e⟩:=List.getElem?_eq_some_iff.1 h;unfold Lib.occAt;rw[ja (Nat.le_of_lt hl),List.drop_eq_getElem_cons hl,e];simp[List.isPrefixOf]
theorem jij{q z:List UInt8}{n:Nat}(h:smI (q++z)=some n)(hn:n<q.length)(y:List UInt8):smI (q++y)=some n∧q[n]?=some 59:=by
 unfold smI at h;by_cases h0:0≤Lib.index (q++z) [59]
 ·rw[if_pos h0]at h;cases h
  rcases Lib.index_spec (q++z) [59]with⟨h1,_⟩ | ⟨i,h1,h2,h3,h4⟩
  ·omega
  ·rw[h1]at hn ⊢;rw[Int.toNat_natCast]at hn ⊢;have hi:q[i]?=some q[i]:=List.getElem?_eq_getElem hn;rw[jii hi]at h3;have h5:Lib.index (q++y) [59]=i:=Lib.index_first (by rw[List.length_append]; omega) (by rw[jii hi]; exact h3) (fun j hj=>by
    have hj':q[j]?=some q[j]:=List.getElem?_eq_getElem (by omega);have:=h4 j hj;rw[jii hj']at this ⊢;exact this)
   unfold smI;rw[h5,if_pos (by omega),Int.toNat_natCast,hi,←eq_of_beq h3];exact⟨rfl,rfl⟩
 ·rw[if_neg h0]at h;cases h
theorem jxe{q z:List UInt8}{c n:Nat}(hv:Lib.validD q=true)(h:dgX (q++z)=some (c,n))(hn:n≤q.length)(y:List UInt8):dgX (q++y)=some (c,n)∧Lib.validD (q.drop n)=true:=by
 unfold dgX at h;obtain⟨m,h1,h2⟩:=Option.bind_eq_some_iff.1 h;obtain⟨u,h3,h4⟩:=Option.map_eq_some_iff.1 h2;cases h4
 obtain⟨k1,k2⟩:=jij h1 hn y;refine⟨?_,jqj hv k2 (by decide)⟩;unfold dgX;rw[k1,Option.bind_some,List.take_append_of_le_length (by omega),←List.take_append_of_le_length (l₂:=z) (by omega),h3];rfl
def esV(v k:Nat)(o:Option (Nat×Nat)):Option (Nat×Nat):=if((v:Nat):Int)=97 then some (7,k)else if((v:Nat):Int)=98 then some (8,k)else if((v:Nat):Int)=116 then some (9,k)else if((v:Nat):Int)=110 then some (10,k)else if((v:Nat):Int)=118 then some (11,k)else if((v:Nat):Int)=102 then some (12,k)else if((v:Nat):Int)=114 then some (13,k)else if((v:Nat):Int)=120 then o.map (fun r=>(r.1,k+r.2))else if((v:Nat):Int)=34 then some (v,k)else if((v:Nat):Int)=92 then some (v,k)else none
theorem xce{l:List UInt8}(h:l≠[]):esX l=esV (dcX l).1 (dcX l).2 (dgX (l.drop (dcX l).2)):=by
 unfold esX;rw[if_neg (fun k=>h (List.isEmpty_iff.1 k))];rfl
theorem xeb{v k:Nat}{o:Option (Nat×Nat)}{r:Nat×Nat}(h:esV v k o=some r):r.2=k∧(∀o2,esV v k o2=some r)∨v=120∧∃d,o=some d∧r=(d.1,k+d.2):=by
 by_cases c:((v:Nat):Int)=120
 ·have e:v=120:=by omega
  subst e;obtain⟨d,h1,h2⟩:=Option.map_eq_some_iff.1 (show o.map (fun r=>(r.1,k+r.2))=some r from h);exact .inr ⟨rfl,d,h1,h2.symm⟩
 ·have e:∀o2,esV v k o2=esV v k o:=fun o2=>by
   unfold esV;simp only[if_neg c]
  refine .inl ⟨?_,fun o2=>by rw[e,h]⟩;unfold esV at h;revert h;simp only[if_neg c];repeat' split
  all_goals (intro h; first | (cases h; rfl) | (cases h; done))
theorem jxf{q z:List UInt8}{c n:Nat}(hv:Lib.validD q=true)(hq:q≠[])(h:esX (q++z)=some (c,n))(hn:n≤q.length)(y:List UInt8):esX (q++y)=some (c,n)∧Lib.validD (q.drop n)=true:=by
 obtain⟨e1,hv1⟩:=kl hv hq z;obtain⟨e2,_⟩:=kl hv hq y;have hw:=jg hq;rw[xce (by simp[hq]),e1]at h;rw[xce (by simp[hq]),e2];rw[ja hw.2]at h ⊢;rcases xeb h with⟨k1,k2⟩ | ⟨k1,d,k2,k3⟩
 ·exact⟨k2 _,by rw[show n=(dcX q).2 from k1]; exact hv1⟩
 ·cases k3
  obtain⟨j1,j2⟩:=jxe hv1 k2 (by rw[List.length_drop]; omega) y;rw[List.drop_drop]at j2;refine⟨?_,j2⟩;rw[j1,k1];rfl
theorem jja{q z:List UInt8}{c:Int}{n:Nat}(hv:Lib.validD q=true)(h:qfj (q++z)=some (c,n))(hn:n<q.length)(x:List UInt8):qfj (q++32::x)=some (c,n)∧Lib.validD (q.drop n)=true:=by
 have hq:q≠[]:=fun k=>by rw[k]at hn; cases hn
 obtain⟨e1,hv1⟩:=kl hv hq z;obtain⟨e2,_⟩:=kl hv hq (32::x);have hw:=jg hq;unfold qfj at h ⊢;rw[e1]at h;rw[e2];rw[ja hw.2]at h ⊢;by_cases c1:(((dcX q).1:Nat):Int)=92
 ·rw[if_pos c1]at h ⊢;obtain⟨d,h1,h2⟩:=Option.map_eq_some_iff.1 h;cases h2
  have hq2:q.drop (dcX q).2≠[]:=fun k=>by
   have:=List.length_drop (i:=(dcX q).2) (l:=q);rw[k]at this;simp at this;omega
  obtain⟨j1,j2⟩:=jxf hv1 hq2 h1 (by rw[List.length_drop]; omega) (32::x);rw[List.drop_drop]at j2;exact⟨by rw[j1]; rfl,j2⟩
 rw[if_neg c1]at h ⊢;by_cases c2:(((dcX q).1:Nat):Int)=13
 ·rw[if_pos c2]at h ⊢;by_cases c3:Lib.hasPrefix (q.drop (dcX q).2++z) [10]=true
  ·rw[if_pos c3]at h;cases h
   have hl:[(10:UInt8)].length≤(q.drop (dcX q).2).length:=(by rw[List.length_drop]; simp; omega);rw[if_pos (qhb c3 hl _)];have:=yk hv1 c3 hl (by decide);rw[List.drop_drop]at this;exact⟨rfl,this⟩
  rw[if_neg c3]at h;rw[if_neg (qlc c3 (by decide))];by_cases c4:Lib.hasPrefix (q.drop (dcX q).2++z) [194,133]=true
  ·rw[if_pos c4]at h;cases h
   have hl:[(194:UInt8),133].length≤(q.drop (dcX q).2).length:=(by rw[List.length_drop]; simp; omega);rw[if_pos (qhb c4 hl _)];refine⟨rfl,?_⟩;have h5:=qhb c4 hl [];rw[List.append_nil]at h5;obtain⟨r,hr⟩:=List.isPrefixOf_iff_prefix.1 h5;have h6:=(kl hv1 (by rw[←hr]; simp) []).2;have h7:dcX (q.drop (dcX q).2)=(133,2):=by
    rw[←hr,yi (by simp),Lib.decodeL_N];show Lib.decodeN (r.length+2) 194 133 _ _=_;unfold Lib.decodeN;rw[if_neg (by decide),if_pos ⟨by decide,by omega,by decide⟩,if_pos (by decide)]
   rw[h7,List.drop_drop]at h6;exact h6
  ·rw[if_neg c4]at h;rw[if_neg (qlc c4 (by decide))];cases h
   exact⟨rfl,hv1⟩
 rw[if_neg c2]at h ⊢;by_cases c3:(((dcX q).1:Nat):Int)=133
 ·rw[if_pos c3]at h ⊢;cases h; exact⟨rfl,hv1⟩
 rw[if_neg c3]at h ⊢;by_cases c4:(((dcX q).1:Nat):Int)=8232
 ·rw[if_pos c4]at h ⊢;cases h; exact⟨rfl,hv1⟩
 rw[if_neg c4]at h ⊢;cases h; exact⟨rfl,hv1⟩
theorem qvh{f:Nat}{l:List UInt8}{r:List UInt8×Nat}(h:qce f l=some r):1≤r.2:=by
 cases f with
 | zero => rw [qce] at h; cases h
 | succ f =>
  rw[qce]at h;by_cases c1:Lib.hasPrefix l [34]=true
  ·rw[if_pos c1]at h; cases h; exact Nat.le_refl _
  rw[if_neg c1]at h;by_cases c2:l.isEmpty=true
  ·rw[if_pos c2]at h; cases h
  rw[if_neg c2]at h;obtain⟨⟨c,n⟩,h1,h2⟩:=Option.bind_eq_some_iff.1 h;obtain⟨v,h3,rfl⟩:=Option.map_eq_some_iff.1 h2;have:=qvh h3;show 1≤n+v.2;omega
theorem jjb{l:List UInt8}{c:Int}{n:Nat}(hl:l≠[])(h:qfj l=some (c,n)):1≤n:=by
 have hw:=(jg hl).1;unfold qfj at h;by_cases c1:(((dcX l).1:Nat):Int)=92
 ·rw[if_pos c1]at h;obtain⟨d,h1,h2⟩:=Option.map_eq_some_iff.1 h;cases h2; omega
 rw[if_neg c1]at h;by_cases c2:(((dcX l).1:Nat):Int)=13
 ·rw[if_pos c2]at h; cases h; omega
 rw[if_neg c2]at h;by_cases c3:(((dcX l).1:Nat):Int)=133
 ·rw[if_pos c3]at h; cases h; omega
 rw[if_neg c3]at h;by_cases c4:(((dcX l).1:Nat):Int)=8232
 ·rw[if_pos c4]at h; cases h; omega
 rw[if_neg c4]at h;cases h; omega
theorem zvg: ∀(f g:Nat) (q z x:List UInt8) (r:List UInt8) (n:Nat),Lib.validD q=true→qce f (q++z)=some (r,n)→n≤q.length→(q++32::x).length<g→qce g (q++32::x)=some (r,n)∧Lib.validD (q.drop n)=true
 | 0, g, q, z, x, r, n, _, h, _, _ => by rw [qce] at h; cases h
 | f + 1, 0, q, z, x, r, n, _, _, _, h => by omega
 | f + 1, g + 1, q, z, x, r, n, hv, h, hn, hg => by
  have hp:=qvh h;simp only at hp;have hq:q≠[]:=fun k=>by rw[k]at hn; simp at hn; omega
  rw[qce]at h ⊢;by_cases c1:Lib.hasPrefix (q++z) [34]=true
  ·rw[if_pos c1]at h;cases h
   rw[if_pos (qhb c1 hn _)];exact⟨rfl,yk (p:=[34]) hv c1 hn (by decide)⟩
  rw[if_neg c1]at h;rw[if_neg (qlc c1 (by decide))];rw[if_neg (by simp[hq])]at h ⊢;obtain⟨⟨c,k⟩,h1,h2⟩:=Option.bind_eq_some_iff.1 h;obtain⟨⟨v,m⟩,h3,h4⟩:=Option.map_eq_some_iff.1 h2;cases h4
  have h5:=qvh h3;have h6:=jjb (by simp[hq]) h1;simp only at h5 hn h3 h6;obtain⟨j1,j2⟩:=jja hv h1 (by omega) x;rw[ja (by omega)]at h3;rw[List.length_append]at hg;obtain⟨i1,i2⟩:=zvg f g (q.drop k) z x v m j2 h3 (by rw[List.length_drop]; omega) (by rw[List.length_append,List.length_drop]; omega);rw[List.drop_drop]at i2;rw[j1,Option.bind_some];show(qce g ((q++32::x).drop k)).map _=_∧_;rw[ja (by omega),i1];exact⟨rfl,i2⟩
-- blanks and remarks
theorem jjc: ∀(f g n:Nat) (q z x:List UInt8),Lib.validD q=true→C.lnN f (q++z)=n→n<q.length→(q++z).length≤f→(q++32::x).length≤g→C.lnN g (q++32::x)=n∧Lib.validD (q.drop n)=true
 | 0, g, n, q, z, x, _, _, hn, h, _ => by rw [List.length_append] at h; omega
 | f + 1, 0, n, q, z, x, _, _, hn, _, h => by rw [List.length_append] at h; omega
 | f + 1, g + 1, n, q, z, x, hv, h, hn, hf, hg => by
  have hq:q≠[]:=fun k=>by rw[k]at hn; cases hn
  obtain⟨e1,hv1⟩:=kl hv hq z;obtain⟨e2,_⟩:=kl hv hq (32::x);have hw:=jg hq;rw[yi (by simp[hq])]at e1 e2;rw[C.lnN,if_neg (by simp[hq]),e1]at h;rw[C.lnN,if_neg (by simp[hq]),e2];by_cases c:C.ln7 (((dcX q).1:Nat):Int)=true
  ·rw[if_pos c]at h ⊢;subst h;exact⟨rfl,hv⟩
  ·rw[if_neg c]at h ⊢;rw[ja hw.2]at h ⊢;rw[List.length_append]at hf hg;obtain⟨j1,j2⟩:=jjc f g (n-(dcX q).2) (q.drop (dcX q).2) z x hv1 (by omega) (by rw[List.length_drop]; omega) (by rw[List.length_append,List.length_drop]; omega) (by rw[List.length_append,List.length_drop]; omega);rw[List.drop_drop,show(dcX q).2+(n-(dcX q).2)=n by omega]at j2;exact⟨by omega,j2⟩
theorem jra{q z x:List UInt8}{n:Nat}(hv:Lib.validD q=true)(h:lnX (q++z)=n)(hn:n<q.length):lnX (q++32::x)=n∧Lib.validD (q.drop n)=true:=jjc _ _ n q z x hv h hn (Nat.le_refl _) (Nat.le_refl _)
theorem jjd{f k n:Nat}{l:List UInt8}(h:xw f (k+1) l=some n):1≤n:=by
 cases f with
 | zero => rw [xw] at h; cases h
 | succ f =>
  rw[xw]at h;by_cases c1:Lib.hasPrefix l [35,124]=true
  ·rw[if_pos c1]at h; obtain⟨m,_,rfl⟩:=Option.map_eq_some_iff.1 h; omega
  rw[if_neg c1]at h;by_cases c2:Lib.hasPrefix l [124,35]=true
  ·rw[if_pos c2]at h; obtain⟨m,_,rfl⟩:=Option.map_eq_some_iff.1 h; omega
  rw[if_neg c2]at h;by_cases c3:l.isEmpty=true
  ·rw[if_pos c3]at h; cases h
  rw[if_neg c3]at h;obtain⟨m,_,rfl⟩:=Option.map_eq_some_iff.1 h;have:=(jg (l:=l) (fun e=>c3 (by rw[e]; rfl))).1;omega
theorem qnf: ∀(f g k n:Nat) (q z x:List UInt8),Lib.validD q=true→xw f k (q++z)=some n→n≤q.length→(q++32::x).length<g→xw g k (q++32::x)=some n∧Lib.validD (q.drop n)=true
 | f, g, 0, n, q, z, x, hv, h, _, _ => by
  rw[xw]at h;cases h
  rw[xw];exact⟨rfl,hv⟩
 | 0, g, k + 1, n, q, z, x, _, h, _, _ => by rw [xw] at h; cases h
 | f + 1, 0, k + 1, n, q, z, x, _, _, _, h => by omega
 | f + 1, g + 1, k + 1, n, q, z, x, hv, h, hn, hg => by
  have hp:=jjd h;have hq:q≠[]:=fun k=>by rw[k]at hn; simp at hn; omega
  rw[List.length_append]at hg;rw[xw]at h ⊢;by_cases c1:Lib.hasPrefix (q++z) [35,124]=true
  ·rw[if_pos c1]at h;obtain⟨m,h1,rfl⟩:=Option.map_eq_some_iff.1 h;have hl:[(35:UInt8),124].length≤q.length:=(by simp; omega);rw[if_pos (qhb c1 hl _)];have hv2:Lib.validD (q.drop 2)=true:=yk hv c1 hl (by decide);rw[ja (by omega)]at h1 ⊢;obtain⟨j1,j2⟩:=qnf f g (k+2) m (q.drop 2) z x hv2 h1 (by rw[List.length_drop]; omega) (by rw[List.length_append,List.length_drop]; omega);rw[List.drop_drop,Nat.add_comm]at j2;exact⟨by rw[j1]; rfl,j2⟩
  rw[if_neg c1]at h;rw[if_neg (qlc c1 (by decide))];by_cases c2:Lib.hasPrefix (q++z) [124,35]=true
  ·rw[if_pos c2]at h;obtain⟨m,h1,rfl⟩:=Option.map_eq_some_iff.1 h;have hl:[(124:UInt8),35].length≤q.length:=(by simp; omega);rw[if_pos (qhb c2 hl _)];have hv2:Lib.validD (q.drop 2)=true:=yk hv c2 hl (by decide);rw[ja (by omega)]at h1 ⊢;obtain⟨j1,j2⟩:=qnf f g k m (q.drop 2) z x hv2 h1 (by rw[List.length_drop]; omega) (by rw[List.length_append,List.length_drop]; omega);rw[List.drop_drop,Nat.add_comm]at j2;exact⟨by rw[j1]; rfl,j2⟩
  rw[if_neg c2]at h;rw[if_neg (qlc c2 (by decide))];rw[if_neg (by simp[hq])]at h ⊢;obtain⟨e1,hv1⟩:=kl hv hq z;obtain⟨e2,_⟩:=kl hv hq (32::x);have hw:=jg hq;rw[e1]at h;rw[e2];obtain⟨m,h1,rfl⟩:=Option.map_eq_some_iff.1 h;rw[ja hw.2]at h1 ⊢;obtain⟨j1,j2⟩:=qnf f g (k+1) m (q.drop (dcX q).2) z x hv1 h1 (by rw[List.length_drop]; omega) (by rw[List.length_append,List.length_drop]; omega);rw[List.drop_drop,Nat.add_comm]at j2;exact⟨by rw[j1]; rfl,j2⟩
-- a backslash at the end
theorem kr{l:List UInt8}{b c:UInt8}(h:(b::l).getLast?=some c)(hl:l≠[]):l.getLast?=some c:=by
 cases l with
 | nil => exact absurd rfl hl
 | cons d t => rwa [List.getLast?_cons_cons] at h
theorem qng{l:List UInt8}{c:UInt8}:∀{k:Nat},l.getLast?=some c→k<l.length→(l.drop k).getLast?=some c:=fun{k} h hk=>by
 have e:l=l.take k++l.drop k:=(List.take_append_drop k l).symm;have hne:l.drop k≠[]:=fun e=>by
  have:=congrArg List.length e;rw[List.length_drop]at this;simp at this;omega
 rw[e,List.getLast?_append]at h;cases hd:(l.drop k).getLast? with
 | none => exact absurd (List.getLast?_eq_none_iff.1 hd) hne
 | some d => rw [hd] at h; exact h
theorem zed{l:List UInt8}{c:UInt8}(h:l.getLast?=some c):l[l.length-1]?=some c:=by rw[←List.getLast?_eq_getElem?]; exact h
theorem qjc{l:List UInt8}{c:UInt8}(h:l.getLast?=some c):l≠[]:=fun e=>by rw[e]at h; cases h
theorem jrb{r:Nat}(hr:r≤36):jfe r 92=false:=decide_eq_false (by show ¬dvn 36 92<r; unfold dvn; simp; omega)
theorem zee{r:Nat}(hr:r≤36):∀{l:List UInt8},l.getLast?=some 92→(l.drop (nDg r l)).getLast?=some 92
 | [], h => by cases h
 | b :: t, h => by
  simp only[nDg];by_cases hb:jfe r b=true
  ·rw[if_pos hb];have ht:t≠[]:=fun e=>by
    subst e;have:b=92:=(by simpa using h);rw[this,jrb hr]at hb;cases hb
   exact zee hr (kr h ht)
  ·rw[if_neg hb]; exact h
theorem zkh{l:List UInt8}(h:l.getLast?=some 92)(h0:btL l 0≠92):(l.drop 1).getLast?=some 92:=by
 cases l with
 | nil => cases h
 | cons b t =>
  refine kr h fun e=>?_;subst e;have:b=92:=by simpa using h
  subst this;exact h0 rfl
theorem jje{l:List UInt8}(h:l.getLast?=some 92):(unS l).getLast?=some 92:=by
 unfold unS;by_cases c:ut l=true
 ·rw[if_pos c];refine zkh h fun e=>?_;unfold ut at c;rw[e]at c;cases c
 ·rw[if_neg c]; exact h
theorem zvh{r:Nat}(hr:r≤36){l:List UInt8}(h:l.getLast?=some 92):(reD r l).getLast?=some 92:=by
 have hq:(qD r l).getLast?=some 92:=zee hr (jje h);unfold reD;by_cases c:slD r l=true
 ·rw[if_pos c];refine zee hr (zkh hq fun e=>?_);unfold slD at c;simp only[Bool.and_eq_true,decide_eq_true_eq]at c;omega
 ·rw[if_neg c]; exact hq
theorem qzg{l:List UInt8}(h:l.getLast?=some 92):qfg l=false:=by
 unfold qfg;rw[decide_eq_false (fun e=>by rw[e]at h; cases h),decide_eq_false (fun e=>by rw[e]at h; cases h)];rfl
theorem jjf{r:Nat}(hr:r≤36){l:List UInt8}(h:l.getLast?=some 92):okP r l=false:=by
 have h1:=zvh hr h;unfold okP;rw[if_neg (qjc h1),if_neg (by rw[qzg h1]; decide),qzg (zvh hr h1),Bool.and_false,Bool.and_false]
theorem jxg(c:Nat):xi c≤36:=by
 unfold xi;repeat' split
 all_goals omega
theorem qpc: ∀(told ex:Bool) (r:Nat) (l:List UInt8),r≤36→l.getLast?=some 92→(jy told ex r l).1.getLast?=some 92∧(jy told ex r l).2≤36
 | told, ex, r, a :: c :: t, hr, h => by
  rw[jy];have h2:(c::t).getLast?=some 92:=kr h (by simp);by_cases k1:a.toNat=35
  ·rw[if_pos k1];by_cases k2:xi c.toNat≠0∧told=false
   ·rw[if_pos k2];refine qpc _ _ _ t (jxg _) (kr h2 fun e=>?_);subst e;have:c=92:=(by simpa using h2);subst this;exact k2.1 rfl
   ·rw[if_neg k2];by_cases k3:(c.toNat=101∨c.toNat=69)∧ex=false
    ·rw[if_pos k3];refine qpc _ _ _ t hr (kr h2 fun e=>?_);subst e;have:c=92:=(by simpa using h2);subst this;rcases k3.1 with k | k<;>cases k
    ·rw[if_neg k3]; exact⟨h,hr⟩
  ·rw[if_neg k1]; exact⟨h,hr⟩
 | told, ex, r, [a], hr, h => by rw [jy]; exact ⟨h, hr⟩
 | told, ex, r, [], hr, h => by cases h
theorem zrd{l:List UInt8}(h:l.getLast?=some 92):(vf l 10).2=5:=by
 obtain⟨h1,h2⟩:=qpc false false (10:Int).toNat l (by decide) h;unfold vf;rw[if_pos (by decide),if_neg (show ¬okP (jy false false (10:Int).toNat l).2 (jy false false (10:Int).toNat l).1=true from by rw[jjf h2 h1]; decide)]
theorem zvi: ∀(l:List UInt8) (n:Nat),l.getLast?=some 92→C.puN n l=none
 | [], n, h => by cases h
 | [c], n, h => by
  have:c=92:=by simpa using h
  subst this;rw[C.puN,if_neg (by decide)]
 | c :: d :: t, n, h => by
  rw[C.puN];by_cases k:C.hexB c=true
  ·rw[if_pos k]
   split
   ·rfl
   ·exact zvi (d::t) _ (kr h (by simp))
  ·rw[if_neg k]
theorem jjg{l:List UInt8}(h:l.getLast?=some 92):qfi l=none:=by
 unfold qfi C.puX;rw[if_neg (fun e=>qjc h (List.isEmpty_iff.1 e)),zvi _ _ h];rfl
theorem zki{l:List UInt8}(h:l.getLast?=some 92)(h2:1<l.length):(dcX l).2<l.length:=by
 have hl:=qjc h;have hw:=jg hl;rw[yi hl]at hw ⊢;rcases Nat.lt_or_ge (Lib.decodeL l).2 l.length with k | k
 ·exact k
 ·exfalso;have h3:=qzf (q:=l) (n:=l.length-1) (by omega) (by omega);rw[List.getD_eq_getElem?_getD,zed h]at h3;revert h3;decide
theorem jrc{l:List UInt8}(h:l.getLast?=some 92)(h2:1<l.length):((((Lib.runeCount (tx l):Nat):Int))==1)=false:=by
 have hs:=zki h h2;have hl:=qjc h;rw[yi hl]at hs;have hsz:(tx l).size=l.length:=jx l;obtain⟨n,hn⟩:∃n,l.length=n+2:=⟨l.length-2,by omega⟩;have e:Lib.runeCount (tx l)=1+(1+Lib.runeCountFrom (tx l) n ((0+(Lib.decodeL l).2)+(Utf8.decode (tx l) (0+(Lib.decodeL l).2)).2)):=by
  unfold Lib.runeCount;rw[hsz,hn];rw[Lib.runeCountFrom,if_pos (by rw[hsz]; omega),show(Utf8.decode (tx l) 0)=Lib.decodeL l from rfl,Lib.runeCountFrom,if_pos (by rw[hsz]; omega)]
 rw[e];exact beq_eq_false_iff_ne.2 (by omega)
theorem jjh{l:List UInt8}(h:l.getLast?=some 92):(yz l).isSome=false:=by
 unfold yz;rw[if_neg (fun e=>by rw[e]at h; revert h; decide),if_neg (fun e=>by rw[e]at h; revert h; decide),if_neg (fun e=>by rw[e]at h; revert h; decide),if_neg (fun e=>by rw[e]at h; revert h; decide),if_neg (fun e=>by rw[e]at h; revert h; decide),if_neg (fun e=>by rw[e]at h; revert h; decide),if_neg (fun e=>by rw[e]at h; revert h; decide),if_neg (fun e=>by rw[e]at h; revert h; decide),if_neg (fun e=>by rw[e]at h; revert h; decide),if_neg (fun e=>by rw[e]at h; revert h; decide),if_neg (fun e=>by rw[e]at h; revert h; decide),if_neg (fun e=>by rw[e]at h; revert h; decide)];rfl
theorem jji{l:List UInt8}(h:l.getLast?=some 92)(h2:1<l.length):chI l=none:=by
 unfold chI;rw[jrc h h2,if_neg (by decide),jjh h,if_neg (by decide)];by_cases c:Lib.hasPrefix l [120]=true
 ·rw[if_pos c,jjg (qng h h2)]; rfl
 ·rw[if_neg c]
theorem jjj{l:List UInt8}{c n:Nat}(h:l.getLast?=some 92)(hd:dgX l=some (c,n)):n<l.length:=by
 unfold dgX at hd;obtain⟨m,h1,h2⟩:=Option.bind_eq_some_iff.1 hd;obtain⟨u,h3,h4⟩:=Option.map_eq_some_iff.1 h2;cases h4
 have h5:=jeb h1;obtain⟨_,k2⟩:=jij (q:=l) (z:=[]) (by rwa [List.append_nil]) (by omega) [];rcases Nat.lt_or_ge (m+1) l.length with k | k
 ·exact k
 ·have h6:=zed h;rw[show l.length-1=m by omega,k2]at h6;cases h6
theorem zzj{ne:Bool}{l:List UInt8}{c:Int}{n:Nat}(h:l.getLast?=some 92)(hs:qki ne l=some (c,n)):n<l.length:=by
 have hl:=qjc h;have hp:=List.length_pos_iff.2 hl;have h1:¬(((dcX l).1:Nat):Int)=92→1<l.length:=fun k=>by
  rcases Nat.lt_or_ge 1 l.length with k2 | k2
  ·exact k2
  ·exfalso;have h6:=zed h
   match l,hl with
   | [b], _ =>
    have:b=92:=(by simpa using h6);subst this;rw[ya (by decide)]at k;exact k rfl
   | b :: d :: t, _ => simp at k2
 unfold qki at hs;by_cases c1:(((dcX l).1:Nat):Int)=92
 ·rw[if_pos c1]at hs;obtain⟨b,t,rfl,hb⟩:=jif (l:=l) (by omega);rw[ya hb]at hs;by_cases c2:Lib.hasPrefix ((b::t).drop 1) [120]=true
  ·rw[if_pos c2]at hs;obtain⟨⟨u,m⟩,h3,h4⟩:=Option.map_eq_some_iff.1 hs;cases h4
   have ht:t≠[]:=fun e=>(by rw[e]at c2; cases c2);have h5:=kr h ht;have hx:1<t.length:=by
    rcases Nat.lt_or_ge 1 t.length with k2 | k2
    ·exact k2
    ·exfalso
     match t,ht with
     | [d], _ =>
      have:d=92:=(by simpa using h5);subst this;cases c2
     | d :: d2 :: t2, _ => simp at k2
   have h6:=jjj (qng h5 hx) h3;rw[List.length_drop]at h6;show 1+1+m<t.length+1;omega
  ·rw[if_neg c2]at hs; cases hs
 rw[if_neg c1]at hs;have h2:=zki h (h1 c1);by_cases c2:C.firstB (((dcX l).1:Nat):Int)=true
 ·rw[if_pos c2]at hs; cases hs; exact h2
 rw[if_neg c2]at hs;by_cases c3:ne=true
 ·rw[if_pos c3]at hs
  split at hs
  ·cases hs; exact h2
  ·cases hs
 ·rw[if_neg c3]at hs; cases hs
theorem qpd: ∀(f:Nat) (ne:Bool) (l:List UInt8),l.getLast?=some 92→qeh f ne l=none
 | 0, ne, l, h => by rw [qeh]
 | f + 1, ne, l, h => by
  rw[qeh,if_neg (fun e=>qjc h (List.isEmpty_iff.1 e))];cases hs:qki ne l with
  | none => rfl
  | some r =>
   obtain⟨c,n⟩:=r;rw[Option.bind_some];show(qeh f true (l.drop n)).map _=none;rw[qpd f true (l.drop n) (qng h (zzj h hs))];rfl
theorem jaa{l:List UInt8}(h:l.getLast?=some 92):qgi l=none:=by
 unfold qgi;rw[if_neg (fun e=>by rw[e]at h; revert h; decide),if_neg (fun e=>by rw[e]at h; revert h; decide),if_neg (fun e=>by rw[e]at h; revert h; decide)];by_cases c:Lib.hasPrefix l [45,62]=true
 ·rw[if_pos c,qpd _ _ _ (qng h ?_)]
  ·rfl
  ·obtain⟨r,rfl⟩:=List.isPrefixOf_iff_prefix.1 c;cases r with
   | nil => revert h; decide
   | cons a r => simp
 ·rw[if_neg c,qpd _ _ _ h]
theorem jrd{W:List UInt8}(h:W.getLast?=some 92)(h2:W≠[35,92,92]):qcf W=none:=by
 unfold qcf;rw[if_neg (fun e=>by rw[e]at h; revert h; decide),if_neg (fun e=>by rw[e]at h; revert h; decide),if_neg (fun e=>by rw[e]at h; revert h; decide),if_neg (fun e=>by rw[e]at h; revert h; decide)];by_cases c:Lib.hasPrefix W [35,92]=true
 ·rw[if_pos c];obtain⟨r,rfl⟩:=List.isPrefixOf_iff_prefix.1 c;show(chI r).map _=none;have e:chI r=none:=by
   match r,h,h2 with
   | [], _, _ => decide +kernel
   | [b], h, h2 =>
    have:b=92:=(by simpa using h);subst this;exact absurd rfl h2
   | b :: d :: t, h, _ => exact jji (kr (kr h (by simp)) (by simp)) (by simp)
  rw[e]; rfl
 ·rw[if_neg c,zrd h,if_neg (by decide),if_neg (by decide),jaa h];rfl
theorem jre: qcf [46]=none:=by
 have e1:(vf [46] 10).2=5:=by
  unfold vf;rw[if_pos (by decide),if_neg (by decide +kernel)]
 unfold qcf;rw[if_neg (by decide),if_neg (by decide),if_neg (by decide),if_neg (by decide),if_neg (by decide),e1,if_neg (by decide),if_neg (by decide)];have e2:qgi [46]=none:=by decide +kernel
 rw[e2];rfl

theorem zre: ∀(f:Nat) (l:List UInt8),kh f l≤l.length
 | 0, l => by rw [kh]; omega
 | f + 1, l => by
  rw[kh];by_cases c1:l.isEmpty=true
  ·rw[if_pos c1]; omega
  rw[if_neg c1];by_cases c2:C.delimB (((dcX l).1:Nat):Int)=true
  ·rw[if_pos c2]; omega
  rw[if_neg c2];have h0:=zne l;have h1:=zge (l.drop (dcX l).2);rw[List.length_drop]at h1;by_cases c3:(((dcX l).1:Nat):Int)=92
  ·rw[if_pos c3];have:=zre f (l.drop ((dcX l).2+ve (l.drop (dcX l).2)));rw[List.length_drop]at this;omega
  ·rw[if_neg c3];have:=zre f (l.drop (dcX l).2);rw[List.length_drop]at this;omega
theorem jxh(g:Nat)(x:List UInt8):kh (g+3) (35::92::92::32::x)=3:=by
 rw[qgh (m:=1) (by simp) (by rw[ya (by decide)]; decide) (by rw[ya (by decide)]; rfl)];show 1+kh (g+2) (92::92::32::x)=3;rw[qgh (m:=2) (by simp) (by rw[ya (by decide)]; decide) (by
  rw[ya (by decide)];show(if((92:Nat):Int)=92 then 1+ve (92::32::x)else 1)=2;rw[if_pos (by decide)];unfold ve;rw[ya (by decide)];rfl)]
 show 1+(2+kh (g+1) (32::x))=3;rw[qdf (zkg x)]
theorem xcf{l:List UInt8}{n:Nat}(h:(tkX l).length=n):kh (l.length+1) l=n:=by
 unfold tkX at h;rw[List.length_take]at h;have:=zre (l.length+1) l;omega
theorem jrf{q z:List UInt8}{t:Tr}{n:Nat}{b:Bool}(x:List UInt8)(hv:Lib.validD q=true)(h:qga (q++z)=some (t,n,b))(hn:n≤q.length):qga (q++32::x)=some (t,n,b)∧Lib.validD (q.drop n)=true:=by
 unfold qga at h;by_cases c:tkX (q++z)=[]
 ·rw[if_pos c]at h; cases h
 rw[if_neg c]at h;obtain⟨⟨u,d⟩,h1,h2⟩:=Option.map_eq_some_iff.1 h;have hk:(tkX (q++z)).length=n:=congrArg (fun r=>r.2.1) h2;have ht:=xcf hk;have key:kh ((q++32::x).length+1) (q++32::x)=n∧Lib.validD (q.drop n)=true:=by
  rcases zec _ _ n q z x hv ht hn (Nat.lt_succ_self _) (Nat.lt_succ_self _)with k | ⟨k1,k2,k3⟩
  ·exact k
  ·have hW:tkX (q++z)=q:=by
    unfold tkX;rw[ht,k2,k1,List.append_nil,List.take_length]
   by_cases c3:q=[35,92,92]
   ·subst c3;have k4:n=3:=k2;subst k4;refine⟨?_,rfl⟩;show kh ((x.length+2)+3) (35::92::92::32::x)=3;exact jxh _ _
   ·rw[hW,jrd k3 c3]at h1;cases h1
 refine⟨?_,key.2⟩;have e:tkX (q++32::x)=tkX (q++z):=by
  unfold tkX;rw[key.1,ht,List.take_append_of_le_length hn,List.take_append_of_le_length hn]
 unfold qga;rw[e,if_neg c,h1];exact congrArg some h2
theorem jka{l:List UInt8}(h:C.delimB (((dcX l).1:Nat):Int)=true):tkX l=[]:=by
 unfold tkX;rw[qdf h];rfl
theorem jxi{f:Nat}{l:List UInt8}{e:UInt8}(he:e=41∨e=93)(h:Lib.hasPrefix l [e]=true):dat f l=none:=by
 obtain⟨r,rfl⟩:=List.isPrefixOf_iff_prefix.1 h;cases f with
 | zero => rw [dat]
 | succ f =>
  rw[dat];have hn:∀p:List UInt8,p.head?≠some e→p≠[]→¬Lib.hasPrefix ([e]++r) p=true:=fun p h1 h2 k=>by
   cases p with
   | nil => exact h2 rfl
   | cons a p =>
    obtain⟨s,hs⟩:=List.isPrefixOf_iff_prefix.1 k;injection hs with e1 _;exact h1 (by rw[e1]; rfl)
  have h40:¬(40:UInt8)=e:=by rcases he with rfl | rfl<;>decide
  have h91:¬(91:UInt8)=e:=by rcases he with rfl | rfl<;>decide
  have h35:¬(35:UInt8)=e:=by rcases he with rfl | rfl<;>decide
  have h39:¬(39:UInt8)=e:=by rcases he with rfl | rfl<;>decide
  have h34:¬(34:UInt8)=e:=by rcases he with rfl | rfl<;>decide
  rw[if_neg (hn [40] (fun k=>h40 (Option.some.inj k)) (by simp)),if_neg (hn [91] (fun k=>h91 (Option.some.inj k)) (by simp)),if_neg (hn [35,40] (fun k=>h35 (Option.some.inj k)) (by simp)),if_neg (hn [35,118,117,56,40] (fun k=>h35 (Option.some.inj k)) (by simp)),if_neg (hn [39] (fun k=>h39 (Option.some.inj k)) (by simp)),if_neg (hn [34] (fun k=>h34 (Option.some.inj k)) (by simp))];unfold qga;rw[if_pos (jka _)];show C.delimB (((dcX (e::r)).1:Nat):Int)=true;rw[ya (by rcases he with rfl | rfl<;>decide)];rcases he with rfl | rfl<;>decide
theorem zvj{f:Nat}{l:List UInt8}(h:qef l=true):dat f l=none:=by
 have h1:tkX l=[46]:=of_decide_eq_true h;cases f with
 | zero => rw [dat]
 | succ f =>
  have hp:[46] <+: l:=by rw[←h1]; exact List.take_prefix _ _
  obtain⟨r,rfl⟩:=hp;rw[dat];have hn:∀p:List UInt8,p.head?≠some 46→p≠[]→¬Lib.hasPrefix ([46]++r) p=true:=fun p h1 h2 k=>by
   cases p with
   | nil => exact h2 rfl
   | cons a p =>
    obtain⟨s,hs⟩:=List.isPrefixOf_iff_prefix.1 k;injection hs with e1 _;exact h1 (by rw[e1]; rfl)
  rw[if_neg (hn _ (by decide) (by simp)),if_neg (hn _ (by decide) (by simp)),if_neg (hn _ (by decide) (by simp)),if_neg (hn _ (by decide) (by simp)),if_neg (hn _ (by decide) (by simp)),if_neg (hn _ (by decide) (by simp))];unfold qga;rw[h1,if_neg (by simp),jre];rfl
theorem jrg{q z:List UInt8}(x:List UInt8)(hv:Lib.validD q=true)(hq:q≠[])(h:qef (q++z)=true):qef (q++32::x)=true∧Lib.validD (q.drop 1)=true∧1≤q.length:=by
 have hl:=List.length_pos_iff.2 hq;have h1:tkX (q++z)=[46]:=of_decide_eq_true h;have ht:=xcf (show(tkX (q++z)).length=1 by rw[h1]; rfl);rcases zec _ _ 1 q z x hv ht hl (Nat.lt_succ_self _) (Nat.lt_succ_self _)with⟨k1,k2⟩ | ⟨k1,k2,k3⟩
 ·refine⟨?_,k2,hl⟩;unfold qef;rw[k1];unfold tkX at h1;rw[ht]at h1;rw[List.take_append_of_le_length hl]at h1 ⊢;exact decide_eq_true h1
 ·exfalso;unfold tkX at h1;rw[ht,k1,List.append_nil]at h1;rw[show q=[46]by rw[←h1,k2,List.take_length]]at k3;cases k3
theorem jxj{e:UInt8}{q z x:List UInt8}{o o':Option Nat}{a:Nat}(ho:∀k,o=some k→k<q.length→o'=some k∧Lib.validD (q.drop k)=true)(he:e≠32)(h:moK e (q++z) o=some (true,a))(hn:a<q.length):moK e (q++32::x) o'=some (true,a)∧Lib.validD (q.drop a)=true:=by
 unfold moK at h ⊢;obtain⟨k,h1,h2⟩:=Option.bind_eq_some_iff.1 h;by_cases c:Lib.hasPrefix ((q++z).drop k) [e]=true
 ·rw[if_pos c]at h2; cases h2
 ·rw[if_neg c]at h2;cases h2
  obtain⟨j1,j2⟩:=ho a h1 hn;rw[ja (Nat.le_of_lt hn)]at c;rw[j1,Option.bind_some,ja (Nat.le_of_lt hn),if_neg (qlc c (by simpa using he.symm))];exact⟨rfl,j2⟩
theorem jya{e:UInt8}{q z x:List UInt8}{o o':Option Nat}{a:Nat}(ho:∀k,o=some k→k<q.length→o'=some k∧Lib.validD (q.drop k)=true)(he:e.toNat<128)(h:moK e (q++z) o=some (false,a))(hn:a≤q.length):moK e (q++32::x) o'=some (false,a)∧Lib.validD (q.drop a)=true:=by
 unfold moK at h ⊢;obtain⟨k,h1,h2⟩:=Option.bind_eq_some_iff.1 h;by_cases c:Lib.hasPrefix ((q++z).drop k) [e]=true
 ·rw[if_pos c]at h2;cases h2
  obtain⟨j1,j2⟩:=ho k h1 hn;have hk:k≤q.length:=by omega
  rw[ja hk]at c;have hl:[e].length≤(q.drop k).length:=by rw[List.length_drop]; simp; omega
  rw[j1,Option.bind_some,ja hk,if_pos (qhb c hl _)];refine⟨rfl,?_⟩;have:=yk j2 c hl (by simpa using he)
  rwa [List.drop_drop]at this
 ·rw[if_neg c]at h2; cases h2
theorem vdd{q:List UInt8}{a b c:Nat}(h:Lib.validD ((q.drop a).drop b)=true)(e:a+b=c):Lib.validD (q.drop c)=true:=by rwa [List.drop_drop,e]at h
def SkQ(f:Nat):Prop:=∀(q z x:List UInt8) (a:Nat),Lib.validD q=true→skp f (q++z)=some a→a<q.length→skp f (q++32::x)=some a∧Lib.validD (q.drop a)=true
def DaQ(f:Nat):Prop:=∀(q z x:List UInt8) (t:Tr) (n:Nat) (b:Bool),Lib.validD q=true→dat f (q++z)=some (t,n,b)→n≤q.length→dat f (q++32::x)=some (t,n,b)∧Lib.validD (q.drop n)=true
def ItQ(f:Nat):Prop:=∀(q z x:List UInt8) (t:List Tr) (n:Nat) (b:Bool),Lib.validD q=true→itm f 41 (q++z)=some (t,n,b)→n≤q.length→itm f 41 (q++32::x)=some (t,n,b)∧Lib.validD (q.drop n)=true
def LiQ(f:Nat):Prop:=∀(e:UInt8) (hh:Bool) (q z x:List UInt8) (t:List Tr) (u:Tr) (n:Nat) (b:Bool),e≠32→e.toNat<128→Lib.validD q=true→lst f e hh (q++z)=some (t,u,n,b)→n≤q.length→lst f e hh (q++32::x)=some (t,u,n,b)∧Lib.validD (q.drop n)=true
theorem skq{f:Nat}(hs:SkQ f)(hd:DaQ f):SkQ (f+1):=fun q z x a hv h hn=>by
 have hq:q≠[]:=fun k=>by rw[k]at hn; cases hn
 obtain⟨e1,hv1⟩:=kl hv hq z;obtain⟨e2,_⟩:=kl hv hq (32::x);have hw:=jg hq;rw[skp,e1]at h;rw[skp,e2];by_cases c1:C.blankB (((dcX q).1:Nat):Int)=true
 ·rw[if_pos c1]at h ⊢;obtain⟨m,h1,rfl⟩:=Option.map_eq_some_iff.1 h;rw[ja hw.2]at h1 ⊢;obtain⟨j1,j2⟩:=hs _ z x m hv1 h1 (by rw[List.length_drop]; omega);exact⟨by rw[j1]; rfl,vdd j2 (Nat.add_comm _ _)⟩
 rw[if_neg c1]at h ⊢;by_cases c2:(((dcX q).1:Nat):Int)=59
 ·rw[if_pos c2]at h ⊢;obtain⟨m,h1,rfl⟩:=Option.map_eq_some_iff.1 h;obtain⟨k1,k2⟩:=jra (x:=x) hv rfl (show lnX (q++z)<q.length by omega);rw[k1];rw[ja (by omega)]at h1 ⊢;obtain⟨j1,j2⟩:=hs _ z x m k2 h1 (by rw[List.length_drop]; omega);exact⟨by rw[j1]; rfl,vdd j2 (Nat.add_comm _ _)⟩
 rw[if_neg c2]at h ⊢;by_cases c3:Lib.hasPrefix (q++z) [35,124]=true
 ·rw[if_pos c3]at h;obtain⟨n,h0,h⟩:=Option.bind_eq_some_iff.1 h;obtain⟨m,h1,rfl⟩:=Option.map_eq_some_iff.1 h;have hl:[(35:UInt8),124].length≤q.length:=by simp; omega
  have hv2:Lib.validD (q.drop 2)=true:=yk hv c3 hl (by decide);rw[if_pos (qhb c3 hl _)];rw[ja (by omega)]at h0 h1 ⊢;obtain⟨k1,k2⟩:=qnf _ ((q.drop 2++32::x).length+1) 1 n (q.drop 2) z x hv2 h0 (by rw[List.length_drop]; omega) (Nat.lt_succ_self _);rw[k1,Option.bind_some];rw[ja (by rw[List.length_drop]; omega)]at h1 ⊢;obtain⟨j1,j2⟩:=hs _ z x m k2 h1 (by rw[List.length_drop,List.length_drop]; omega);exact⟨by rw[j1]; rfl,vdd (q:=q) (vdd (q:=q.drop 2) j2 rfl) (by omega)⟩
 rw[if_neg c3]at h;rw[if_neg (qlc c3 (by decide))];by_cases c4:Lib.hasPrefix (q++z) [35,59]=true
 ·rw[if_pos c4]at h;obtain⟨n,h0,h⟩:=Option.bind_eq_some_iff.1 h;obtain⟨m,h1,rfl⟩:=Option.map_eq_some_iff.1 h;obtain⟨i,h2,h0⟩:=Option.bind_eq_some_iff.1 h0;obtain⟨⟨t,n2,b⟩,h3,h0⟩:=Option.bind_eq_some_iff.1 h0;have c5:Lib.validD (((q++z).drop 2).take (i+n2))=true:=by
   by_cases k:Lib.validD (((q++z).drop 2).take (i+n2))=true
   ·exact k
   ·rw[if_neg k]at h0; cases h0
  rw[if_pos c5]at h0;cases h0
  have hp:=(ug h3).1;simp only at hp h1 hn;have hl:[(35:UInt8),59].length≤q.length:=by simp; omega
  have hv2:Lib.validD (q.drop 2)=true:=yk hv c4 hl (by decide);rw[if_pos (qhb c4 hl _)];have h2l:2≤q.length:=by omega
  rw[ja h2l]at h1 h2 h3 c5 ⊢;obtain⟨k1,k2⟩:=hs _ z x i hv2 h2 (by rw[List.length_drop]; omega);rw[k1,Option.bind_some];rw[ja (by rw[List.length_drop]; omega)]at h3 ⊢;obtain⟨l1,l2⟩:=hd _ z x t n2 b k2 h3 (by rw[List.length_drop,List.length_drop]; omega);rw[l1,Option.bind_some];simp only;rw[List.take_append_of_le_length (by rw[List.length_drop]; omega)]at c5 ⊢;rw[if_pos c5,Option.bind_some];rw[ja (by rw[List.length_drop]; omega)]at h1 ⊢;obtain⟨j1,j2⟩:=hs _ z x m (vdd (q:=q.drop 2) l2 rfl) h1 (by rw[List.length_drop,List.length_drop]; omega);exact⟨by rw[j1]; rfl,vdd (q:=q) (vdd (q:=q.drop 2) j2 rfl) (by omega)⟩
 rw[if_neg c4]at h;rw[if_neg (qlc c4 (by decide))];cases h
 exact⟨rfl,hv⟩
theorem daq{f:Nat}(hs:SkQ f)(hd:DaQ f)(hi:ItQ f)(hl:LiQ f):DaQ (f+1):=fun q z x t n b hv h hn=>by
 have hp:=(ug h).1;simp only at hp;rw[dat]at h ⊢;by_cases c1:Lib.hasPrefix (q++z) [40]=true
 ·rw[if_pos c1]at h;obtain⟨⟨ts,u,m,d⟩,h1,h2⟩:=Option.map_eq_some_iff.1 h;cases h2
  simp only at hn;have h1l:[(40:UInt8)].length≤q.length:=by simp; omega
  have v1:Lib.validD (q.drop 1)=true:=yk hv c1 h1l (by decide);rw[if_pos (qhb c1 h1l _)];rw[ja (by omega)]at h1 ⊢;obtain⟨j1,j2⟩:=hl 41 true _ z x ts u m d (by decide) (by decide) v1 h1 (by rw[List.length_drop]; omega);exact⟨by rw[j1]; rfl,vdd j2 (Nat.add_comm _ _)⟩
 rw[if_neg c1]at h;rw[if_neg (qlc c1 (by decide))];by_cases c2:Lib.hasPrefix (q++z) [91]=true
 ·rw[if_pos c2]at h;obtain⟨⟨ts,u,m,d⟩,h1,h2⟩:=Option.map_eq_some_iff.1 h;cases h2
  simp only at hn;have h1l:[(91:UInt8)].length≤q.length:=by simp; omega
  have v1:Lib.validD (q.drop 1)=true:=yk hv c2 h1l (by decide);rw[if_pos (qhb c2 h1l _)];rw[ja (by omega)]at h1 ⊢;obtain⟨j1,j2⟩:=hl 93 true _ z x ts u m d (by decide) (by decide) v1 h1 (by rw[List.length_drop]; omega);exact⟨by rw[j1]; rfl,vdd j2 (Nat.add_comm _ _)⟩
 rw[if_neg c2]at h;rw[if_neg (qlc c2 (by decide))];by_cases c3:Lib.hasPrefix (q++z) [35,40]=true
 ·rw[if_pos c3]at h;obtain⟨⟨ts,m,d⟩,h1,h2⟩:=Option.map_eq_some_iff.1 h;cases h2
  simp only at hn;have h1l:[(35:UInt8),40].length≤q.length:=by simp; omega
  have v1:Lib.validD (q.drop 2)=true:=yk hv c3 h1l (by decide);rw[if_pos (qhb c3 h1l _)];rw[ja (by omega)]at h1 ⊢;obtain⟨j1,j2⟩:=hi _ z x ts m d v1 h1 (by rw[List.length_drop]; omega);exact⟨by rw[j1]; rfl,vdd j2 (Nat.add_comm _ _)⟩
 rw[if_neg c3]at h;rw[if_neg (qlc c3 (by decide))];by_cases c4:Lib.hasPrefix (q++z) [35,118,117,56,40]=true
 ·rw[if_pos c4]at h;obtain⟨⟨ts,m,d⟩,h1,h⟩:=Option.bind_eq_some_iff.1 h;obtain⟨y,h3,h2⟩:=Option.map_eq_some_iff.1 h;cases h2
  simp only at hn;have h1l:[(35:UInt8),118,117,56,40].length≤q.length:=by simp; omega
  have v1:Lib.validD (q.drop 5)=true:=yk hv c4 h1l (by decide);rw[if_pos (qhb c4 h1l _)];rw[ja (by omega)]at h1 ⊢;obtain⟨j1,j2⟩:=hi _ z x ts m d v1 h1 (by rw[List.length_drop]; omega);exact⟨by rw[j1,Option.bind_some,h3]; rfl,vdd j2 (Nat.add_comm _ _)⟩
 rw[if_neg c4]at h;rw[if_neg (qlc c4 (by decide))];by_cases c5:Lib.hasPrefix (q++z) [39]=true
 ·rw[if_pos c5]at h;obtain⟨a,h1,h⟩:=Option.bind_eq_some_iff.1 h;obtain⟨⟨u,m,d⟩,h3,h2⟩:=Option.map_eq_some_iff.1 h;cases h2
  simp only at hn;have hp3:=(ug h3).1;simp only at hp3;have h1l:[(39:UInt8)].length≤q.length:=by simp; omega
  have v1:Lib.validD (q.drop 1)=true:=yk hv c5 h1l (by decide);rw[if_pos (qhb c5 h1l _)];rw[ja (by omega)]at h1 h3 ⊢;obtain⟨k1,k2⟩:=hs _ z x a v1 h1 (by rw[List.length_drop]; omega);rw[k1,Option.bind_some];rw[ja (by rw[List.length_drop]; omega)]at h3 ⊢;obtain⟨j1,j2⟩:=hd _ z x u m d k2 h3 (by rw[List.length_drop,List.length_drop]; omega);exact⟨by rw[j1]; rfl,vdd (q:=q) (vdd (q:=q.drop 1) j2 rfl) (by first | omega | (simp only; omega))⟩
 rw[if_neg c5]at h;rw[if_neg (qlc c5 (by decide))];by_cases c6:Lib.hasPrefix (q++z) [34]=true
 ·rw[if_pos c6]at h;obtain⟨⟨r,m⟩,h1,h2⟩:=Option.map_eq_some_iff.1 h;cases h2
  simp only at hn;have h1l:[(34:UInt8)].length≤q.length:=by simp; omega
  have v1:Lib.validD (q.drop 1)=true:=yk hv c6 h1l (by decide);rw[if_pos (qhb c6 h1l _)];rw[ja (by omega)]at h1 ⊢;unfold zyg at h1 ⊢;obtain⟨j1,j2⟩:=zvg _ ((q.drop 1++32::x).length+1) (q.drop 1) z x r m v1 h1 (by rw[List.length_drop]; omega) (Nat.lt_succ_self _);exact⟨by rw[j1]; rfl,vdd j2 rfl⟩
 rw[if_neg c6]at h;rw[if_neg (qlc c6 (by decide))];exact jrf x hv h hn
theorem itq{f:Nat}(hs:SkQ f)(hd:DaQ f)(hi:ItQ f):ItQ (f+1):=fun q z x ts n b hv h hn=>by
 rw[itm]at h ⊢;obtain⟨⟨y,a⟩,h1,h⟩:=Option.bind_eq_some_iff.1 h;cases y with
 | true =>
  rw[if_pos rfl]at h;obtain⟨⟨t,m,d⟩,h2,h⟩:=Option.bind_eq_some_iff.1 h;obtain⟨⟨us,k,d2⟩,h3,h4⟩:=Option.map_eq_some_iff.1 h;cases h4
  have hp:=(ug h2).1;simp only at hp hn h2 h3;obtain⟨j1,j2⟩:=jxj (x:=x) (fun k e1 e2=>hs q z x k hv e1 e2) (by decide) h1 (by omega);rw[j1,Option.bind_some,if_pos rfl];show((dat f ((q++32::x).drop a)).bind _)=_∧_;rw[ja (by omega)]at h2 h3 ⊢;obtain⟨k1,k2⟩:=hd _ z x t m d j2 h2 (by rw[List.length_drop]; omega);rw[k1,Option.bind_some];show((itm f 41 ((q.drop a++32::x).drop m)).map _)=_∧_;rw[ja (by rw[List.length_drop]; omega)]at h3 ⊢;obtain⟨l1,l2⟩:=hi _ z x us k d2 k2 h3 (by rw[List.length_drop,List.length_drop]; omega);exact⟨by rw[l1]; rfl,vdd (q:=q) (vdd (q:=q.drop a) l2 rfl) (by first | omega | (simp only; omega))⟩
 | false =>
  rw[if_neg Bool.false_ne_true]at h;cases h
  obtain⟨j1,j2⟩:=jya (x:=x) (fun k e1 e2=>hs q z x k hv e1 e2) (by decide) h1 hn;rw[j1,Option.bind_some,if_neg Bool.false_ne_true];exact⟨rfl,j2⟩
theorem liq{f:Nat}(hs:SkQ f)(hd:DaQ f)(hl:LiQ f):LiQ (f+1):=fun e hh q z x ts u n b he h8 hv h hn=>by
 rw[lst]at h ⊢;obtain⟨⟨y,a⟩,h1,h⟩:=Option.bind_eq_some_iff.1 h;cases y with
 | true =>
  rw[if_pos rfl]at h;simp only at h;by_cases c:qef ((q++z).drop a)=true
  ·rw[if_pos c]at h;by_cases hh1:hh=true
   ·rw[if_pos hh1]at h; cases h
   rw[if_neg hh1]at h;obtain⟨i,h2,h⟩:=Option.bind_eq_some_iff.1 h;obtain⟨⟨t,m,d⟩,h3,h⟩:=Option.bind_eq_some_iff.1 h;obtain⟨⟨y2,k⟩,h4,h⟩:=Option.bind_eq_some_iff.1 h;cases y2 with
   | true => rw [if_pos rfl] at h; cases h
   | false =>
    rw[if_neg Bool.false_ne_true]at h;cases h
    have hp:=(ug h3).1;simp only at hp hn h3 h4;obtain⟨j1,j2⟩:=jxj (x:=x) (fun k e1 e2=>hs q z x k hv e1 e2) he h1 (by omega);rw[j1,Option.bind_some,if_pos rfl];simp only;have hal:a≤q.length:=(by omega);have hda:(q.drop a).length=q.length-a:=List.length_drop;rw[ja hal]at c h2 h3 h4 ⊢;obtain⟨g1,g2,g3⟩:=jrg x j2 (fun k=>by rw[k]at hda; simp at hda; omega) c;rw[if_pos g1,if_neg hh1];rw[ja g3]at h2 h3 h4 ⊢;have hdb:((q.drop a).drop 1).length=q.length-a-1:=(by rw[List.length_drop,hda]);obtain⟨i1,i2⟩:=hs _ z x i g2 h2 (by omega);rw[i1,Option.bind_some];rw[ja (by omega)]at h3 h4 ⊢;have hdc:(((q.drop a).drop 1).drop i).length=q.length-a-1-i:=(by rw[List.length_drop,hdb]);obtain⟨k1,k2⟩:=hd _ z x t m d i2 h3 (by omega);rw[k1,Option.bind_some];simp only;rw[ja (by omega)]at h4 ⊢;obtain⟨l1,l2⟩:=jya (x:=x) (fun k e1 e2=>hs _ z x k k2 e1 e2) h8 h4 (by rw[List.length_drop,hdc]; omega);rw[l1,Option.bind_some,if_neg Bool.false_ne_true];exact⟨rfl,vdd (q:=q) (vdd (q:=q.drop a) (vdd (q:=(q.drop a).drop 1) (vdd (q:=((q.drop a).drop 1).drop i) l2 rfl) rfl) rfl) (by omega)⟩
  ·rw[if_neg c]at h;obtain⟨⟨t,m,d⟩,h2,h⟩:=Option.bind_eq_some_iff.1 h;obtain⟨⟨us,v,k,d2⟩,h3,h4⟩:=Option.map_eq_some_iff.1 h;cases h4
   have hp:=(ug h2).1;simp only at hp hn h2 h3;obtain⟨j1,j2⟩:=jxj (x:=x) (fun k e1 e2=>hs q z x k hv e1 e2) he h1 (by omega);rw[j1,Option.bind_some,if_pos rfl];simp only;rw[ja (by omega)]at h2 h3 ⊢;obtain⟨k1,k2⟩:=hd _ z x t m d j2 h2 (by rw[List.length_drop]; omega);rw[if_neg (fun k=>by rw[zvj k]at k1; cases k1),k1,Option.bind_some];simp only;rw[ja (by rw[List.length_drop]; omega)]at h3 ⊢;obtain⟨l1,l2⟩:=hl e false _ z x us v k d2 he h8 k2 h3 (by rw[List.length_drop,List.length_drop]; omega);exact⟨by rw[l1]; rfl,vdd (q:=q) (vdd (q:=q.drop a) l2 rfl) (by first | omega | (simp only; omega))⟩
 | false =>
  rw[if_neg Bool.false_ne_true]at h;cases h
  obtain⟨j1,j2⟩:=jya (x:=x) (fun k e1 e2=>hs q z x k hv e1 e2) h8 h1 hn;rw[j1,Option.bind_some,if_neg Bool.false_ne_true];exact⟨rfl,j2⟩
theorem zwa: ∀f:Nat,SkQ f∧DaQ f∧ItQ f∧LiQ f
 | 0 => by
  refine⟨fun q z x a hv h hn=>?_,fun q z x t n b hv h hn=>?_,fun q z x t n b hv h hn=>?_,fun e hh q z x t u n b he h8 hv h hn=>?_⟩
  ·rw[skp]at h; cases h
  ·rw[dat]at h; cases h
  ·rw[itm]at h; cases h
  ·rw[lst]at h; cases h
 | f + 1 => by
  obtain⟨hs,hd,hi,hl⟩:=zwa f;exact⟨skq hs hd,daq hs hd hi hl,itq hs hd hi,liq hs hd hl⟩
theorem zwb{b:Bool}{x d:Nat}(hd:d≠0)(h1:(words x).length≤512)(h2:(words d).length≤512):qge (mkRat (sgn b x) d):=zuh (k:=512) hd (qbh h1) h2 rfl
theorem jkb(r:Nat)(n m:Nl)(h:(vm r n m).2=0):jf (vm r n m).1=true:=by
 by_cases h1:vq r n≠0∨vq r m≠0
 ·rw[qha h1]at h; cases h
 by_cases h2:zj r n.2.2=0∨zj r m.2.2=0
 ·rw[qii (by omega) (by omega) h2]at h; cases h
 have e1:vq r n=0:=by omega
 have e2:vq r m=0:=by omega
 have e:vm r n m=(Q6.rat (zbj r n) (zbj r m),0):=by unfold vm; rw[if_neg h1,if_neg h2]
 rw[e];exact qsh (zwb (by omega) (yj (jb e1).1).2 (yj (jb e1).2).2) (zwb (by omega) (yj (jb e2).1).2 (yj (jb e2).2).2)
theorem jab(l:List UInt8)(n:Int)(h:(vf l n).2=0):jf (vf l n).1=true:=by
 unfold vf at h ⊢;repeat' split at h
 all_goals first | (cases h; done) | skip
 all_goals simp_all only[if_true,if_false]
 all_goals exact jkb _ _ _ h
section
open Lib
theorem zkj{r:Int}(h0:0≤r)(h1:r≤1114111)(h2:¬(55296≤r∧r≤57343))(m:List UInt8):decodeL (encodeRune r++m)=(r.toNat,(encodeRune r).length):=by
 rw[decodeL_N];by_cases a:r≤127
 ·have e:encodeRune r=[b8 r]:=by unfold encodeRune; rw[encodeRuneZ_one h0 a]; rfl
  have v0:=qbj (z:=r) h0 (by omega);rw[e];simp only[List.cons_append,List.nil_append,List.getD_cons_zero,List.length_cons,List.length_nil];unfold decodeN;rw[if_pos (by omega)]
  congr 1
  omega
 by_cases b:r≤2047
 ·have e:encodeRune r=[b8 (192+r / 64),b8 (128+r%64)]:=by unfold encodeRune; rw[encodeRuneZ_two (by omega) b]; rfl
  have v0:=qbj (z:=192+r / 64) (by omega) (by omega);have v1:=qbj (z:=128+r%64) (by omega) (by omega);rw[e];simp only[List.cons_append,List.nil_append,List.getD_cons_zero,List.getD_cons_succ,List.length_cons,List.length_nil];unfold decodeN;rw[if_neg (by omega),if_pos ⟨by omega,by omega,by omega⟩,if_pos (by omega)]
  congr 1
  omega
 by_cases d:r≤65535
 ·have e:encodeRune r=[b8 (224+r / 4096),b8 (128+r / 64%64),b8 (128+r%64)]:=by unfold encodeRune; rw[encodeRuneZ_three (by omega)]; rfl
  have v0:=qbj (z:=224+r / 4096) (by omega) (by omega);have v1:=qbj (z:=128+r / 64%64) (by omega) (by omega);have v2:=qbj (z:=128+r%64) (by omega) (by omega);rw[e];simp only[List.cons_append,List.nil_append,List.getD_cons_zero,List.getD_cons_succ,List.length_cons,List.length_nil];unfold decodeN;rw[if_neg (by omega),if_neg (by omega),if_pos ⟨by omega,⟨by omega,by omega⟩,by omega,by omega⟩,if_pos (by omega)]
  congr 1
  omega
 ·have e:encodeRune r=[b8 (240+r / 262144),b8 (128+r / 4096%64),b8 (128+r / 64%64),b8 (128+r%64)]:=by unfold encodeRune; rw[encodeRuneZ_four (by omega) h1]; rfl
  have v0:=qbj (z:=240+r / 262144) (by omega) (by omega);have v1:=qbj (z:=128+r / 4096%64) (by omega) (by omega);have v2:=qbj (z:=128+r / 64%64) (by omega) (by omega);have v3:=qbj (z:=128+r%64) (by omega) (by omega);rw[e];simp only[List.cons_append,List.nil_append,List.getD_cons_zero,List.getD_cons_succ,List.length_cons,List.length_nil];unfold decodeN;rw[if_neg (by omega),if_neg (by omega),if_neg (by omega),if_pos ⟨by omega,⟨by omega,by omega⟩,⟨by omega,by omega⟩,by omega,by omega⟩,if_pos (by omega)]
  congr 1
  omega
end
theorem jkc{c:Int}(h:xl c=true)(x:List UInt8):Lib.validD (Lib.encodeRune c++x)=Lib.validD x:=by
 obtain⟨h0,h1,h2⟩:=of_decide_eq_true h;have e:=zkj h0 h1 (by omega) x;have hl:=(kd c).1;have hne:Lib.encodeRune c++x≠[]:=fun k=>by
  have:=congrArg List.length k;rw[List.length_append]at this;simp only[List.length_nil]at this;omega
 rw[Lib.validD_step _ hne,e,if_neg,List.drop_left']
 ·rfl
 ·rintro⟨k1,k2⟩;have k1':c.toNat=65533:=k1;have k3:c=65533:=by omega
  subst k3;revert k2;decide +kernel
theorem jkd{l:List UInt8}{n:Nat}(h:qfi l=some n):xl ((n:Nat):Int)=true:=by
 unfold qfi at h;obtain⟨u,_,h⟩:=Option.bind_eq_some_iff.1 h
 split at h
 ·rename_i k;cases h
  exact(Bool.and_eq_true_iff.1 k).2
 ·cases h
theorem jtj{l:List UInt8}{c n:Nat}(h:dgX l=some (c,n)):xl ((c:Nat):Int)=true:=by
 unfold dgX at h;obtain⟨u,_,h⟩:=Option.bind_eq_some_iff.1 h;obtain⟨v,h1,h2⟩:=Option.map_eq_some_iff.1 h;cases h2
 exact jkd h1
theorem xcg{l:List UInt8}{c n:Nat}(h:esX l=some (c,n)):xl ((c:Nat):Int)=true:=by
 unfold esX at h;repeat' split at h
 all_goals first
  | (cases h; done)
  | (cases h; first | decide | exact qyf l)
  | (obtain ⟨v, h1, h2⟩ := Option.map_eq_some_iff.1 h; cases h2; exact jtj h1)
theorem jrh{l:List UInt8}{c:Int}{n:Nat}(h:qfj l=some (c,n)):xl c=true:=by
 unfold qfj at h;by_cases c1:(((dcX l).1:Nat):Int)=92
 ·rw[if_pos c1]at h;obtain⟨v,h1,h2⟩:=Option.map_eq_some_iff.1 h;cases h2
  exact xcg h1
 rw[if_neg c1]at h;by_cases c2:(((dcX l).1:Nat):Int)=13
 ·rw[if_pos c2]at h; cases h; decide
 rw[if_neg c2]at h;by_cases c3:(((dcX l).1:Nat):Int)=133
 ·rw[if_pos c3]at h; cases h; decide
 rw[if_neg c3]at h;by_cases c4:(((dcX l).1:Nat):Int)=8232
 ·rw[if_pos c4]at h; cases h; decide
 rw[if_neg c4]at h;cases h
 exact qyf l
theorem jri{ne:Bool}{l:List UInt8}{c:Int}{n:Nat}(h:qki ne l=some (c,n)):xl c=true:=by
 unfold qki at h;by_cases c1:(((dcX l).1:Nat):Int)=92
 ·rw[if_pos c1]at h
  split at h
  ·obtain⟨v,h1,h2⟩:=Option.map_eq_some_iff.1 h;cases h2
   exact jtj h1
  ·cases h
 rw[if_neg c1]at h;by_cases c2:C.firstB (((dcX l).1:Nat):Int)=true
 ·rw[if_pos c2]at h; cases h; exact qyf l
 rw[if_neg c2]at h;by_cases c3:ne=true
 ·rw[if_pos c3]at h
  split at h
  ·cases h; exact qyf l
  ·cases h
 ·rw[if_neg c3]at h; cases h
theorem zwc: ∀(f:Nat) (l:List UInt8) (r:List UInt8×Nat),qce f l=some r→Lib.validD r.1=true
 | 0, l, r, h => by rw [qce] at h; cases h
 | f + 1, l, r, h => by
  rw[qce]at h;by_cases c1:Lib.hasPrefix l [34]=true
  ·rw[if_pos c1]at h; cases h; rfl
  rw[if_neg c1]at h;by_cases c2:l.isEmpty=true
  ·rw[if_pos c2]at h; cases h
  rw[if_neg c2]at h;obtain⟨⟨c,n⟩,h1,h⟩:=Option.bind_eq_some_iff.1 h;obtain⟨v,h2,rfl⟩:=Option.map_eq_some_iff.1 h;show Lib.validD (Lib.encodeRune c++v.1)=true;rw[jkc (jrh h1)];exact zwc f _ _ h2
theorem zef: ∀(f:Nat) (ne:Bool) (l r:List UInt8),qeh f ne l=some r→Lib.validD r=true
 | 0, ne, l, r, h => by rw [qeh] at h; cases h
 | f + 1, ne, l, r, h => by
  rw[qeh]at h;by_cases c2:l.isEmpty=true
  ·rw[if_pos c2]at h; cases h; rfl
  rw[if_neg c2]at h;obtain⟨⟨c,n⟩,h1,h⟩:=Option.bind_eq_some_iff.1 h;obtain⟨v,h2,rfl⟩:=Option.map_eq_some_iff.1 h;show Lib.validD (Lib.encodeRune c++v)=true;rw[jkc (jri h1)];exact zef f _ _ _ h2
theorem jrj{l r:List UInt8}(h:qgi l=some r):Lib.validD r=true:=by
 unfold qgi at h;by_cases c1:l=[43]
 ·rw[if_pos c1]at h; cases h; rw[c1]; decide
 rw[if_neg c1]at h;by_cases c2:l=[45]
 ·rw[if_pos c2]at h; cases h; rw[c2]; decide
 rw[if_neg c2]at h;by_cases c3:l=[46,46,46]
 ·rw[if_pos c3]at h; cases h; rw[c3]; decide
 rw[if_neg c3]at h;by_cases c4:Lib.hasPrefix l [45,62]=true
 ·rw[if_pos c4]at h;obtain⟨v,h2,rfl⟩:=Option.map_eq_some_iff.1 h;show Lib.validD (45::62::v)=true;rw[Lib.validD_cons _ _ (by decide),Lib.validD_cons _ _ (by decide)];exact zef _ _ _ _ h2
 rw[if_neg c4]at h;exact zef _ _ _ _ h
theorem xch{l:List UInt8}{c:Int}(h:chI l=some c):xl c=true:=by
 unfold chI at h;by_cases c1:((((Lib.runeCount (tx l):Nat):Int))==1)=true
 ·rw[if_pos c1]at h; cases h; exact qyf l
 rw[if_neg c1]at h;by_cases c2:(yz l).isSome=true
 ·rw[if_pos c2]at h; cases h; exact jee l
 rw[if_neg c2]at h;by_cases c3:Lib.hasPrefix l [120]=true
 ·rw[if_pos c3]at h;obtain⟨v,h2,rfl⟩:=Option.map_eq_some_iff.1 h;exact jkd h2
 ·rw[if_neg c3]at h; cases h
theorem qbb{k n:Int}{s:ByteArray}(h:ku k n Q6.zero s 0 0=true):jo zg (lfT k n s)=true:=by
 show(zg (lfT k n s)&&ky zg [])=true;rw[show zg (lfT k n s)=true from h];rfl
theorem zla{k:Int}(hk:k=5∨k=6){l:List UInt8}(h:Lib.validD l=true):jo zg (lfT k 0 (tx l))=true:=by
 refine qbb ?_;have ho:okS (tx l)=true:=by unfold okS; rw[xv]; exact h
 rcases hk with rfl | rfl
 ·show(okS (tx l)&&_)=true;rw[ho]; decide
 ·show(okS (tx l)&&_)=true;rw[ho]; decide
theorem jac{W:List UInt8}{t:Tr}(h:qcf W=some (t,false)):jo zg t=true:=by
 unfold qcf at h;by_cases c1:W=[35,116]
 ·rw[if_pos c1]at h; cases h; exact qbb (by decide)
 rw[if_neg c1]at h;by_cases c2:W=[35,84]
 ·rw[if_pos c2]at h; cases h; exact qbb (by decide)
 rw[if_neg c2]at h;by_cases c3:W=[35,102]
 ·rw[if_pos c3]at h; cases h; exact qbb (by decide)
 rw[if_neg c3]at h;by_cases c4:W=[35,70]
 ·rw[if_pos c4]at h; cases h; exact qbb (by decide)
 rw[if_neg c4]at h;by_cases c5:Lib.hasPrefix W [35,92]=true
 ·rw[if_pos c5]at h;obtain⟨v,h2,e⟩:=Option.map_eq_some_iff.1 h;cases e
  refine qbb ?_;show(xl v&&_)=true;rw[xch h2]; decide
 rw[if_neg c5]at h;by_cases c6:(vf W 10).2=0
 ·rw[if_pos c6]at h;cases h
  show(zg (nuT (vf W 10).1)&&ky zg [])=true;have hs:=jab W 10 c6;rw[show zg (nuT (vf W 10).1)=(jf (vf W 10).1&&qbe 0 false 0 0 false 0 0 ⟨#[]⟩ 0 0)from rfl,hs];decide
 rw[if_neg c6]at h;by_cases c7:(vf W 10).2=4
 ·rw[if_pos c7]at h; cases h
 rw[if_neg c7]at h;obtain⟨v,h2,e⟩:=Option.map_eq_some_iff.1 h;cases e
 exact zla (.inr rfl) (jrj h2)
theorem ue: ∀{ts:List Tr} {z:Tr},ky zg ts=true→jo zg z=true→jo zg (xe ts z)=true
 | [], z, _, h => h
 | t :: ts, z, h1, h => by
  obtain⟨a,b⟩:=Bool.and_eq_true_iff.1 (show(jo zg t&&ky zg ts)=true from h1);show(zg (.mk 8 0 Q6.zero ⟨#[]⟩ [] [t,xe ts z])&&(jo zg t&&(jo zg (xe ts z)&&true)))=true;rw[a,ue b h,show zg (.mk 8 0 Q6.zero ⟨#[]⟩ [] [t,xe ts z])=true from by show ku 8 0 Q6.zero ⟨#[]⟩ 0 2=true; decide];rfl
theorem qjd: jo zg nilT=true:=by
 show(ku 1 0 Q6.zero ⟨#[]⟩ 0 0&&true)=true;decide
theorem qzh: jo zg qnb=true:=qbb (by show ku 6 0 Q6.zero ⟨#[113,117,111,116,101]⟩ 0 0=true; decide +kernel)
theorem qzi{ts:List Tr}(h:ky zg ts=true):jo zg (qvd ts)=true:=by
 show(ku 9 0 Q6.zero ⟨#[]⟩ 0 ts.length&&ky zg ts)=true;rw[h,show ku 9 0 Q6.zero ⟨#[]⟩ 0 ts.length=true from by show qbe 0 false 0 0 false 0 0 ⟨#[]⟩ 0 0=true; decide];rfl
theorem jad(l:List UInt8):jo zg (zra l)=true:=by
 show(ku 7 0 Q6.zero ⟨#[]⟩ l.length 0&&true)=true;rw[show ku 7 0 Q6.zero ⟨#[]⟩ l.length 0=true from by show qbe 0 false 0 0 false 0 0 ⟨#[]⟩ 0 0=true; decide];rfl
theorem qzj: ∀f:Nat,(∀l t n,dat f l=some (t,n,false)→jo zg t=true)∧(∀e l ts n,itm f e l=some (ts,n,false)→ky zg ts=true)∧(∀e h l ts z n,lst f e h l=some (ts,z,n,false)→ky zg ts=true∧jo zg z=true)
 | 0 => ⟨fun l t n h => (by rw [dat] at h; cases h), fun e l ts n h => (by rw [itm] at h; cases h), fun e h l ts z n k => (by rw [lst] at k; cases k)⟩
 | f + 1 => by
  obtain⟨hd,hi,hl⟩:=qzj f;refine⟨fun l t n h=>?_,fun e l ts n h=>?_,fun e hh l ts z n h=>?_⟩
  ·rw[dat]at h;by_cases c1:Lib.hasPrefix l [40]=true
   ·rw[if_pos c1]at h;obtain⟨⟨ts,z,m,b⟩,hx,e⟩:=Option.map_eq_some_iff.1 h;cases e
    exact ue (hl _ _ _ _ _ _ hx).1 (hl _ _ _ _ _ _ hx).2
   rw[if_neg c1]at h;by_cases c2:Lib.hasPrefix l [91]=true
   ·rw[if_pos c2]at h;obtain⟨⟨ts,z,m,b⟩,hx,e⟩:=Option.map_eq_some_iff.1 h;cases e
    exact ue (hl _ _ _ _ _ _ hx).1 (hl _ _ _ _ _ _ hx).2
   rw[if_neg c2]at h;by_cases c3:Lib.hasPrefix l [35,40]=true
   ·rw[if_pos c3]at h;obtain⟨⟨ts,m,b⟩,hx,e⟩:=Option.map_eq_some_iff.1 h;cases e
    exact qzi (hi _ _ _ _ hx)
   rw[if_neg c3]at h;by_cases c4:Lib.hasPrefix l [35,118,117,56,40]=true
   ·rw[if_pos c4]at h;obtain⟨⟨us,m,b⟩,_,h⟩:=Option.bind_eq_some_iff.1 h;obtain⟨y,_,e⟩:=Option.map_eq_some_iff.1 h;cases e
    exact jad y
   rw[if_neg c4]at h;by_cases c5:Lib.hasPrefix l [39]=true
   ·rw[if_pos c5]at h;obtain⟨x,_,h⟩:=Option.bind_eq_some_iff.1 h;obtain⟨⟨y,m,b⟩,hy,e⟩:=Option.map_eq_some_iff.1 h;cases e
    exact ue (by show(jo zg qnb&&(jo zg y&&true))=true; rw[qzh,hd _ _ _ hy]; rfl) qjd
   rw[if_neg c5]at h;by_cases c6:Lib.hasPrefix l [34]=true
   ·rw[if_pos c6]at h;obtain⟨x,hx,e⟩:=Option.map_eq_some_iff.1 h;cases e
    exact zla (.inl rfl) (zwc _ _ _ hx)
   rw[if_neg c6]at h;unfold qga at h;by_cases c7:tkX l=[]
   ·rw[if_pos c7]at h; cases h
   ·rw[if_neg c7]at h;obtain⟨⟨x,b⟩,hx,e⟩:=Option.map_eq_some_iff.1 h;cases e
    exact jac hx
  ·rw[itm]at h;obtain⟨m,_,h⟩:=Option.bind_eq_some_iff.1 h;by_cases c:m.1=true
   ·rw[if_pos c]at h;obtain⟨⟨t,k,b⟩,h1,h⟩:=Option.bind_eq_some_iff.1 h;obtain⟨⟨us,k2,b2⟩,h2,e9⟩:=Option.map_eq_some_iff.1 h;have e2:(b||b2)=false:=(congrArg (fun x=>x.2.2) e9);obtain⟨rfl,rfl⟩:=Bool.or_eq_false_iff.1 e2;have e3:t::us=ts:=congrArg (fun x=>x.1) e9;subst e3;show(jo zg t&&ky zg us)=true;rw[hd _ _ _ h1,hi _ _ _ _ h2]; rfl
   ·rw[if_neg c]at h;cases h; rfl
  ·rw[lst]at h;obtain⟨m,_,h⟩:=Option.bind_eq_some_iff.1 h;by_cases c:m.1=true
   ·rw[if_pos c]at h;by_cases d:qef (l.drop m.2)=true
    ·rw[if_pos d]at h;by_cases k:hh=true
     ·rw[if_pos k]at h; cases h
     rw[if_neg k]at h;obtain⟨b9,_,h⟩:=Option.bind_eq_some_iff.1 h;obtain⟨⟨t,k1,b⟩,h1,h⟩:=Option.bind_eq_some_iff.1 h;obtain⟨k3,_,h⟩:=Option.bind_eq_some_iff.1 h
     split at h
     ·cases h
     ·cases h
      exact⟨rfl,hd _ _ _ h1⟩
    ·rw[if_neg d]at h;obtain⟨⟨t,k1,b⟩,h1,h⟩:=Option.bind_eq_some_iff.1 h;obtain⟨⟨us,z2,k2,b2⟩,h2,e9⟩:=Option.map_eq_some_iff.1 h;have e2:(b||b2)=false:=(congrArg (fun x=>x.2.2.2) e9);obtain⟨rfl,rfl⟩:=Bool.or_eq_false_iff.1 e2;have e3:t::us=ts:=congrArg (fun x=>x.1) e9;have e4:z2=z:=congrArg (fun x=>x.2.1) e9;subst e3 e4;refine⟨?_,(hl _ _ _ _ _ _ h2).2⟩;show(jo zg t&&ky zg us)=true;rw[hd _ _ _ h1,(hl _ _ _ _ _ _ h2).1]; rfl
   ·rw[if_neg c]at h;cases h
    exact⟨rfl,qjd⟩
theorem jke{L:List UInt8}(h:(rdX L).1=0):kf zg (rdX L).2.2=true:=by
 have hl:=zke h;rw[jid (by omega)]at h ⊢;unfold frX at h ⊢;cases hs:skp (2*L.length+1) L with
 | none => rw [hs] at h; cases h
 | some a =>
  rw[hs]at h;simp only at h ⊢;by_cases c:(L.drop a).isEmpty=true
  ·rw[if_pos c]at h; cases h
  rw[if_neg c]at h ⊢;cases hd:dat (2*L.length+1) (L.drop a)with
  | none => rw [hd] at h; cases h
  | some r =>
   rw[hd]at h;simp only at h ⊢;by_cases v:Lib.validD (L.take (a+r.2.1))=true
   ·rw[if_pos v]at h ⊢;by_cases b:r.2.2=true
    ·rw[if_pos b]at h; cases h
    rw[if_neg b]at h ⊢;by_cases ft:(jj 1 20000 r.1).1=true
    ·rw[if_pos ft];show kf zg r.1=true;unfold kf;obtain⟨t,n,b9⟩:=r;have e:b9=false:=(by simpa using b);subst e;rw[show(jj 1 20000 t).1=true from ft,(qzj _).1 _ _ _ hd];rfl
    ·rw[if_neg ft]at h; cases h
   ·rw[if_neg v]at h; cases h
-- the texts of the law
theorem zrf: ∀(n:Nat) (q y:List UInt8),q.length≤n→Lib.validD q=true→Lib.validD (q++y)=Lib.validD y
 | 0, q, y, h, _ => by rw [List.eq_nil_of_length_eq_zero (Nat.le_zero.1 h)]; rfl
 | n + 1, q, y, h, hv => by
  by_cases hq:q=[]
  ·rw[hq]; rfl
  obtain⟨e1,hv1⟩:=kl hv hq y;have hw:=jg hq;have hs:=Lib.validD_step q hq;rw[hv]at hs;rw[Lib.validD_step (q++y) (by simp[hq])];rw[yi hq,yi (by simp[hq])]at e1;rw[yi hq]at hv1 hw;by_cases k:(Lib.decodeL q).1=65533∧(Lib.decodeL q).2=1
  ·rw[if_pos k]at hs; cases hs
  rw[e1,if_neg k,ja hw.2];exact zrf n _ y (by rw[List.length_drop]; omega) hv1
theorem zlb{L:List UInt8}{n:Nat}{T:Tr}(h:rdX L=(0,n,T)):L.length≤65536∧∃a m,skp (2*L.length+1) L=some a∧dat (2*L.length+1) (L.drop a)=some (T,m,false)∧n=a+m∧Lib.validD (L.take n)=true∧(jj 1 20000 T).1=true:=by
 by_cases hl:65536<L.length
 ·rw[show rdX L=(18,0,vt)from if_pos hl]at h; cases h
 rw[show rdX L=frX L from if_neg hl]at h;refine⟨by omega,?_⟩;unfold frX at h;cases hs:skp (2*L.length+1) L with
 | none => rw [hs] at h; cases h
 | some a =>
  rw[hs]at h;simp only at h;by_cases c:(L.drop a).isEmpty=true
  ·rw[if_pos c]at h; cases h
  rw[if_neg c]at h;cases hd:dat (2*L.length+1) (L.drop a)with
  | none => rw [hd] at h; cases h
  | some r =>
   obtain⟨t,m,b⟩:=r;rw[hd]at h;simp only at h;by_cases v:Lib.validD (L.take (a+m))=true
   ·rw[if_pos v]at h;by_cases k:b=true
    ·rw[if_pos k]at h; cases h
    rw[if_neg k]at h;by_cases ft:(jj 1 20000 t).1=true
    ·rw[if_pos ft]at h;cases h
     obtain rfl:b=false:=(by simpa using k);exact⟨a,m,rfl,hd,rfl,v,ft⟩
    ·rw[if_neg ft]at h; cases h
   ·rw[if_neg v]at h; cases h
theorem zeg{f:Nat}{b:UInt8}{l:List UInt8}(h8:b.toNat<128)(hb:C.blankB ((b.toNat:Nat):Int)=false)(h59:b≠59)(h35:b=35→l.head?≠some 124∧l.head?≠some 59):skp (f+1) (b::l)=some 0:=by
 have e:=ya (s:=l) h8;have hp:∀d,l.head?≠some d∨b≠35→¬Lib.hasPrefix (b::l) [35,d]=true:=fun d h k=>by
  obtain⟨r,hr⟩:=List.isPrefixOf_iff_prefix.1 k;injection hr with e1 e2;rcases h with h | h
  ·exact h (by rw[←e2]; rfl)
  ·exact h e1.symm
 rw[skp,e,if_neg (by rw[hb]; decide),if_neg (fun k=>h59 (UInt8.toNat.inj (by
  have:((b.toNat:Nat):Int)=59:=k;show b.toNat=59;omega))),if_neg (hp 124 (by by_cases c:b=35; exact .inl (h35 c).1; exact .inr c)),if_neg (hp 59 (by by_cases c:b=35; exact .inl (h35 c).2; exact .inr c))]
theorem jkf{K:List UInt8}{t:Tr}{k:Nat}(hK:K.length≤65536)(h0:skp (2*K.length+1) K=some 0)(hd:dat (2*K.length+1) K=some (t,k,false))(hv:Lib.validD (K.take k)=true):rdX K=if(jj 1 20000 t).1=true then(0,k,t)else(4,0,vt):=by
 have hne:K≠[]:=(ug hd).2;rw[show rdX K=frX K from if_neg (by omega)];unfold frX;rw[h0];simp only[List.drop_zero,Nat.zero_add];rw[if_neg (fun e=>hne (List.isEmpty_iff.1 e)),hd];simp only;rw[if_pos hv,if_neg Bool.false_ne_true]
theorem jkg{L:List UInt8}{n:Nat}{T:Tr}(h:rdX L=(0,n,T))(hl:L.length≤65532):rdX (39::L)=if(jj 1 20000 (xe [qnb,T] nilT)).1=true then(0,n+1,xe [qnb,T] nilT)else(4,0,vt):=by
 obtain⟨_,a,m,h1,h2,rfl,h4,_⟩:=zlb h;have hlen:(39::L).length=L.length+1:=rfl;refine jkf (by omega) (zeg (by decide) (by decide) (by decide) (fun k=>by cases k)) ?_ ?_
 ·rw[dat,if_neg (fun k=>by cases k),if_neg (fun k=>by cases k),if_neg (fun k=>by cases k),if_neg (fun k=>by cases k),if_pos (show Lib.hasPrefix (39::L) [39]=true from rfl)];show((skp (2*(39::L).length) L).bind fun a=>(dat (2*(39::L).length) (L.drop a)).map _)=_;rw[(yx _ (2*L.length+1)).1 L (by omega) (Nat.le_refl _),h1,Option.bind_some,(yx _ (2*L.length+1)).2.1 (L.drop a) (by rw[List.length_drop]; omega) (by rw[List.length_drop]; omega),h2];show some (xe [qnb,T] nilT,1+a+m,false)=_;rw[show 1+a+m=a+m+1 by omega]
 ·rw[List.take_succ_cons,Lib.validD_cons _ _ (by decide)];exact h4
theorem jkh{L:List UInt8}{n:Nat}{T:Tr}(h:rdX L=(0,n,T))(hn:n≤L.length)(x:List UInt8)(F:Nat)(hF:2*(L.length+x.length+1)+1≤F):∃a m,n=a+m∧1≤m∧skp F (L.take n++32::x)=some a∧(L.take n++32::x).drop a=(L.take n).drop a++32::x∧dat F ((L.take n).drop a++32::x)=some (T,m,false)∧((L.take n).drop a++32::x).drop m=32::x∧Lib.validD (L.take n)=true:=by
 obtain⟨_,a,m,h1,h2,rfl,h4,_⟩:=zlb h;have hp:=(ug h2).1;simp only at hp;have hq:(L.take (a+m)).length=a+m:=by rw[List.length_take]; omega
 have hL:L.take (a+m)++L.drop (a+m)=L:=List.take_append_drop _ _;obtain⟨c1,c2,_,_⟩:=zwa F;have k1:skp F (L.take (a+m)++L.drop (a+m))=some a:=by rw[hL,(yx F (2*L.length+1)).1 L (by omega) (Nat.le_refl _),h1]
 obtain⟨s1,s2⟩:=c1 _ _ x a h4 k1 (by omega);have k2:dat F ((L.take (a+m)).drop a++L.drop (a+m))=some (T,m,false):=by
  rw[←ja (z:=L.drop (a+m)) (by omega),hL,(yx F (2*L.length+1)).2.1 (L.drop a) (by rw[List.length_drop]; omega) (by rw[List.length_drop]; omega),h2]
 obtain⟨d1,d2⟩:=c2 _ _ x T m false s2 k2 (by rw[List.length_drop,hq]; omega);refine⟨a,m,rfl,hp,s1,ja (by omega),d1,?_,h4⟩;rw[List.drop_append,List.drop_of_length_le (by rw[List.length_drop,hq]; omega),List.length_drop,hq,show m-(a+m-a)=0 by omega];rfl
theorem jki{f:Nat}{e:UInt8}(he:e=41∨e=93):moK e [32,e] (skp (f+2) [32,e])=some (false,2):=by
 have h0:skp (f+1) [e]=some 0:=zeg (by rcases he with rfl | rfl<;>decide) (by rcases he with rfl | rfl<;>decide) (by rcases he with rfl | rfl<;>decide) (fun k=>by rcases he with rfl | rfl<;>cases k);have h1:skp (f+2) [32,e]=some 1:=by
  rw[skp,ya (by decide),if_pos (by decide)];show(skp (f+1) [e]).map _=_;rw[h0]; rfl
 rw[h1];unfold moK;rw[Option.bind_some,if_pos (by rcases he with rfl | rfl<;>rfl)]
theorem jua{e:UInt8}{F a m:Nat}{l:List UInt8}{T:Tr}{b:Bool}(he:e=41∨e=93)(hs:skp F l=some a)(hd:dat F (l.drop a)=some (T,m,b)):moK e l (skp F l)=some (true,a):=by
 rw[hs];unfold moK;rw[Option.bind_some,if_neg (fun k=>by rw[jxi he k]at hd; cases hd)]
theorem jsa{L:List UInt8}{n:Nat}{T:Tr}(h:rdX L=(0,n,T))(hn:n≤L.length)(hl:L.length≤65532):rdX (91::(L.take n++[32,93]))=if(jj 1 20000 (xe [T] nilT)).1=true then(0,n+3,xe [T] nilT)else(4,0,vt):=by
 have hlen:(91::(L.take n++[32,93])).length=n+3:=by simp[hn]
 have hlen2:(L.take n++[32,93]).length=n+2:=by simp[hn]
 obtain⟨a,m,rfl,hm,k1,k2,k3,k4,k5⟩:=jkh h hn [93] (2*(L.length+8)) (by simp; omega);have f1:skp (2*(a+m+3)-1) (L.take (a+m)++[32,93])=some a:=by rw[(yx _ (2*(L.length+8))).1 _ (by omega) (by omega)]; exact k1
 have f2:dat (2*(a+m+3)-1) ((L.take (a+m)++[32,93]).drop a)=some (T,m,false):=by rw[(yx _ (2*(L.length+8))).2.1 _ (by rw[List.length_drop]; omega) (by rw[List.length_drop]; omega),k2]; exact k3
 refine jkf (by omega) (zeg (by decide) (by decide) (by decide) (fun k=>by cases k)) ?_ ?_
 ·rw[dat,if_neg (fun k=>by cases k),if_pos (show Lib.hasPrefix (91::(L.take (a+m)++[32,93])) [91]=true from rfl),hlen];show(lst (2*(a+m+3)) 93 true (L.take (a+m)++[32,93])).map _=_;rw[show 2*(a+m+3)=(2*(a+m+3)-1)+1 by omega,lst,jua (.inr rfl) f1 f2,Option.bind_some,if_pos rfl];simp only;rw[if_neg (fun k=>by rw[zvj k]at f2; cases f2),f2,Option.bind_some];simp only;rw[k2,k4,show 2*(a+m+3)-1=(2*(a+m)+2)+2+1 by omega,lst,jki (.inr rfl),Option.bind_some,if_neg Bool.false_ne_true];rfl
 ·rw[List.take_of_length_le (by omega),Lib.validD_cons _ _ (by decide),zrf _ _ _ (Nat.le_refl _) k5];decide +kernel
theorem jyb{L:List UInt8}{n:Nat}{T:Tr}(h:rdX L=(0,n,T))(hn:n≤L.length)(hl:L.length≤65532):rdX (35::40::(L.take n++[32,41]))=if(jj 1 20000 (qvd [T])).1=true then(0,n+4,qvd [T])else(4,0,vt):=by
 have hlen:(35::40::(L.take n++[32,41])).length=n+4:=by simp[hn]
 have hlen2:(L.take n++[32,41]).length=n+2:=by simp[hn]
 obtain⟨a,m,rfl,hm,k1,k2,k3,k4,k5⟩:=jkh h hn [41] (2*(L.length+8)) (by simp; omega);have f1:skp (2*(a+m+4)-1) (L.take (a+m)++[32,41])=some a:=by rw[(yx _ (2*(L.length+8))).1 _ (by omega) (by omega)]; exact k1
 have f2:dat (2*(a+m+4)-1) ((L.take (a+m)++[32,41]).drop a)=some (T,m,false):=by rw[(yx _ (2*(L.length+8))).2.1 _ (by rw[List.length_drop]; omega) (by rw[List.length_drop]; omega),k2]; exact k3
 refine jkf (by omega) (zeg (by decide) (by decide) (by decide) (fun k=>⟨by simp,by simp⟩)) ?_ ?_
 ·rw[dat,if_neg (fun k=>by cases k),if_neg (fun k=>by cases k),if_pos (show Lib.hasPrefix (35::40::(L.take (a+m)++[32,41])) [35,40]=true from rfl),hlen];show(itm (2*(a+m+4)) 41 (L.take (a+m)++[32,41])).map _=_;rw[show 2*(a+m+4)=(2*(a+m+4)-1)+1 by omega,itm,jua (.inl rfl) f1 f2,Option.bind_some,if_pos rfl];simp only;rw[f2,Option.bind_some];simp only;rw[k2,k4,show 2*(a+m+4)-1=(2*(a+m)+4)+2+1 by omega,itm,jki (.inl rfl),Option.bind_some,if_neg Bool.false_ne_true];rfl
 ·rw[List.take_of_length_le (by omega),Lib.validD_cons _ _ (by decide),Lib.validD_cons _ _ (by decide),zrf _ _ _ (Nat.le_refl _) k5];decide +kernel
theorem TrU_is1_21: Is1 Tryz.prog 21:=⟨⟨_,Tryz.underlying21,rfl⟩,by kernel_rfl⟩
theorem TrU_is1_5: Is1 Tryz.prog 5:=⟨⟨_,Tryz.underlying5,rfl⟩,by kernel_rfl⟩
open Go.Lib
theorem qqh{f p:Nat}{l:List UInt8}(hl:l≠[]):yf (f+1) p l=((p:Int),uR (decodeL l).1 (decodeL l).2)::yf f (p+(decodeL l).2) (l.drop (decodeL l).2):=by
 conv=>lhs; unfold yf
 rw[if_neg hl]
theorem qnh{w:World}{so:Option Addr}{l:List UInt8}{i:Nat}(h:Rb w so l)(hi:i<l.length):∃b off,so=some ⟨b,off,none⟩∧b<w.heap.size∧∀j,j<l.length→w.cell? ⟨b,off+j,none⟩=some (.int .u8 (((l.getD j 0).toNat:Nat):Int)):=
 h.pos (fun k=>by rw[k]at hi; exact absurd hi (Nat.not_lt_zero _))
def xm(us:List (Int×Int)):List Value:=us.flatMap fun u=>if u.2=-1 then[.int .i32 0,bV true,iV u.1]else[.int .i32 u.2,bV false,iV u.1]
theorem zeh{x:Int}(i:Nat)(m:Int)(hm:m=((2^i-1:Nat):Int))(hs:m≤255)(h0:0≤x)(h1:x≤255):bits .and .u8 x m=x%((2^i:Nat):Int):=by
 obtain⟨n,rfl⟩:∃n:Nat,x=(n:Int):=⟨x.toNat,by omega⟩;subst hm;have h2:n &&& (2^i-1)=n%2^i:=Nat.and_two_pow_sub_one_eq_mod n i;have e:(BitVec.ofInt IntKind.u8.bits (n:Int) &&& BitVec.ofInt IntKind.u8.bits (((2^i-1:Nat)):Int)).toNat=n%2^i:=by
  rw[←h2,BitVec.ofInt_natCast,BitVec.ofInt_natCast,BitVec.toNat_and,BitVec.toNat_ofNat,BitVec.toNat_ofNat];show n%256 &&& (2^i-1)%256=_;rw[Nat.mod_eq_of_lt (by omega),Nat.mod_eq_of_lt (by omega)]
 show IntKind.u8.wrap ((BitVec.ofInt IntKind.u8.bits (n:Int) &&& BitVec.ofInt IntKind.u8.bits (((2^i-1:Nat)):Int)).toNat:Int)=_;rw[e];have:=Nat.mod_le n (2^i);exact(in_u8 (by omega) (by omega)).trans (Int.natCast_emod n (2^i))
theorem jyc{c x:Int}(h0:0≤c)(h1:c≤33554431)(h2:0≤x)(h3:x≤63):bits .or .i32 (c*64) x=c*64+x:=by
 obtain⟨a,rfl⟩:∃a:Nat,c=(a:Int):=⟨c.toNat,by omega⟩;obtain⟨n,rfl⟩:∃n:Nat,x=(n:Int):=⟨x.toNat,by omega⟩;have:=Nat.two_pow_add_eq_or_of_lt (i:=6) (b:=n) (by omega) a;rw[show(2:Nat)^6=64 from rfl]at this;have e:=jud (64*a) n (by omega) (by omega);rw[show(((64*a:Nat)):Int)=(a:Int)*64 from by omega]at e;rw[e,←this];omega
def qqi(l:List UInt8)(i:Nat):List (Int×Int):=yf (l.length-i) i (l.drop i)
theorem zrg(l:List UInt8):qqi l 0=xb l:=by unfold qqi xb; rw[List.drop_zero,Nat.sub_zero]
theorem zrh{l:List UInt8}{i:Nat}(h:¬i<l.length):qqi l i=[]:=by unfold qqi; rw[show l.length-i=0 from by omega]; rfl
theorem qvi{l:List UInt8}{i r q:Nat}(h:i<l.length)(e:decodeN (l.length-i) (l.getD i 0).toNat (l.getD (i+1) 0).toNat (l.getD (i+2) 0).toNat (l.getD (i+3) 0).toNat=(r,q)):qqi l i=((i:Int),uR r q)::qqi l (i+q):=by
 have hne:l.drop i≠[]:=fun k=>by
  have:=congrArg List.length k;rw[List.length_drop,List.length_nil]at this;omega
 have hd:decodeL (l.drop i)=(r,q):=by
  rw[decodeL_N,qeb,qeb,qeb,qeb,List.length_drop];exact e
 have hw:=yp _ hne;rw[hd,List.length_drop]at hw;simp only at hw;unfold qqi;obtain⟨m,hm⟩:∃m,l.length-i=m+1:=⟨l.length-i-1,by omega⟩;rw[hm,qqh hne,hd,List.drop_drop];simp only;rw[qph m (l.length-(i+q)) _ _ (by rw[List.length_drop]; omega) (by rw[List.length_drop]; omega)]
def LeadU(x n:Nat)(r:Int):Prop:=(x<128∧n=1∧r=x)∨(192≤x∧x<224∧n=2∧r=x%32)∨(224≤x∧x<240∧n=3∧r=x%16)∨(240≤x∧x<248∧n=4∧r=x%8)∨((128≤x∧x<192∨248≤x)∧n=0∧r=0)
def ContU(len i n:Nat)(b1 b2 b3:Nat)(r:Int)(k:Nat)(rk:Int)(ok:Bool):Prop:=(ok=true∧0<n∧i+n≤len∧k≤n∧((k=1∧rk=r)∨(k=2∧b1 / 64=2∧rk=r*64+((b1%64:Nat):Int))∨(k=3∧b1 / 64=2∧b2 / 64=2∧rk=(r*64+((b1%64:Nat):Int))*64+((b2%64:Nat):Int))∨(k=4∧b1 / 64=2∧b2 / 64=2∧b3 / 64=2∧rk=((r*64+((b1%64:Nat):Int))*64+((b2%64:Nat):Int))*64+((b3%64:Nat):Int)))) ∨
 (ok=false∧(¬(0<n∧i+n≤len)∨(1<n∧b1 / 64≠2)∨(2<n∧b2 / 64≠2)∨(3<n∧b3 / 64≠2)))
def qld(n:Nat):Int:=if n=2 then 128 else if n=3 then 2048 else 65536
theorem jkj{n:Nat}(h0:2≤n)(h1:n≤4):([.int .i32 0,.int .i32 0,.int .i32 128,.int .i32 2048,.int .i32 65536]:List Value)[n*1]?=some (.int .i32 (qld n)):=by
 have h:n=2∨n=3∨n=4:=by omega
 rcases h with rfl | rfl | rfl<;>rfl
theorem jyd{x n:Nat}{r:Int}(h:LeadU x n r):n≤4∧0≤r∧r≤127∧(1<n→r≤31):=by unfold LeadU at h; omega
theorem zri{len i n b1 b2 b3:Nat}{r:Int}{ok:Bool}(h:ok=decide (0<n∧i+n≤len)):ContU len i n b1 b2 b3 r 1 r ok:=by
 unfold ContU;by_cases k:0<n∧i+n≤len
 ·exact .inl ⟨by rw[h,decide_eq_true k],k.1,k.2,by omega,.inl ⟨rfl,rfl⟩⟩
 ·exact .inr ⟨by rw[h,decide_eq_false k],.inl k⟩
theorem jae{l:List UInt8}{i n k:Nat}{r rk:Int}(hn:n≤4)(h:ContU l.length i n (l.getD (i+1) 0).toNat (l.getD (i+2) 0).toNat (l.getD (i+3) 0).toNat r k rk true)(hk:k<n):ContU l.length i n (l.getD (i+1) 0).toNat (l.getD (i+2) 0).toNat (l.getD (i+3) 0).toNat r (k+1) (rk*64+(((l.getD (i+k) 0).toNat:Nat):Int)%64) ((((l.getD (i+k) 0).toNat:Nat):Int) / 64==2):=by
 rcases h with⟨_,h1,h2,h3,h4⟩ | ⟨h,_⟩
 ·unfold ContU;have e:k=1∨k=2∨k=3:=by omega
  rcases e with rfl | rfl | rfl
  ·by_cases hb:(((l.getD (i+1) 0).toNat:Nat):Int) / 64=2
   ·exact .inl ⟨beq_iff_eq.2 hb,h1,h2,by omega,by omega⟩
   ·exact .inr ⟨beq_eq_false_iff_ne.2 hb,by omega⟩
  ·by_cases hb:(((l.getD (i+2) 0).toNat:Nat):Int) / 64=2
   ·exact .inl ⟨beq_iff_eq.2 hb,h1,h2,by omega,by omega⟩
   ·exact .inr ⟨beq_eq_false_iff_ne.2 hb,by omega⟩
  ·by_cases hb:(((l.getD (i+3) 0).toNat:Nat):Int) / 64=2
   ·exact .inl ⟨beq_iff_eq.2 hb,h1,h2,by omega,by omega⟩
   ·exact .inr ⟨beq_eq_false_iff_ne.2 hb,by omega⟩
 ·cases h
theorem uz{len i n b1 b2 b3 k:Nat}{r rk:Int}(h:ContU len i n b1 b2 b3 r k rk true):0<n∧i+n≤len∧k≤n∧1≤k∧(0≤r→r≤31→k≤3→0≤rk∧rk≤200000)∧(0≤r→r≤31→0≤rk∧rk≤40000000)∧(k=1→rk=r):=by
 rcases h with⟨_,h1,h2,h3,h4⟩ | ⟨h,_⟩
 ·omega
 ·cases h
def EndU(len i n:Nat)(b0 b1 b2 b3:Nat)(rk:Int)(ok:Bool):Prop:=(ok=true∧decodeN (len-i) b0 b1 b2 b3=(rk.toNat,n)∧uR rk.toNat n=rk∧0≤rk∧1≤n∧i+n≤len)∨(ok=false∧decodeN (len-i) b0 b1 b2 b3=(65533,1))
theorem zrj{len i n b0 b1 b2 b3:Nat}{r rk:Int}(hi:i<len)(h0:b0<256)(hL:LeadU b0 n r)(hC:ContU len i n b1 b2 b3 r n rk true)(h:n=1∨(qld n≤rk∧rk≤1114111∧(rk<55296∨57343<rk))):EndU len i n b0 b1 b2 b3 rk true:=by
 rcases hC with⟨_,h1,h2,h3,h4⟩ | ⟨h,_⟩
 ·unfold LeadU at hL;unfold qld at h;have hn:n=1∨n=2∨n=3∨n=4:=by omega
  refine .inl ⟨rfl,?_,?_,by rcases hn with rfl | rfl | rfl | rfl<;>omega,h1,h2⟩
  ·unfold decodeN;rcases hn with rfl | rfl | rfl | rfl
   ·rw[if_pos (by omega)];exact Prod.ext (by show b0=rk.toNat; omega) rfl
   ·simp only[if_true]at h;rw[if_neg (by omega),if_pos (by omega),if_pos (by omega)];exact Prod.ext (by show(_:Nat)=rk.toNat; omega) rfl
   ·rw[if_neg (show ¬3=2 by decide),if_pos rfl]at h;rw[if_neg (by omega),if_neg (by omega),if_pos (by omega),if_pos (by omega)];exact Prod.ext (by show(_:Nat)=rk.toNat; omega) rfl
   ·rw[if_neg (show ¬4=2 by decide),if_neg (show ¬4=3 by decide)]at h;rw[if_neg (by omega),if_neg (by omega),if_neg (by omega),if_pos (by omega),if_pos (by omega)];exact Prod.ext (by show(_:Nat)=rk.toNat; omega) rfl
  ·unfold uR;rw[if_neg (by rcases hn with rfl | rfl | rfl | rfl<;>omega)];rcases hn with rfl | rfl | rfl | rfl<;>omega
 ·cases h
theorem zei{len i n b0 b1 b2 b3 k:Nat}{r rk:Int}{ok:Bool}(hi:i<len)(h0:b0<256)(hL:LeadU b0 n r)(hC:ContU len i n b1 b2 b3 r k rk ok)(hk:ok=true→k=n)(h:ok=false∨(n≠1∧¬(qld n≤rk∧rk≤1114111∧(rk<55296∨57343<rk)))):EndU len i n b0 b1 b2 b3 rk false:=by
 refine .inr ⟨rfl,?_⟩;unfold LeadU at hL;unfold decodeN;rcases hC with⟨hb,h1,h2,h3,h4⟩ | ⟨hb,h4⟩
 ·have hkn:=hk hb;subst hkn;rcases h with h | ⟨h5,h6⟩
  ·rw[hb]at h; cases h
  ·have hn:k=2∨k=3∨k=4:=(by omega);unfold qld at h6;rcases hn with rfl | rfl | rfl
   ·simp only[if_true]at h6;rw[if_neg (by omega),if_pos (by omega),if_neg (by omega)]
   ·rw[if_neg (show ¬3=2 by decide),if_pos rfl]at h6;rw[if_neg (by omega),if_neg (by omega),if_pos (by omega),if_neg (by omega)]
   ·rw[if_neg (show ¬4=2 by decide),if_neg (show ¬4=3 by decide)]at h6;rw[if_neg (by omega),if_neg (by omega),if_neg (by omega),if_pos (by omega),if_neg (by omega)]
 ·rw[if_neg (by omega),if_neg (by omega),if_neg (by omega),if_neg (by omega)]
theorem jaf{w:World}{so:Option Addr}{cap:Nat}{l:List UInt8}(hb:Rb w so l)(hlen:l.length≤4000000):Calls Tryz.prog 101 #[.slice so l.length cap] w fun e w'=>∃v,e=.returned v∧Mg w w' [.row 98 3 v (xb l).length (xm (xb l))]:=by
 have M:Mg w w ([]):=Mg.start w;refine qn (l:=[(0,.slice so l.length cap)]) Tryz.func101 rfl Tryz.ntmps101 rfl rfl ?_;intro Q hret hnorm hP a A;refine wsk fun K1 hK1=>wrl (sda A λa A=>?_);refine qa (hK1 _ _ (wsk fun K2 hK2=>wrl (qca (e:=98) (sz:=3) (m:=0) (vs:=[]) A M rfl rfl rfl (zp rfl (by kernel_rfl)) rfl rfl (.inl (by decide)) ?_)));intro g3 w4 M a A;refine sda A λa A=>?_;refine qa (hK2 _ _ (wsk fun K5 hK5=>wsk fun K6 hK6=>wrl (sda A λa A=>?_)));refine qa (hK6 _ _ (wp_block (jd (fun m_ a w1=>∃(i:Nat) (acc:List (Int×Int)) (vo:Value),m_=l.length-i∧(acc++qqi l i=xb l∧i≤l.length∧acc.length≤i)∧Sl a 122 [(0,.slice so l.length cap),(2,.slice none 0 0),(3,vo),(4,iV (((i:Nat):Int))),(12,.slice (aO g3) 0 0)]∧Mg w w1 (.row 98 3 (vo) acc.length ((xm acc))::[])) _ ⟨0,[],.slice (aO g3) 0 0,rfl,⟨by rw[zrg]; rfl,Nat.zero_le _,Nat.le_refl _⟩,A.keep _ ⟨rfl,rfl,rfl,rfl,rfl,trivial⟩,M⟩ ?_)));clear M A;rintro m_ a w7 ⟨i,acc,vo,rfl,hinv9,A,M⟩ K8 hK8;obtain⟨hrun,hi9,hacc⟩:=hinv9;refine wsk fun K10 hK10=>wsk fun K11 hK11=>wrl ?_;iterate 2 refine sdm A λa A=>?_
 refine sdo A (zh Tryz.underlying27 rfl) λa A=>?_;rcases tf (decide (((i:Nat):Int)<((l.length:Nat):Int)))with hb12 | hb12
 ·have hb12':=of_decide_eq_true hb12;refine sdc A zs hb12 λa A=>?_;refine qa (hK11 _ _ (ct A ?_));refine wp_skip (hK10 _ _ (wp_block (wsk fun K13 hK13=>wrl ?_)));iterate 2 refine sda A λa A=>?_
  refine qa (hK13 _ _ (wsk fun K14 hK14=>?_));have hi8:i<l.length:=by omega
  refine wrl ?_;iterate 2 refine sdm A λa A=>?_
  obtain⟨bx,ox,hx1,hx2,hx3⟩:=qnh (i:=i) hb (by omega);have hu9:=(l.getD (i) 0).toNat_lt;refine sdo (v:=pA bx (ox+(i))) A (zy (k:=i) Tryz.underlying27 (by kernel_rfl) rfl rfl rfl hx1 (by omega)) λa A=>?_;refine sdo (v:=.int .u8 ((((l.getD i 0).toNat:Nat):Int))) A (qrb M hx2 (hx3 (i) (by omega)) TrU_is1_5 rfl) λa A=>?_;refine sda A λa A=>?_;refine qa (hK14 _ _ (wsk fun K15 hK15=>?_));have hJ16:∀a w1,(∃(n:Nat) (r:Int),(LeadU (l.getD i 0).toNat n r)∧Sl a 122 [(0,.slice so l.length cap),(2,.slice none 0 0),(3,vo),(4,iV (((i:Nat):Int))),(5,iV (((n:Nat):Int))),(6,.int .i32 r),(12,.slice (aO g3) 0 0),(13,iV (((i:Nat):Int))),(14,.slice so l.length cap),(15,iV (((l.length:Nat):Int))),(16,bV true),(17,.slice so l.length cap),(18,iV (((i:Nat):Int))),(19,pA bx (ox+(i))),(20,.int .u8 ((((l.getD i 0).toNat:Nat):Int)))]∧Mg w w1 (.row 98 3 (vo) acc.length ((xm acc))::[]))→K15 a w1:=by
   clear A M;rintro a w17 ⟨n,r,hf18,A,M⟩;have hL:=hf18;have hn4:=jyd hL;refine hK15 _ _ (wsk fun K19 hK19=>?_);have hJ20:∀a w1,(∃(ok:Bool),(ok=decide (0<n∧i+n≤l.length))∧Sl a 122 [(0,.slice so l.length cap),(2,.slice none 0 0),(3,vo),(4,iV (((i:Nat):Int))),(5,iV (((n:Nat):Int))),(6,.int .i32 r),(8,bV ok),(12,.slice (aO g3) 0 0),(13,iV (((i:Nat):Int))),(14,.slice so l.length cap),(15,iV (((l.length:Nat):Int))),(16,bV true),(17,.slice so l.length cap),(18,iV (((i:Nat):Int))),(19,pA bx (ox+(i))),(20,.int .u8 ((((l.getD i 0).toNat:Nat):Int)))]∧Mg w w1 (.row 98 3 (vo) acc.length ((xm acc))::[]))→K19 a w1:=by
    clear A M;rintro a w21 ⟨ok,hf22,A,M⟩;have hok:=hf22;refine hK19 _ _ (wsk fun K23 hK23=>?_);have hJ24:∀a w1,(∃(k:Nat) (rk:Int) (ok3:Bool),(ContU l.length i n (l.getD (i+1) 0).toNat (l.getD (i+2) 0).toNat (l.getD (i+3) 0).toNat r k rk ok3∧(ok3=true→k=n))∧Sl a 122 [(0,.slice so l.length cap),(2,.slice none 0 0),(3,vo),(4,iV (((i:Nat):Int))),(5,iV (((n:Nat):Int))),(6,.int .i32 rk),(8,bV ok3),(12,.slice (aO g3) 0 0),(13,iV (((i:Nat):Int))),(14,.slice so l.length cap),(15,iV (((l.length:Nat):Int))),(16,bV true),(17,.slice so l.length cap),(18,iV (((i:Nat):Int))),(19,pA bx (ox+(i))),(20,.int .u8 ((((l.getD i 0).toNat:Nat):Int)))]∧Mg w w1 (.row 98 3 (vo) acc.length ((xm acc))::[]))→K23 a w1:=by
     clear A M;rintro a w25 ⟨k,rk,ok3,hf26,A,M⟩;obtain⟨hC,hkn⟩:=hf26;refine hK23 _ _ (wsk fun K27 hK27=>?_);have hJ28:∀a w1,(∃(ok4:Bool),(EndU l.length i n (l.getD i 0).toNat (l.getD (i+1) 0).toNat (l.getD (i+2) 0).toNat (l.getD (i+3) 0).toNat rk ok4)∧Sl a 122 [(0,.slice so l.length cap),(2,.slice none 0 0),(3,vo),(4,iV (((i:Nat):Int))),(5,iV (((n:Nat):Int))),(6,.int .i32 rk),(8,bV ok4),(12,.slice (aO g3) 0 0),(13,iV (((i:Nat):Int))),(14,.slice so l.length cap),(15,iV (((l.length:Nat):Int))),(16,bV true),(17,.slice so l.length cap),(18,iV (((i:Nat):Int))),(19,pA bx (ox+(i))),(20,.int .u8 ((((l.getD i 0).toNat:Nat):Int)))]∧Mg w w1 (.row 98 3 (vo) acc.length ((xm acc))::[]))→K27 a w1:=by
      clear A M;rintro a w29 ⟨ok4,hf30,A,M⟩;have hE:=hf30;refine hK27 _ _ (wsk fun K31 hK31=>wrl (sdm A λa A=>?_));refine qa (hK31 _ _ ?_);refine wp_cond_split (t:=ok4) (A.ev rfl) (fun hc32=>?_) (fun hc32=>?_)
      ·refine wsk fun K33 hK33=>wrl ?_;iterate 3 refine sdm A λa A=>?_
       refine sdo (v:=.agg #[.int .i32 rk,bV false,iV (((i:Nat):Int))]) A (qs rfl (fun w=>by kernel_rfl)) λa A=>?_;refine qca (e:=98) (sz:=3) (m:=1) (vs:=[.int .i32 rk,bV false,iV (((i:Nat):Int))]) A M rfl rfl rfl (zp rfl (by kernel_rfl)) rfl rfl (.inl (by decide)) ?_;intro g34 w35 M a A;refine qxh (e:=98) (sz:=3) (k:=1) (q:=acc.length) (m:=1) (xs:=(xm acc)) (news:=[.int .i32 rk,bV false,iV (((i:Nat):Int))]) (L':=fun v36=>(.row 98 3 (.slice (aO g34) 1 1) 1 ([.int .i32 rk,bV false,iV (((i:Nat):Int))])::.row 98 3 (v36) (acc.length+1) ((xm acc)++[.int .i32 rk,bV false,iV (((i:Nat):Int))])::[])) A rfl rfl rfl (qxg (z:=.agg #[.int .i32 0,bV false,iV 0]) (sz:=3) (by_:=16) Tryz.underlying95 (by kernel_rfl) rfl rfl rfl M 1 rfl rfl 0 rfl rfl rfl rfl (by omega)) (fun _=>rfl) ?_;intro v36 w37 M a A;refine sda A λa A=>?_;refine qa (hK33 _ _ (wrl ?_));iterate 2 refine sdm A λa A=>?_
       refine sdo (v:=iV (((i+n:Nat):Int))) A (qb rfl rfl (ar_add ((in_i64 (by omega) (by omega)).trans (by omega)))) λa A=>?_;refine sda A λa A=>?_;refine qa ?_;obtain⟨hd,hr9,hrk,hn1,hn2⟩:decodeN (l.length-i) (l.getD i 0).toNat (l.getD (i+1) 0).toNat (l.getD (i+2) 0).toNat (l.getD (i+3) 0).toNat=(rk.toNat,n)∧uR rk.toNat n=rk∧0≤rk∧1≤n∧i+n≤l.length:=by
        rcases hE with⟨_,h⟩ | ⟨h,_⟩
        ·exact h
        ·rw[hc32]at h; cases h
       have hs9:=qvi hi8 hd;rw[hr9]at hs9;replace M:Mg w w37 [.row 98 3 v36 (acc++[((i:Int),rk)]).length (xm (acc++[((i:Int),rk)]))]:=by
        have h9:=M.sub (cN (cC (.refl _)));have e9:xm (acc++[((i:Int),rk)])=xm acc++[.int .i32 rk,bV false,iV (((i:Nat):Int))]:=by
         unfold xm;rw[List.flatMap_append,List.flatMap_singleton];rw[if_neg (show ¬_=(-1:Int)by simp only; omega)]
        rw[e9,List.length_append];exact h9
       refine hK8 _ _ _ (by omega) ⟨i+n,acc++[((i:Int),rk)],v36,rfl,⟨by rw[←hrun,hs9,List.append_assoc]; rfl,by omega,by rw[List.length_append]; simp only[List.length_cons,List.length_nil]; omega⟩,A.keep _ ⟨rfl,rfl,rfl,rfl,rfl,trivial⟩,M⟩
      ·refine wsk fun K38 hK38=>wrl ?_;iterate 2 refine sdm A λa A=>?_
       refine sdo (v:=.agg #[.int .i32 0,bV true,iV (((i:Nat):Int))]) A (qs rfl (fun w=>by kernel_rfl)) λa A=>?_;refine qca (e:=98) (sz:=3) (m:=1) (vs:=[.int .i32 0,bV true,iV (((i:Nat):Int))]) A M rfl rfl rfl (zp rfl (by kernel_rfl)) rfl rfl (.inl (by decide)) ?_;intro g39 w40 M a A;refine qxh (e:=98) (sz:=3) (k:=1) (q:=acc.length) (m:=1) (xs:=(xm acc)) (news:=[.int .i32 0,bV true,iV (((i:Nat):Int))]) (L':=fun v41=>(.row 98 3 (.slice (aO g39) 1 1) 1 ([.int .i32 0,bV true,iV (((i:Nat):Int))])::.row 98 3 (v41) (acc.length+1) ((xm acc)++[.int .i32 0,bV true,iV (((i:Nat):Int))])::[])) A rfl rfl rfl (qxg (z:=.agg #[.int .i32 0,bV false,iV 0]) (sz:=3) (by_:=16) Tryz.underlying95 (by kernel_rfl) rfl rfl rfl M 1 rfl rfl 0 rfl rfl rfl rfl (by omega)) (fun _=>rfl) ?_;intro v41 w42 M a A;refine sda A λa A=>?_;refine qa (hK38 _ _ (wrl (sdm A λa A=>?_)));refine sdo (v:=iV (((i+1:Nat):Int))) A (qb rfl rfl (ar_add ((in_i64 (by omega) (by omega)).trans (by omega)))) λa A=>?_;refine sda A λa A=>?_;refine qa ?_;have hd:decodeN (l.length-i) (l.getD i 0).toNat (l.getD (i+1) 0).toNat (l.getD (i+2) 0).toNat (l.getD (i+3) 0).toNat=(65533,1):=by
        rcases hE with⟨h,_⟩ | ⟨_,h⟩
        ·rw[hc32]at h; cases h
        ·exact h
       have hr9:uR 65533 1=-1:=(by unfold uR; rw[if_pos ⟨rfl,by decide⟩]);have hs9:=qvi hi8 hd;rw[hr9]at hs9;replace M:Mg w w42 [.row 98 3 v41 (acc++[((i:Int),(-1))]).length (xm (acc++[((i:Int),(-1))]))]:=by
        have h9:=M.sub (cN (cC (.refl _)));have e9:xm (acc++[((i:Int),(-1))])=xm acc++[.int .i32 0,bV true,iV (((i:Nat):Int))]:=by
         unfold xm;rw[List.flatMap_append,List.flatMap_singleton];rw[if_pos rfl]
        rw[e9,List.length_append];exact h9
       refine hK8 _ _ _ (by omega) ⟨i+1,acc++[((i:Int),(-1))],v41,rfl,⟨by rw[←hrun,hs9,List.append_assoc]; rfl,by omega,by rw[List.length_append]; simp only[List.length_cons,List.length_nil]; omega⟩,A.keep _ ⟨rfl,rfl,rfl,rfl,rfl,trivial⟩,M⟩
     refine wsk fun K43 hK43=>wrl ?_;iterate 2 refine sdm A λa A=>?_
     rcases ok3 with _ | _
     ·iterate 2 refine qf A rfl rfl rfl λa A=>?_
      refine sdk (v:=bV false) A λa A=>?_;refine qa (hK43 _ _ (cf A ?_));refine wp_skip ?_;replace M:Mg w w25 (.row 98 3 (vo) acc.length ((xm acc))::[]):=by
       have h9:=M.sub (cC (.refl _));exact h9
      exact hJ28 _ _ ⟨false,zei hi8 ((l.getD i 0).toNat_lt) hL hC hkn (.inl rfl),A.keep _ (by repeat' constructor),M⟩
     ·refine sdm A λa A=>?_;rcases tf (decide (1<((n:Nat):Int)))with hb44 | hb44
      ·have hb44':=of_decide_eq_true hb44;refine sdc A zn hb44 λa A=>?_;refine sdk (v:=bV true) A λa A=>?_;refine qa (hK43 _ _ (ct A ?_));refine wsk fun K45 hK45=>wrl (qca (e:=21) (sz:=1) (m:=5) (vs:=[.int .i32 0,.int .i32 0,.int .i32 128,.int .i32 2048,.int .i32 65536]) A M rfl rfl rfl (zp rfl (by kernel_rfl)) rfl rfl (.inl (by decide)) ?_);intro g46 w47 M a A;refine sda A λa A=>?_;refine qa (hK45 _ _ ?_);have hc9:=uz hC;refine wrl ?_;iterate 3 refine sdm A λa A=>?_
       refine sdo (v:=pA g46 (n*1)) A (qpi (k:=n) Tryz.underlying150 (by kernel_rfl) rfl rfl rfl (by omega)) λa A=>?_;refine sdo (v:=.int .i32 (qld n)) A (zsj M 0 rfl (jkj (by omega) (by omega)) TrU_is1_21 rfl) λa A=>?_;rcases tf (decide (qld n≤rk))with hb48 | hb48
       ·have hb48':=of_decide_eq_true hb48;refine sdc A jc hb48 λa A=>?_;iterate 2 refine sdm A λa A=>?_
        rcases tf (decide (rk≤1114111))with hb49 | hb49
        ·have hb49':=of_decide_eq_true hb49;refine sdc A jh hb49 λa A=>?_;refine sdk (v:=bV true) A λa A=>?_;iterate 2 refine sdm A λa A=>?_
         rcases tf (decide (rk<55296))with hb50 | hb50
         ·have hb50':=of_decide_eq_true hb50;refine sdc A zs hb50 λa A=>?_;refine sdm A λa A=>?_;iterate 2 refine qf A rfl rfl rfl λa A=>?_
          iterate 2 refine sdk (v:=bV true) A λa A=>?_
          refine sda A λa A=>?_;refine qa ?_;replace M:Mg w w47 (.row 98 3 (vo) acc.length ((xm acc))::[]):=by
           have h9:=M.sub (cN (cC (.refl _)));exact h9
          have hc8:=uz hC;exact hJ28 _ _ ⟨true,zrj hi8 ((l.getD i 0).toNat_lt) hL (hkn rfl▸hC) (by omega),A.keep _ (by repeat' constructor),M⟩
         ·have hb50':=of_decide_eq_false hb50;refine sdc A zs hb50 λa A=>?_;iterate 2 refine sdm A λa A=>?_
          rcases tf (decide (57343<rk))with hb51 | hb51
          ·have hb51':=of_decide_eq_true hb51;refine sdc A zn hb51 λa A=>?_;iterate 2 refine sdk (v:=bV true) A λa A=>?_
           refine sda A λa A=>?_;refine qa ?_;replace M:Mg w w47 (.row 98 3 (vo) acc.length ((xm acc))::[]):=by
            have h9:=M.sub (cN (cC (.refl _)));exact h9
           have hc8:=uz hC;exact hJ28 _ _ ⟨true,zrj hi8 ((l.getD i 0).toNat_lt) hL (hkn rfl▸hC) (by omega),A.keep _ (by repeat' constructor),M⟩
          ·have hb51':=of_decide_eq_false hb51;refine sdc A zn hb51 λa A=>?_;iterate 2 refine sdk (v:=bV false) A λa A=>?_
           refine sda A λa A=>?_;refine qa ?_;replace M:Mg w w47 (.row 98 3 (vo) acc.length ((xm acc))::[]):=by
            have h9:=M.sub (cN (cC (.refl _)));exact h9
           have hc8:=uz hC;exact hJ28 _ _ ⟨false,zei hi8 ((l.getD i 0).toNat_lt) hL hC hkn (.inr ⟨by omega,by omega⟩),A.keep _ (by repeat' constructor),M⟩
        ·have hb49':=of_decide_eq_false hb49;refine sdc A jh hb49 λa A=>?_;refine sdk (v:=bV false) A λa A=>?_;refine sdm A λa A=>?_;iterate 3 refine qf A rfl rfl rfl λa A=>?_
         iterate 2 refine xx A rfl rfl rfl λa A=>?_
         refine qf A rfl rfl rfl λa A=>?_;refine sdk (v:=bV false) A λa A=>?_;refine sda A λa A=>?_;refine qa ?_;replace M:Mg w w47 (.row 98 3 (vo) acc.length ((xm acc))::[]):=by
          have h9:=M.sub (cN (cC (.refl _)));exact h9
         have hc8:=uz hC;exact hJ28 _ _ ⟨false,zei hi8 ((l.getD i 0).toNat_lt) hL hC hkn (.inr ⟨by omega,by omega⟩),A.keep _ (by repeat' constructor),M⟩
       ·have hb48':=of_decide_eq_false hb48;refine sdc A jc hb48 λa A=>?_;refine sdm A λa A=>?_;iterate 2 refine qf A rfl rfl rfl λa A=>?_
        refine sdk (v:=bV false) A λa A=>?_;refine sdm A λa A=>?_;iterate 3 refine qf A rfl rfl rfl λa A=>?_
        iterate 2 refine xx A rfl rfl rfl λa A=>?_
        refine qf A rfl rfl rfl λa A=>?_;refine sdk (v:=bV false) A λa A=>?_;refine sda A λa A=>?_;refine qa ?_;replace M:Mg w w47 (.row 98 3 (vo) acc.length ((xm acc))::[]):=by
         have h9:=M.sub (cN (cC (.refl _)));exact h9
        have hc8:=uz hC;exact hJ28 _ _ ⟨false,zei hi8 ((l.getD i 0).toNat_lt) hL hC hkn (.inr ⟨by omega,by omega⟩),A.keep _ (by repeat' constructor),M⟩
      ·have hb44':=of_decide_eq_false hb44;refine sdc A zn hb44 λa A=>?_;refine sdk (v:=bV false) A λa A=>?_;refine qa (hK43 _ _ (cf A ?_));refine wp_skip ?_;replace M:Mg w w25 (.row 98 3 (vo) acc.length ((xm acc))::[]):=by
        have h9:=M.sub (cC (.refl _));exact h9
       have hc8:=uz hC;exact hJ28 _ _ ⟨true,zrj hi8 ((l.getD i 0).toNat_lt) hL (hkn rfl▸hC) (by omega),A.keep _ (by repeat' constructor),M⟩
    refine wsk fun K52 hK52=>wrl (sda A λa A=>?_);refine qa (hK52 _ _ (wp_block (jd (fun m_ a w1=>∃(k:Nat) (rk:Int) (ok2:Bool),m_=5-k∧(ContU l.length i n (l.getD (i+1) 0).toNat (l.getD (i+2) 0).toNat (l.getD (i+3) 0).toNat r k rk ok2)∧Sl a 122 [(0,.slice so l.length cap),(2,.slice none 0 0),(3,vo),(4,iV (((i:Nat):Int))),(5,iV (((n:Nat):Int))),(6,.int .i32 rk),(8,bV ok2),(9,iV (((k:Nat):Int))),(12,.slice (aO g3) 0 0),(13,iV (((i:Nat):Int))),(14,.slice so l.length cap),(15,iV (((l.length:Nat):Int))),(16,bV true),(17,.slice so l.length cap),(18,iV (((i:Nat):Int))),(19,pA bx (ox+(i))),(20,.int .u8 ((((l.getD i 0).toNat:Nat):Int)))]∧Mg w w1 (.row 98 3 (vo) acc.length ((xm acc))::[])) _ ⟨1,r,ok,rfl,zri hok,A.keep _ (by repeat' constructor),M⟩ ?_)));clear M A;rintro m_ a w53 ⟨k,rk,ok2,rfl,hinv55,A,M⟩ K54 hK54;have hC:=hinv55;refine wsk fun K56 hK56=>wsk fun K57 hK57=>wrl ?_;iterate 2 refine sdm A λa A=>?_
    rcases ok2 with _ | _
    ·iterate 3 refine qf A rfl rfl rfl λa A=>?_
     refine sdk (v:=bV false) A λa A=>?_;refine qa (hK57 _ _ (cf A ?_));refine wp_exit ?_;exact hJ24 _ _ ⟨k,rk,false,⟨hC,fun h=>by cases h⟩,A.keep _ (by repeat' constructor),M⟩
    ·iterate 2 refine sdm A λa A=>?_
     rcases tf (decide (((k:Nat):Int)<((n:Nat):Int)))with hb58 | hb58
     ·have hb58':=of_decide_eq_true hb58;refine sdc A zs hb58 λa A=>?_;refine sdk (v:=bV true) A λa A=>?_;refine qa (hK57 _ _ (ct A ?_));refine wp_skip (hK56 _ _ (wsk fun K59 hK59=>wp_block (wsk fun K60 hK60=>?_)));have hc9:=uz hC;refine wrl ?_;iterate 3 refine sdm A λa A=>?_
      refine sdo (v:=iV (((i+k:Nat):Int))) A (qb rfl rfl (ar_add ((in_i64 (by omega) (by omega)).trans (by omega)))) λa A=>?_;obtain⟨bx,ox,hx1,hx2,hx3⟩:=qnh (i:=i+k) hb (by omega);have hu9:=(l.getD (i+k) 0).toNat_lt;refine sdo (v:=pA bx (ox+(i+k))) A (zy (k:=i+k) Tryz.underlying27 (by kernel_rfl) rfl rfl rfl hx1 (by omega)) λa A=>?_;refine sdo (v:=.int .u8 ((((l.getD (i+k) 0).toNat:Nat):Int))) A (qrb M hx2 (hx3 (i+k) (by omega)) TrU_is1_5 rfl) λa A=>?_;refine sda A λa A=>?_;refine qa (hK60 _ _ (wsk fun K61 hK61=>wrl (sdm A λa A=>?_)));refine sdo (v:=.int .u8 (((((l.getD (i+k) 0).toNat:Nat):Int)) / 64)) A (qb rfl rfl (ar_shr (n:=6) rfl rfl rfl)) λa A=>?_;refine sdo (v:=bV ((((((l.getD (i+k) 0).toNat:Nat):Int)) / 64==2))) A (qb rfl rfl qg) λa A=>?_;refine sda A λa A=>?_;refine qa (hK61 _ _ (wrl (sdm A λa A=>?_)));refine sdo (v:=.int .i32 (rk*64)) A (qb rfl rfl (ar_shl (n:=6) rfl rfl (in_i32 (by omega) (by omega)))) λa A=>?_;refine sdm A λa A=>?_;refine sdo (v:=.int .u8 (((((l.getD (i+k) 0).toNat:Nat):Int))%64)) A (qb rfl rfl (ar_and (zeh 6 63 rfl (by decide) (by omega) (by omega)))) λa A=>?_;refine sdo (v:=.int .i32 (((((l.getD (i+k) 0).toNat:Nat):Int))%64)) A (zt rfl (ar_conv Tryz.underlying5 Tryz.underlying21 (in_i32 (by omega) (by omega)))) λa A=>?_;refine sdo (v:=.int .i32 (rk*64+(((((l.getD (i+k) 0).toNat:Nat):Int))%64))) A (qb rfl rfl (ar_or (jyc (by omega) (by omega) (by omega) (by omega)))) λa A=>?_;refine sda A λa A=>?_;refine qa (hK59 _ _ (wrl (sdm A λa A=>?_)));refine sdo (v:=iV (((k+1:Nat):Int))) A (qb rfl rfl (ar_add ((in_i64 (by omega) (by omega)).trans (by omega)))) λa A=>?_;refine sda A λa A=>?_;refine qa ?_;refine hK54 _ _ _ (by omega) ⟨k+1,rk*64+(((((l.getD (i+k) 0).toNat:Nat):Int))%64),(((((l.getD (i+k) 0).toNat:Nat):Int)) / 64==2),rfl,jae (by omega) hC (by omega),A.keep _ (by repeat' constructor),M⟩
     ·have hb58':=of_decide_eq_false hb58;refine sdc A zs hb58 λa A=>?_;refine sdk (v:=bV false) A λa A=>?_;refine qa (hK57 _ _ (cf A ?_));refine wp_exit ?_;exact hJ24 _ _ ⟨k,rk,true,⟨hC,fun _=>by have:=uz hC; omega⟩,A.keep _ (by repeat' constructor),M⟩
   refine wrl (sdm A λa A=>?_);rcases tf (decide (0<((n:Nat):Int)))with hb62 | hb62
   ·have hb62':=of_decide_eq_true hb62;refine sdc A zn hb62 λa A=>?_;iterate 3 refine sdm A λa A=>?_
    refine sdo (v:=iV (((i+n:Nat):Int))) A (qb rfl rfl (ar_add ((in_i64 (by omega) (by omega)).trans (by omega)))) λa A=>?_;refine sdm A λa A=>?_;refine sdo A (zh Tryz.underlying27 rfl) λa A=>?_;rcases tf (decide (((i+n:Nat):Int)≤((l.length:Nat):Int)))with hb63 | hb63
    ·have hb63':=of_decide_eq_true hb63;refine sdc A jh hb63 λa A=>?_;refine sdk (v:=bV true) A λa A=>?_;refine sda A λa A=>?_;refine qa ?_;exact hJ20 _ _ ⟨true,(decide_eq_true (by omega)).symm,A.keep _ (by repeat' constructor),M⟩
    ·have hb63':=of_decide_eq_false hb63;refine sdc A jh hb63 λa A=>?_;refine sdk (v:=bV false) A λa A=>?_;refine sda A λa A=>?_;refine qa ?_;exact hJ20 _ _ ⟨false,(decide_eq_false (by omega)).symm,A.keep _ (by repeat' constructor),M⟩
   ·have hb62':=of_decide_eq_false hb62;refine sdc A zn hb62 λa A=>?_;refine sdm A λa A=>?_;iterate 6 refine qf A rfl rfl rfl λa A=>?_
    refine sdk (v:=bV false) A λa A=>?_;refine sda A λa A=>?_;refine qa ?_;exact hJ20 _ _ ⟨false,(decide_eq_false (by omega)).symm,A.keep _ (by repeat' constructor),M⟩
  refine wp_block (wsk fun K64 hK64=>wrl (sdm A λa A=>?_));rcases tf (decide ((((l.getD i 0).toNat:Nat):Int)<128))with hb65 | hb65
  ·have hb65':=of_decide_eq_true hb65;refine sdc A zs hb65 λa A=>?_;refine sda A λa A=>?_;refine qa (hK64 _ _ (ct A ?_));refine wrl (sdm A λa A=>?_);refine sdo (v:=.int .i32 ((((l.getD i 0).toNat:Nat):Int))) A (zt rfl (ar_conv Tryz.underlying5 Tryz.underlying21 (in_i32 (by omega) (by omega)))) λa A=>?_;iterate 2 refine sda A λa A=>?_
   refine qa ?_;exact hJ16 _ _ ⟨1,(((l.getD i 0).toNat:Nat):Int),(by unfold LeadU; omega),A.keep _ (by repeat' constructor),M⟩
  ·have hb65':=of_decide_eq_false hb65;refine sdc A zs hb65 λa A=>?_;refine sda A λa A=>?_;refine qa (hK64 _ _ (cf A ?_));refine wsk fun K66 hK66=>wrl (sdm A λa A=>?_);refine sdo (v:=.int .u8 (((((l.getD i 0).toNat:Nat):Int)) / 32)) A (qb rfl rfl (ar_shr (n:=5) rfl rfl rfl)) λa A=>?_;rcases tf ((((((l.getD i 0).toNat:Nat):Int)) / 32==6))with hb67 | hb67
   ·have hb67':=eq_of_beq hb67;refine sdc A qg hb67 λa A=>?_;refine sda A λa A=>?_;refine qa (hK66 _ _ (ct A ?_));refine wrl (sdm A λa A=>?_);refine sdo (v:=.int .u8 (((((l.getD i 0).toNat:Nat):Int))%32)) A (qb rfl rfl (ar_and (zeh 5 31 rfl (by decide) (by omega) (by omega)))) λa A=>?_;refine sdo (v:=.int .i32 (((((l.getD i 0).toNat:Nat):Int))%32)) A (zt rfl (ar_conv Tryz.underlying5 Tryz.underlying21 (in_i32 (by omega) (by omega)))) λa A=>?_;iterate 2 refine sda A λa A=>?_
    refine qa ?_;exact hJ16 _ _ ⟨2,((((l.getD i 0).toNat:Nat):Int))%32,(by unfold LeadU; omega),A.keep _ (by repeat' constructor),M⟩
   ·have hb67':=ne_of_beq_false hb67;refine sdc A qg hb67 λa A=>?_;refine sda A λa A=>?_;refine qa (hK66 _ _ (cf A ?_));refine wsk fun K68 hK68=>wrl (sdm A λa A=>?_);refine sdo (v:=.int .u8 (((((l.getD i 0).toNat:Nat):Int)) / 16)) A (qb rfl rfl (ar_shr (n:=4) rfl rfl rfl)) λa A=>?_;rcases tf ((((((l.getD i 0).toNat:Nat):Int)) / 16==14))with hb69 | hb69
    ·have hb69':=eq_of_beq hb69;refine sdc A qg hb69 λa A=>?_;refine sda A λa A=>?_;refine qa (hK68 _ _ (ct A ?_));refine wrl (sdm A λa A=>?_);refine sdo (v:=.int .u8 (((((l.getD i 0).toNat:Nat):Int))%16)) A (qb rfl rfl (ar_and (zeh 4 15 rfl (by decide) (by omega) (by omega)))) λa A=>?_;refine sdo (v:=.int .i32 (((((l.getD i 0).toNat:Nat):Int))%16)) A (zt rfl (ar_conv Tryz.underlying5 Tryz.underlying21 (in_i32 (by omega) (by omega)))) λa A=>?_;iterate 2 refine sda A λa A=>?_
     refine qa ?_;exact hJ16 _ _ ⟨3,((((l.getD i 0).toNat:Nat):Int))%16,(by unfold LeadU; omega),A.keep _ (by repeat' constructor),M⟩
    ·have hb69':=ne_of_beq_false hb69;refine sdc A qg hb69 λa A=>?_;refine sda A λa A=>?_;refine qa (hK68 _ _ (cf A ?_));refine wsk fun K70 hK70=>wrl (sdm A λa A=>?_);refine sdo (v:=.int .u8 (((((l.getD i 0).toNat:Nat):Int)) / 8)) A (qb rfl rfl (ar_shr (n:=3) rfl rfl rfl)) λa A=>?_;rcases tf ((((((l.getD i 0).toNat:Nat):Int)) / 8==30))with hb71 | hb71
     ·have hb71':=eq_of_beq hb71;refine sdc A qg hb71 λa A=>?_;refine sda A λa A=>?_;refine qa (hK70 _ _ (ct A ?_));refine wrl (sdm A λa A=>?_);refine sdo (v:=.int .u8 (((((l.getD i 0).toNat:Nat):Int))%8)) A (qb rfl rfl (ar_and (zeh 3 7 rfl (by decide) (by omega) (by omega)))) λa A=>?_;refine sdo (v:=.int .i32 (((((l.getD i 0).toNat:Nat):Int))%8)) A (zt rfl (ar_conv Tryz.underlying5 Tryz.underlying21 (in_i32 (by omega) (by omega)))) λa A=>?_;iterate 2 refine sda A λa A=>?_
      refine qa ?_;exact hJ16 _ _ ⟨4,((((l.getD i 0).toNat:Nat):Int))%8,(by unfold LeadU; omega),A.keep _ (by repeat' constructor),M⟩
     ·have hb71':=ne_of_beq_false hb71;refine sdc A qg hb71 λa A=>?_;refine sda A λa A=>?_;refine qa (hK70 _ _ (cf A ?_));refine wp_skip ?_;exact hJ16 _ _ ⟨0,0,(by unfold LeadU; omega),A.keep _ (by repeat' constructor),M⟩
 ·have hb12':=of_decide_eq_false hb12;refine sdc A zs hb12 λa A=>?_;refine qa (hK11 _ _ (cf A ?_));refine wp_exit (hK5 _ _ (wsk fun K72 hK72=>wrl (sdm A λa A=>?_)));refine sda A λa A=>?_;refine qa (hK72 _ _ (wr1 hret A ?_));rw[zrh (by omega),List.append_nil]at hrun;subst hrun;exact⟨_,rfl,M⟩
open Go.RowKit Go.Lib
theorem zlc{w:World}{B:Nat}{e:TypeId}{sz:Nat}{v:Value}{n:Nat}{xs:List Value}(h:w.ownsRow B e sz v n xs):∃so cap,v=.slice so n cap:=by
  rcases h.2 with⟨rfl,rfl⟩ | ⟨g,cap,cur,rfl,_⟩
  · exact⟨none,0,rfl⟩
  · exact⟨_,cap,rfl⟩
section
variable {P:Program} {w0 w:World} {L:List Ck} {l:List (Nat×Value)} {dst:Option Tmp} {ty:TypeId} {pos:String} {after:Array Edge} {guard:Option (Nat×Bool)} {v:Value}
theorem zsa{w':World}{s d:TypeId}{x:Operand}{u:Value}(hx:ev l x=some u)(hr:(convert s d u).run P w=.ok v w'):Does P l ⟨dst,.convert s d x,ty,pos,after,guard⟩ w v w':=fun ρ h=>by
  simp only[execOp,h x _ hx,Sem.run_bind,hr,Result.andThen_ok,Sem.run_pure]
theorem jla(hM:Mg w0 w L)(k:Nat){e:TypeId}{sz n cap:Nat}{so:Option Addr}{xs:List Value}(hk:L[k]?=some (.row e sz (.slice so n cap) n xs))(hn:0<n):∃g,so=some ⟨g,0,none⟩:=by
  rcases(hM.has k hk).2 with⟨_,h0⟩ | ⟨g,cap',cur,he,_⟩
  · omega
  · cases he; exact⟨g,rfl⟩
theorem zld{t e:TypeId}{sz:Nat}(hu:P.underlying t=some (.slice e))(he:(P.info? e).map (·.size)=some sz){x i:Operand}{so:Option Addr}{g n c k:Nat}{z:Int}(hx:ev l x=some (.slice so n c))(hi:ev l i=some (.int .i64 z))(hz:z=(k:Nat))(hso:so=some ⟨g,0,none⟩)(hk:k<n):
    Does P l ⟨dst,.indexAddr t x i,ty,pos,after,guard⟩ w (.pointer (some ⟨g,k*sz,none⟩)) w:=by
  subst hso;exact qpi hu he hx hi hz hk
theorem zwd(hM:Mg w0 w L)(k:Nat){e:TypeId}{sz g n c j:Nat}{so:Option Addr}{xs:List Value}(hk:L[k]?=some (.row e sz (.slice so n c) n xs))(hso:so=some ⟨g,0,none⟩)(hj:xs[j]?=some v){t:TypeId}(ht:Is1 P t){x:Operand}(hx:ev l x=some (.pointer (some ⟨g,j,none⟩))):Does P l ⟨dst,.load t x,ty,pos,after,guard⟩ w v w:=by
  subst hso;exact zsj hM k hk hj ht hx
end
section
variable {P:Program} {w0 w:World} {L:List Ck} {l:List (Nat×Value)} {ops:List Oper} {Q:Exit→Act→World→Prop} {a:Act} {n:Nat} {rest:List Oper} {d:Nat} {dst:Option Tmp} {ty:TypeId} {pos:String} {after:Array Edge} {guard:Option (Nat×Bool)}
theorem jsb(hA:Sl a n l)(hM:Mg w0 w L){t t':TypeId}{x:Operand}{s:ByteArray}{o:Oper}(ho:o=⟨dst,.convert t t' x,ty,pos,after,guard⟩)(ht:P.underlying t=some .string)(hd:P.underlying t'=some (.slice BY))(he:P.underlying BY=some (.int .u8))(hx:ev l x=some (.string s))(hg:zb l ops o=true)(hdst:o.dst=some d)(hdn:Nat.blt d n=true)
    (hk:∀so cap w',Rb w' so s.data.toList→Mg w0 w' L→∀a',Sl a' n ((d,.slice so s.data.toList.length cap)::l)→wpList P ops.toArray Q rest a' w'):wpList P ops.toArray Q (o::rest) a w:=by
  subst ho;have hr:=Go.Lib.run_convert_string_bytes (P:=P) w t t' BY s ht hd he;have hb:Below w.heap.size w (bytesWorld w BY s):=⟨rfl,rfl,rfl,by rw[bytesWorld_size]; omega,fun j hj=>bytesWorld_at_old w BY s j hj⟩;refine yb hA hg hdst hdn (v:=.slice (some ⟨w.heap.size,0,none⟩) s.data.toList.length (grownCap w s.size 0 BY)) (w':=bytesWorld w BY s) (zsa hx (by rw[uk]; exact hr)) (hk _ _ _ ⟨fun _=>⟨w.heap.size,0,rfl,by rw[bytesWorld_size]; omega,fun j hj=>?_⟩⟩ (hM.call hb));rw[uk]at hj;rw[Nat.zero_add];exact bytesWorld_cell w BY s j hj
end
theorem qvj(u:Int×Int)(us:List (Int×Int)):xm (u::us)=(if u.2=-1 then[.int .i32 0,.bool true,.int .i64 u.1]else[.int .i32 u.2,.bool false,.int .i64 u.1])++xm us:=rfl
theorem qwa: ∀(us:List (Int×Int)) (i f:Nat) (u:Int×Int),us[i]?=some u→f<3→(xm us)[i*3+f]?=(if u.2=-1 then[Value.int .i32 0,.bool true,.int .i64 u.1]else[.int .i32 u.2,.bool false,.int .i64 u.1])[f]?
  | [], i, f, u, h, hf => by simp at h
  | v :: us, 0, f, u, h, hf => by
    simp only[List.getElem?_cons_zero,Option.some.injEq]at h;subst h;rw[qvj,Nat.zero_mul,Nat.zero_add,List.getElem?_append_left]
    split<;>exact hf
  | v :: us, i + 1, f, u, h, hf => by
    rw[List.getElem?_cons_succ]at h;rw[qvj,List.getElem?_append_right (by split<;>(simp only[List.length_cons,List.length_nil]; omega))];have e:(i+1)*3+f-(if v.2=-1 then[Value.int .i32 0,.bool true,.int .i64 v.1]else[.int .i32 v.2,.bool false,.int .i64 v.1]).length=i*3+f:=by
      split<;>(simp only[List.length_cons,List.length_nil]; omega)
    rw[e];exact qwa us i f u h hf
theorem jlb{us:List (Int×Int)}{i:Nat}(h:i<us.length):∃ua ur,us[i]?=some (ua,ur):=⟨_,_,List.getElem?_eq_getElem h⟩
theorem qwb: ∀(f p:Nat) (l:List UInt8),(yf f p l).length≤l.length
  | 0, _, _ => Nat.zero_le _
  | f + 1, p, l => by
    by_cases hl:l=[]
    · subst hl; simp[yf]
    · rw[qqh hl,List.length_cons];have h1:=qwb f (p+(decodeL l).2) (l.drop (decodeL l).2);have h2:=yp l hl;rw[List.length_drop]at h1;omega
theorem jlc(l:List UInt8)(h:(decodeL l).1=65533):(decodeL l).2=1∨(decodeL l).2=3∨(decodeL l).2=0:=by
  rw[decodeL_N]at h ⊢;generalize (l.getD 0 0).toNat=b0 at h ⊢;generalize (l.getD 1 0).toNat=b1 at h ⊢;generalize (l.getD 2 0).toNat=b2 at h ⊢;generalize (l.getD 3 0).toNat=b3 at h ⊢;unfold decodeN at h ⊢;repeat' split
  all_goals (simp_all)
  all_goals omega
theorem qji: ∀(f p:Nat) (l:List UInt8),validGoD f l=(yf f p l).all (fun u=>!decide (u.2=-1))
  | 0, p, l => rfl
  | f + 1, p, l => by
    unfold validGoD yf;by_cases hl:l=[]
    · rw[if_pos hl,if_pos hl]; rfl
    · rw[if_neg hl,if_neg hl,List.all_cons];have hw:=yp l hl;have h3:=jlc l;by_cases hb:(decodeL l).1=65533∧(decodeL l).2=1
      · rw[if_pos hb];have:uR (decodeL l).1 (decodeL l).2=-1:=(by unfold uR; rw[if_pos ⟨hb.1,by omega⟩]);rw[this]; rfl
      · rw[if_neg hb];have:¬uR (decodeL l).1 (decodeL l).2=-1:=by
          unfold uR;by_cases h9:(decodeL l).1=65533
          · rw[if_neg (by have:=h3 h9; omega)]; omega
          · rw[if_neg (fun e=>h9 e.1)]; omega
        rw[decide_eq_false this,qji f (p+(decodeL l).2)];simp
theorem zaa(s:ByteArray):okS s=(xb s.data.toList).all (fun u=>!decide (u.2=-1)):=qji _ 0 _
theorem jsc{s:ByteArray}{i:Nat}{ua ur:Int}(h:(xb s.data.toList)[i]?=some (ua,ur))(hr:ur=-1):okS s=false:=by
  rw[zaa];apply Bool.eq_false_iff.2;intro k;have:=List.all_eq_true.1 k _ (List.mem_of_getElem? h);simp[hr]at this
theorem jld{s:ByteArray}(h:∀(i:Nat) (ua ur:Int),(xb s.data.toList)[i]?=some (ua,ur)→ur≠-1):okS s=true:=by
  rw[zaa,List.all_eq_true];intro u hu;obtain⟨i,hi⟩:=List.mem_iff_getElem?.1 hu;simp[h i u.1 u.2 hi]
theorem zle{w:World}{so:Option Addr}{cap:Nat}{l:List UInt8}(hb:Rb w so l)(hlen:l.length≤4000000):Calls Tryz.prog 69 #[iV 1,.slice so l.length cap] w fun e w'=>∃v,e=.returned v∧Mg w w' [.row 98 3 v (xb l).length (xm (xb l))]:=by
 have M:Mg w w ([]):=Mg.start w;refine qn (l:=[(0,iV 1),(1,.slice so l.length cap)]) Tryz.func69 rfl Tryz.ntmps69 rfl rfl ?_;intro Q hret hnorm hP a A;refine wsk fun K1 hK1=>wrl (sda A λa A=>?_);refine qa (hK1 _ _ (wsk fun K2 hK2=>wsk fun K3 hK3=>wrl (sdm A λa A=>?_)));refine sdo (v:=bV true) A dbK λa A=>?_;refine qa (hK3 _ _ (ct A ?_));refine wsk fun K4 hK4=>wrl (sdm A λa A=>?_);refine sct A (ef rfl rfl) (jaf (hb.below M.bel) hlen) ?_;rintro _ w5 ⟨v9,rfl,hM9⟩;replace M:Mg w w5 (.row 98 3 (v9) ((xb l).length) ((xm (xb l)))::[]):=(M.both hM9 (ul qae) (zv (by simp) (ul qae)));refine⟨_,rfl,?_⟩;intro a A;refine sda A λa A=>?_;refine qa (hK4 _ _ (wr1 hret A ?_));exact⟨_,rfl,M⟩
theorem qwc{w:World}{s:ByteArray}(hs:s.size≤4000000){r:Bool}(hr:okS s=r):Calls Tryz.prog 45 #[.string s] w fun e w'=>e=.returned (bV r)∧Below w.heap.size w w':=by
 have hul:(xb s.data.toList).length≤s.data.toList.length:=qwb _ _ _;have hsl:s.data.toList.length≤4000000:=by rw[uk]; exact hs
 have M:Mg w w ([]):=Mg.start w;refine qn (l:=[(0,.string s)]) Tryz.func45 rfl Tryz.ntmps45 rfl rfl ?_;intro Q hret hnorm hP a A;refine wsk fun K1 hK1=>wrl (sda A λa A=>?_);refine qa (hK1 _ _ (wsk fun K2 hK2=>wrl (sdm A λa A=>?_)));refine jsb A M rfl Tryz.underlying9 Tryz.underlying27 Tryz.underlying5 rfl rfl rfl rfl ?_;intro so3 ca4 w5 hrb6 M a A;refine sct A (ef rfl rfl) (zle hrb6 (by rw[uk]; exact hs)) ?_;rintro _ w10 ⟨v9,rfl,hM7⟩;obtain⟨so8,ca9,rfl⟩:=zlc (hM7.has 0 rfl);replace M:Mg w w10 (.row 98 3 (.slice so8 ((xb s.data.toList).length) ca9) ((xb s.data.toList).length) ((xm (xb s.data.toList)))::[]):=(M.both hM7 (ul qae) (zv (by simp) (ul qae)));refine⟨_,rfl,?_⟩;intro a A;refine sda A λa A=>?_;refine qa (hK2 _ _ (wsk fun K11 hK11=>wsk fun K12 hK12=>wrl (sda A λa A=>?_)));refine qa (hK12 _ _ (wp_block (jd (fun m_ a w1=>∃(i:Nat),m_=1+((xb s.data.toList).length-i)∧(i≤(xb s.data.toList).length∧∀j ua ur,j<i→(xb s.data.toList)[j]?=some (ua,ur)→ur≠-1)∧Sl a 19 [(0,.string s),(3,.slice so8 ((xb s.data.toList).length) ca9),(4,iV (((i:Nat):Int))),(5,.string s),(6,.slice so3 s.data.toList.length ca4),(7,.slice so8 ((xb s.data.toList).length) ca9)]∧Mg w w1 (.row 98 3 (.slice so8 ((xb s.data.toList).length) ca9) ((xb s.data.toList).length) ((xm (xb s.data.toList)))::[])) _ ⟨0,rfl,⟨Nat.zero_le _,fun j ua ur hj=>absurd hj (Nat.not_lt_zero _)⟩,A.keep _ (by repeat' constructor),M⟩ ?_)));clear M A;rintro m_ a w13 ⟨i,rfl,hinv15,A,M⟩ K14 hK14;obtain⟨hi0,hin9⟩:=hinv15;refine wsk fun K16 hK16=>wsk fun K17 hK17=>wrl ?_;iterate 2 refine sdm A λa A=>?_
 refine sdo A (zh Tryz.underlying95 rfl) λa A=>?_;rcases tf (decide (((i:Nat):Int)<(((xb s.data.toList).length:Nat):Int)))with hb18 | hb18
 ·have hb18':=of_decide_eq_true hb18;refine sdc A zs hb18 λa A=>?_;refine qa (hK17 _ _ (ct A ?_));refine wp_skip (hK16 _ _ (wsk fun K19 hK19=>wp_block (wsk fun K20 hK20=>wrl ?_)));iterate 2 refine sdm A λa A=>?_
  obtain⟨gu,hgu⟩:=jla M 0 rfl (by omega);obtain⟨ua,ur,hu⟩:=jlb (us:=xb s.data.toList) (i:=i) (by omega);refine sdo (v:=pA gu (i*3)) A (zld Tryz.underlying95 (by kernel_rfl) rfl rfl rfl hgu (show i<(xb s.data.toList).length by omega)) λa A=>?_;refine sdo (v:=pA gu (i*3+1)) A (qe jvd rfl rfl) λa A=>?_;by_cases hf:ur=-1
  ·refine sdo (v:=bV true) A (zwd M 0 rfl hgu ((qwa _ i 1 _ hu (by decide)).trans (by rw[if_pos hf]; rfl)) o94 rfl) λa A=>?_;refine qa (hK20 _ _ (ct A ?_));refine wsk fun K21 hK21=>wrl (sda A λa A=>?_);refine qa (hK21 _ _ (wr1 hret A ?_));subst hr;exact⟨by rw[jsc hu hf],M.bel⟩
  ·refine sdo (v:=bV false) A (zwd M 0 rfl hgu ((qwa _ i 1 _ hu (by decide)).trans (by rw[if_neg hf]; rfl)) o94 rfl) λa A=>?_;refine qa (hK20 _ _ (cf A ?_));refine wp_skip (hK19 _ _ (wrl (sdm A λa A=>?_)));refine sdo (v:=iV (((i+1:Nat):Int))) A (qb rfl rfl (fun w=>(kp (uj (by omega) (by omega)) w).trans (by rw[show(((i:Nat):Int)+1:Int)=((i+1:Nat):Int)from by omega]))) λa A=>?_;refine sda A λa A=>?_;refine qa ?_;refine hK14 _ _ _ (by omega) ⟨i+1,rfl,⟨by omega,fun j va vr hj hv=>if h9:j<i then hin9 j va vr h9 hv else by have h8:j=i:=(by omega); subst h8; rw[hu]at hv; injection hv with h7; injection h7 with _ h6; rw[←h6]; exact hf⟩,A.keep _ (by repeat' constructor),M⟩
 ·have hb18':=of_decide_eq_false hb18;refine sdc A zs hb18 λa A=>?_;refine qa (hK17 _ _ (cf A ?_));refine wp_exit (hK11 _ _ (wsk fun K22 hK22=>wrl (sda A λa A=>?_)));refine qa (hK22 _ _ (wr1 hret A ?_));subst hr;exact⟨by rw[jld (fun j ua ur hj=>hin9 j ua ur (by have:=(List.getElem?_eq_some_iff.1 hj).1; omega) hj)],M.bel⟩
theorem zab{w:World}{n:Int}{r:Bool}(hr:xl n=r):Calls Tryz.prog 48 #[iV n] w fun e w'=>e=.returned (bV r)∧Below w.heap.size w w':=by
 have M:Mg w w ([]):=Mg.start w;refine qn (l:=[(0,iV n)]) Tryz.func48 rfl Tryz.ntmps48 rfl rfl ?_;intro Q hret hnorm hP a A;refine wsk fun K1 hK1=>wrl (sda A λa A=>?_);refine qa (hK1 _ _ (wsk fun K2 hK2=>wrl (sdm A λa A=>?_)));rcases tf (decide (0≤n))with hb3 | hb3
 ·have hb3':=of_decide_eq_true hb3;refine sdc A jc hb3 λa A=>?_;iterate 2 refine sdm A λa A=>?_
  rcases tf (decide (n≤1114111))with hb4 | hb4
  ·have hb4':=of_decide_eq_true hb4;refine sdc A jh hb4 λa A=>?_;refine sdk (v:=bV true) A λa A=>?_;iterate 2 refine sdm A λa A=>?_
   rcases tf (decide (n<55296))with hb5 | hb5
   ·have hb5':=of_decide_eq_true hb5;refine sdc A zs hb5 λa A=>?_;refine sdm A λa A=>?_;iterate 2 refine qf A rfl rfl rfl λa A=>?_
    iterate 2 refine sdk (v:=bV true) A λa A=>?_
    refine sda A λa A=>?_;refine qa (hK2 _ _ (wr1 hret A ?_));subst hr;exact⟨by rw[show xl n=true from by unfold xl; apply decide_eq_true; omega],M.bel⟩
   ·have hb5':=of_decide_eq_false hb5;refine sdc A zs hb5 λa A=>?_;iterate 2 refine sdm A λa A=>?_
    rcases tf (decide (57343<n))with hb6 | hb6
    ·have hb6':=of_decide_eq_true hb6;refine sdc A zn hb6 λa A=>?_;iterate 2 refine sdk (v:=bV true) A λa A=>?_
     refine sda A λa A=>?_;refine qa (hK2 _ _ (wr1 hret A ?_));subst hr;exact⟨by rw[show xl n=true from by unfold xl; apply decide_eq_true; omega],M.bel⟩
    ·have hb6':=of_decide_eq_false hb6;refine sdc A zn hb6 λa A=>?_;iterate 2 refine sdk (v:=bV false) A λa A=>?_
     refine sda A λa A=>?_;refine qa (hK2 _ _ (wr1 hret A ?_));subst hr;exact⟨by rw[show xl n=false from by unfold xl; apply decide_eq_false; omega],M.bel⟩
  ·have hb4':=of_decide_eq_false hb4;refine sdc A jh hb4 λa A=>?_;refine sdk (v:=bV false) A λa A=>?_;refine sdm A λa A=>?_;iterate 3 refine qf A rfl rfl rfl λa A=>?_
   iterate 2 refine xx A rfl rfl rfl λa A=>?_
   refine qf A rfl rfl rfl λa A=>?_;refine sdk (v:=bV false) A λa A=>?_;refine sda A λa A=>?_;refine qa (hK2 _ _ (wr1 hret A ?_));subst hr;exact⟨by rw[show xl n=false from by unfold xl; apply decide_eq_false; omega],M.bel⟩
 ·have hb3':=of_decide_eq_false hb3;refine sdc A jc hb3 λa A=>?_;refine sdm A λa A=>?_;iterate 2 refine qf A rfl rfl rfl λa A=>?_
  refine sdk (v:=bV false) A λa A=>?_;refine sdm A λa A=>?_;iterate 3 refine qf A rfl rfl rfl λa A=>?_
  iterate 2 refine xx A rfl rfl rfl λa A=>?_
  refine qf A rfl rfl rfl λa A=>?_;refine sdk (v:=bV false) A λa A=>?_;refine sda A λa A=>?_;refine qa (hK2 _ _ (wr1 hret A ?_));subst hr;exact⟨by rw[show xl n=false from by unfold xl; apply decide_eq_false; omega],M.bel⟩
def kw(k n:Int)(q:Q6)(s:ByteArray)(mr ml:Nat):Bool:=
 if k<1∨11<k∨okS s=false then false
 else if k=3∧jf q=false then false
 else if k≠3∧(qcb q.b1 q.t1.length q.q1.length=false∨qcb q.b2 q.t2.length q.q2.length=false)then false
 else if s≠⟨#[]⟩∧k≠5∧k≠6∧k≠11 then false
 else if 0<mr∧k≠7 then false
 else if k=2∧n≠0∧n≠1 then false
 else if k=4∧xl n=false then false
 else if k≠2∧k≠4∧n≠0 then false
 else if k=8 then decide (ml=2)
 else decide (k=9∨ml=0)
theorem jsd: okS ⟨#[]⟩=true:=by unfold okS; rfl
theorem jp(k n:Int)(q:Q6)(s:ByteArray)(mr ml:Nat):ku k n q s mr ml=kw k n q s mr ml:=by
 have hv:s=⟨#[]⟩→okS s=true:=by rintro rfl; exact jsd
 have hn0:qcb false 0 0=true:=rfl;unfold ku kw;by_cases hk:k<1∨11<k
 ·rw[if_pos (show k<1∨11<k∨okS s=false by omega)];repeat (rw[if_neg (by omega)])
 ·have h11:k=1∨k=2∨k=3∨k=4∨k=5∨k=6∨k=7∨k=8∨k=9∨k=10∨k=11:=by omega
  simp only[qbe,hn0];generalize qcb q.b1 q.t1.length q.q1.length=B1;generalize qcb q.b2 q.t2.length q.q2.length=B2;generalize jf q=S1;generalize xl n=S2;by_cases hs:s=⟨#[]⟩
  ·rw[hv hs];have hs2:¬s≠⟨#[]⟩:=fun h=>h hs;rcases h11 with h | h | h | h | h | h | h | h | h | h | h<;>subst h<;>cases B1<;>cases B2<;>cases S1<;>cases S2<;>simp[hs]<;>by_cases hm:mr=0<;>simp[hm]<;>by_cases hn:n=0<;>simp[hn]<;>first | omega | (by_cases hn1:n=1<;>simp[hn1]) | skip
  ·cases hV:okS s<;>rcases h11 with h | h | h | h | h | h | h | h | h | h | h<;>subst h<;>cases B1<;>cases B2<;>cases S1<;>cases S2<;>simp[hs]<;>by_cases hm:mr=0<;>simp[hm]<;>by_cases hn:n=0<;>simp[hn]<;>first | omega | skip
section
variable {k n:Int} {q:Q6} {s:ByteArray} {mr ml:Nat}
def ShA(k:Int)(s:ByteArray):Prop:=1≤k∧k≤11∧okS s=true
def ShB(k:Int)(q:Q6):Prop:=(k=3→jf q=true)∧(k≠3→qcb q.b1 q.t1.length q.q1.length=true∧qcb q.b2 q.t2.length q.q2.length=true)
def ShC(k:Int)(s:ByteArray):Prop:=s=⟨#[]⟩∨k=5∨k=6∨k=11
def ShD(k:Int)(mr:Nat):Prop:=mr=0∨k=7
def ShE(k n:Int):Prop:=(k=2→n=0∨n=1)∧(k=4→xl n=true)∧(k≠2→k≠4→n=0)
theorem sh1(h:k<1∨11<k∨okS s=false):kw k n q s mr ml=false:=by unfold kw; rw[if_pos h]
theorem shA(a:ShA k s):¬(k<1∨11<k∨okS s=false):=fun e=>by
 rcases e with e | e | e
 ·have:=a.1; omega
 ·have:=a.2.1; omega
 ·rw[a.2.2]at e; cases e
theorem sh2(a:ShA k s)(h:k=3)(S:jf q=false):kw k n q s mr ml=false:=by unfold kw; rw[if_neg (shA a),if_pos ⟨h,S⟩]
theorem sh3(a:ShA k s)(h:k≠3)(S:qcb q.b1 q.t1.length q.q1.length=false∨qcb q.b2 q.t2.length q.q2.length=false):kw k n q s mr ml=false:=by unfold kw; rw[if_neg (shA a),if_neg (fun e=>h e.1),if_pos ⟨h,S⟩]
theorem jse(b:ShB k q):¬(k=3∧jf q=false):=fun e=>by have:=b.1 e.1; rw[e.2]at this; cases this
theorem jsf(b:ShB k q):¬(k≠3∧(qcb q.b1 q.t1.length q.q1.length=false∨qcb q.b2 q.t2.length q.q2.length=false)):=fun e=>by
 have:=b.2 e.1;rcases e.2 with h | h
 ·rw[this.1]at h; cases h
 ·rw[this.2]at h; cases h
theorem sh4(a:ShA k s)(b:ShB k q)(h:s≠⟨#[]⟩∧k≠5∧k≠6∧k≠11):kw k n q s mr ml=false:=by unfold kw; rw[if_neg (shA a),if_neg (jse b),if_neg (jsf b),if_pos h]
theorem shC(c:ShC k s):¬(s≠⟨#[]⟩∧k≠5∧k≠6∧k≠11):=fun e=>by rcases c with h | h | h | h<;>first | exact e.1 h | exact e.2.1 h | exact e.2.2.1 h | exact e.2.2.2 h
theorem sh5(a:ShA k s)(b:ShB k q)(c:ShC k s)(h:0<mr∧k≠7):kw k n q s mr ml=false:=by unfold kw; rw[if_neg (shA a),if_neg (jse b),if_neg (jsf b),if_neg (shC c),if_pos h]
theorem shD(d:ShD k mr):¬(0<mr∧k≠7):=fun e=>by rcases d with h | h<;>omega
theorem sh6(a:ShA k s)(b:ShB k q)(c:ShC k s)(d:ShD k mr)(h:(k=2∧n≠0∧n≠1)∨(k=4∧xl n=false)∨(k≠2∧k≠4∧n≠0)):kw k n q s mr ml=false:=by
 unfold kw;rw[if_neg (shA a),if_neg (jse b),if_neg (jsf b),if_neg (shC c),if_neg (shD d)];rcases h with h | h | h
 ·rw[if_pos h]
 ·rw[if_neg (by omega),if_pos h]
 ·rw[if_neg (by omega),if_neg (fun e=>h.2.1 e.1),if_pos h]
theorem sh9(a:ShA k s)(b:ShB k q)(c:ShC k s)(d:ShD k mr)(e:ShE k n):kw k n q s mr ml=if k=8 then decide (ml=2)else decide (k=9∨ml=0):=by
 unfold kw;have e1:=e.1;have e3:=e.2.2;rw[if_neg (shA a),if_neg (jse b),if_neg (jsf b),if_neg (shC c),if_neg (shD d),if_neg (fun h=>by have:=e1 h.1; omega),if_neg (fun h=>by have:=e.2.1 h.1; rw[h.2]at this; cases this),if_neg (fun h=>by have:=e3 h.1 h.2.1; omega)]
end
theorem qwd{w:World}{d:Nd}{ts:List Dt}(hok:NdOk w d)(hs2:d.s.size≤4000000)(hlen:ts.length≤9223372036854775807){r:Bool}(hr:ku d.k d.n d.y.q d.s d.rl.length ts.length=r):Calls Tryz.prog 27 #[.agg (d.cells ts.length).toArray] w fun e w'=>e=.returned (bV r)∧Below w.heap.size w w':=by
 have hrl:d.rl.length≤9223372036854775807:=Nat.le_trans hok.rcap hok.rmax;have M:Mg w w ([]):=Mg.start w;refine qn (l:=[(0,.agg (d.cells ts.length).toArray)]) Tryz.func27 rfl Tryz.ntmps27 rfl rfl ?_;intro Q hret hnorm hP a A;refine wsk fun K1 hK1=>wrl (xq (vs:=[iV d.k,iV d.n,bV d.y.q.b1,.slice d.y.o1 d.y.q.t1.length d.y.c1,.slice d.y.o2 d.y.q.q1.length d.y.c2,bV d.y.q.b2,.slice d.y.o3 d.y.q.t2.length d.y.c3,.slice d.y.o4 d.y.q.q2.length d.y.c4,.string d.s,.slice d.ro d.rl.length d.rc,.slice d.lo ts.length d.lc]) (t:=30) A M rfl rfl rfl pg (zd rfl rfl) (by decide) ?_);intro g2 w3 M a A;refine sda A λa A=>?_;refine qa (hK1 _ _ (wsk fun K4 hK4=>?_));have hJ5:∀a w1,((ShA d.k d.s)∧Sl a 100 [(0,.agg (d.cells ts.length).toArray),(1,pA g2 0)]∧Mg w w1 (.obj g2 (.cells (d.cells ts.length).toArray 30)::[]))→K4 a w1:=by
  clear A M;rintro a w6 ⟨hf7,A,M⟩;have hSA:=hf7;refine hK4 _ _ (wsk fun K8 hK8=>?_);have hJ9:∀a w1,((ShB d.k d.y.q)∧Sl a 100 [(0,.agg (d.cells ts.length).toArray),(1,pA g2 0)]∧Mg w w1 (.obj g2 (.cells (d.cells ts.length).toArray 30)::[]))→K8 a w1:=by
   clear A M;rintro a w10 ⟨hf11,A,M⟩;have hSB:=hf11;refine hK8 _ _ (wsk fun K12 hK12=>?_);have hJ13:∀a w1,((ShC d.k d.s)∧Sl a 100 [(0,.agg (d.cells ts.length).toArray),(1,pA g2 0)]∧Mg w w1 (.obj g2 (.cells (d.cells ts.length).toArray 30)::[]))→K12 a w1:=by
    clear A M;rintro a w14 ⟨hf15,A,M⟩;have hSC:=hf15;refine hK12 _ _ (wsk fun K16 hK16=>?_);have hJ17:∀a w1,((ShD d.k d.rl.length)∧Sl a 100 [(0,.agg (d.cells ts.length).toArray),(1,pA g2 0)]∧Mg w w1 (.obj g2 (.cells (d.cells ts.length).toArray 30)::[]))→K16 a w1:=by
     clear A M;rintro a w18 ⟨hf19,A,M⟩;have hSD:=hf19;refine hK16 _ _ (wsk fun K20 hK20=>?_);have hJ21:∀a w1,((ShE d.k d.n)∧Sl a 100 [(0,.agg (d.cells ts.length).toArray),(1,pA g2 0)]∧Mg w w1 (.obj g2 (.cells (d.cells ts.length).toArray 30)::[]))→K20 a w1:=by
      clear A M;rintro a w22 ⟨hf23,A,M⟩;have hSE:=hf23;refine hK20 _ _ (wsk fun K24 hK24=>wsk fun K25 hK25=>wrl (sdo (v:=pA g2 0) A (qe yg rfl rfl) λa A=>?_));refine sdo A (qt M o93 rfl 0 rfl rfl) λa A=>?_;rcases tf ((d.k==8))with hb26 | hb26
      ·have hb26':=eq_of_beq hb26;refine sdc A qg hb26 λa A=>?_;refine qa (hK25 _ _ (ct A ?_));refine wsk fun K27 hK27=>wrl (sdo (v:=pA g2 10) A (qe vy rfl rfl) λa A=>?_);refine sdo A (qt M qfh rfl 0 rfl rfl) λa A=>?_;refine sdo A (zh Tryz.underlying28 rfl) λa A=>?_;rcases tf ((((ts.length:Nat):Int)==2))with hb28 | hb28
       ·have hb28':=eq_of_beq hb28;refine sdc A qg hb28 λa A=>?_;refine sda A λa A=>?_;refine qa (hK27 _ _ (wr1 hret A ?_));exact⟨by rw[←hr,jp,sh9 hSA hSB hSC hSD hSE,if_pos (by omega),decide_eq_true (show(ts.length=2)by omega)],M.bel⟩
       ·have hb28':=ne_of_beq_false hb28;refine sdc A qg hb28 λa A=>?_;refine sda A λa A=>?_;refine qa (hK27 _ _ (wr1 hret A ?_));exact⟨by rw[←hr,jp,sh9 hSA hSB hSC hSD hSE,if_pos (by omega),decide_eq_false (show ¬(ts.length=2)by omega)],M.bel⟩
      ·have hb26':=ne_of_beq_false hb26;refine sdc A qg hb26 λa A=>?_;refine qa (hK25 _ _ (cf A ?_));refine wp_skip (hK24 _ _ (wsk fun K29 hK29=>wrl (sdo (v:=pA g2 0) A (qe yg rfl rfl) λa A=>?_)));refine sdo A (qt M o93 rfl 0 rfl rfl) λa A=>?_;rcases tf ((d.k==9))with hb30 | hb30
       ·have hb30':=eq_of_beq hb30;refine sdc A qg hb30 λa A=>?_;refine sdm A λa A=>?_;iterate 4 refine qf A rfl rfl rfl λa A=>?_
        refine sdk (v:=bV true) A λa A=>?_;refine sda A λa A=>?_;refine qa (hK29 _ _ (wr1 hret A ?_));exact⟨by rw[←hr,jp,sh9 hSA hSB hSC hSD hSE,if_neg (by omega),decide_eq_true (show(d.k=9∨ts.length=0)by omega)],M.bel⟩
       ·have hb30':=ne_of_beq_false hb30;refine sdc A qg hb30 λa A=>?_;refine sdm A λa A=>?_;refine sdo (v:=pA g2 10) A (qe vy rfl rfl) λa A=>?_;refine sdo A (qt M qfh rfl 0 rfl rfl) λa A=>?_;refine sdo A (zh Tryz.underlying28 rfl) λa A=>?_;rcases tf ((((ts.length:Nat):Int)==0))with hb31 | hb31
        ·have hb31':=eq_of_beq hb31;refine sdc A qg hb31 λa A=>?_;refine sdk (v:=bV true) A λa A=>?_;refine sda A λa A=>?_;refine qa (hK29 _ _ (wr1 hret A ?_));exact⟨by rw[←hr,jp,sh9 hSA hSB hSC hSD hSE,if_neg (by omega),decide_eq_true (show(d.k=9∨ts.length=0)by omega)],M.bel⟩
        ·have hb31':=ne_of_beq_false hb31;refine sdc A qg hb31 λa A=>?_;refine sdk (v:=bV false) A λa A=>?_;refine sda A λa A=>?_;refine qa (hK29 _ _ (wr1 hret A ?_));exact⟨by rw[←hr,jp,sh9 hSA hSB hSC hSD hSE,if_neg (by omega),decide_eq_false (show ¬(d.k=9∨ts.length=0)by omega)],M.bel⟩
     refine wsk fun K32 hK32=>wrl (sdo (v:=pA g2 0) A (qe yg rfl rfl) λa A=>?_);refine sdo A (qt M o93 rfl 0 rfl rfl) λa A=>?_;refine qa (hK32 _ _ (wp_block (wsk fun K33 hK33=>wrl ?_)));rcases tf ((d.k==2))with hb34 | hb34
     ·have hb34':=eq_of_beq hb34;refine sdc A qg hb34 λa A=>?_;refine sda A λa A=>?_;refine qa (hK33 _ _ (ct A ?_));refine wsk fun K35 hK35=>wrl (sdo (v:=pA g2 1) A (qe qkg rfl rfl) λa A=>?_);refine sdo A (qt M o93 rfl 0 rfl rfl) λa A=>?_;rcases tf ((d.n != 0))with hb36 | hb36
      ·have hb36':=bne_iff_ne.1 hb36;refine sdc A za hb36 λa A=>?_;refine sdm A λa A=>?_;refine sdo (v:=pA g2 1) A (qe qkg rfl rfl) λa A=>?_;refine sdo A (qt M o93 rfl 0 rfl rfl) λa A=>?_;rcases tf ((d.n != 1))with hb37 | hb37
       ·have hb37':=bne_iff_ne.1 hb37;refine sdc A za hb37 λa A=>?_;refine sdk (v:=bV true) A λa A=>?_;refine qa (hK35 _ _ (ct A ?_));refine wsk fun K38 hK38=>wrl (sda A λa A=>?_);refine qa (hK38 _ _ (wr1 hret A ?_));exact⟨by rw[←hr,jp,sh6 hSA hSB hSC hSD (.inl ⟨by omega,by omega,by omega⟩)],M.bel⟩
       ·have hb37':=bne_eq_false_iff_eq.1 hb37;refine sdc A za hb37 λa A=>?_;refine sdk (v:=bV false) A λa A=>?_;refine qa (hK35 _ _ (cf A ?_));refine wp_skip ?_;exact hJ21 _ _ ⟨⟨fun h=>by omega,fun h=>absurd h (by omega),fun h h2=>by omega⟩,A.keep _ ⟨rfl,rfl,trivial⟩,M⟩
      ·have hb36':=bne_eq_false_iff_eq.1 hb36;refine sdc A za hb36 λa A=>?_;refine sdm A λa A=>?_;iterate 3 refine qf A rfl rfl rfl λa A=>?_
       refine sdk (v:=bV false) A λa A=>?_;refine qa (hK35 _ _ (cf A ?_));refine wp_skip ?_;exact hJ21 _ _ ⟨⟨fun h=>by omega,fun h=>absurd h (by omega),fun h h2=>by omega⟩,A.keep _ ⟨rfl,rfl,trivial⟩,M⟩
     ·have hb34':=ne_of_beq_false hb34;refine sdc A qg hb34 λa A=>?_;refine sda A λa A=>?_;refine qa (hK33 _ _ (cf A ?_));refine wsk fun K39 hK39=>wrl ?_;rcases tf ((d.k==4))with hb40 | hb40
      ·have hb40':=eq_of_beq hb40;refine sdc A qg hb40 λa A=>?_;refine sda A λa A=>?_;refine qa (hK39 _ _ (ct A ?_));refine wsk fun K41 hK41=>wrl (sdo (v:=pA g2 1) A (qe qkg rfl rfl) λa A=>?_);refine sdo A (qt M o93 rfl 0 rfl rfl) λa A=>?_;rcases tf (xl d.n)with hb42 | hb42
       ·refine gcl A M (ef rfl rfl) (zab hb42) fun w44 hb43 M a A=>?_;refine sdo (v:=bV false) A (qp rfl ze) λa A=>?_;refine qa (hK41 _ _ (cf A ?_));refine wp_skip ?_;exact hJ21 _ _ ⟨⟨fun h=>by omega,fun h=>hb42,fun h h2=>by omega⟩,A.keep _ ⟨rfl,rfl,trivial⟩,M⟩
       ·refine gcl A M (ef rfl rfl) (zab hb42) fun w46 hb45 M a A=>?_;refine sdo (v:=bV true) A (qp rfl ze) λa A=>?_;refine qa (hK41 _ _ (ct A ?_));refine wsk fun K47 hK47=>wrl (sda A λa A=>?_);refine qa (hK47 _ _ (wr1 hret A ?_));exact⟨by rw[←hr,jp,sh6 hSA hSB hSC hSD (.inr (.inl ⟨by omega,hb42⟩))],M.bel⟩
      ·have hb40':=ne_of_beq_false hb40;refine sdc A qg hb40 λa A=>?_;refine sda A λa A=>?_;refine qa (hK39 _ _ (cf A ?_));refine wsk fun K48 hK48=>wrl (sdo (v:=pA g2 1) A (qe qkg rfl rfl) λa A=>?_);refine sdo A (qt M o93 rfl 0 rfl rfl) λa A=>?_;rcases tf ((d.n != 0))with hb49 | hb49
       ·have hb49':=bne_iff_ne.1 hb49;refine sdc A za hb49 λa A=>?_;refine qa (hK48 _ _ (ct A ?_));refine wsk fun K50 hK50=>wrl (sda A λa A=>?_);refine qa (hK50 _ _ (wr1 hret A ?_));exact⟨by rw[←hr,jp,sh6 hSA hSB hSC hSD (.inr (.inr ⟨by omega,by omega,by omega⟩))],M.bel⟩
       ·have hb49':=bne_eq_false_iff_eq.1 hb49;refine sdc A za hb49 λa A=>?_;refine qa (hK48 _ _ (cf A ?_));refine wp_skip ?_;exact hJ21 _ _ ⟨⟨fun h=>by omega,fun h=>absurd h (by omega),fun h h2=>by omega⟩,A.keep _ ⟨rfl,rfl,trivial⟩,M⟩
    refine wsk fun K51 hK51=>wrl (sdo (v:=pA g2 9) A (qe qoe rfl rfl) λa A=>?_);refine sdo A (qt M qtd rfl 0 rfl rfl) λa A=>?_;refine sdo A (zh Tryz.underlying27 rfl) λa A=>?_;rcases tf (decide (0<((d.rl.length:Nat):Int)))with hb52 | hb52
    ·have hb52':=of_decide_eq_true hb52;refine sdc A zn hb52 λa A=>?_;refine sdm A λa A=>?_;refine sdo (v:=pA g2 0) A (qe yg rfl rfl) λa A=>?_;refine sdo A (qt M o93 rfl 0 rfl rfl) λa A=>?_;rcases tf ((d.k != 7))with hb53 | hb53
     ·have hb53':=bne_iff_ne.1 hb53;refine sdc A za hb53 λa A=>?_;refine sdk (v:=bV true) A λa A=>?_;refine qa (hK51 _ _ (ct A ?_));refine wsk fun K54 hK54=>wrl (sda A λa A=>?_);refine qa (hK54 _ _ (wr1 hret A ?_));exact⟨by rw[←hr,jp,sh5 hSA hSB hSC ⟨by omega,by omega⟩],M.bel⟩
     ·have hb53':=bne_eq_false_iff_eq.1 hb53;refine sdc A za hb53 λa A=>?_;refine sdk (v:=bV false) A λa A=>?_;refine qa (hK51 _ _ (cf A ?_));refine wp_skip ?_;exact hJ17 _ _ ⟨.inr (by omega),A.keep _ ⟨rfl,rfl,trivial⟩,M⟩
    ·have hb52':=of_decide_eq_false hb52;refine sdc A zn hb52 λa A=>?_;refine sdm A λa A=>?_;iterate 3 refine qf A rfl rfl rfl λa A=>?_
     refine sdk (v:=bV false) A λa A=>?_;refine qa (hK51 _ _ (cf A ?_));refine wp_skip ?_;exact hJ17 _ _ ⟨.inl (by omega),A.keep _ ⟨rfl,rfl,trivial⟩,M⟩
   refine wsk fun K55 hK55=>wrl (sdo (v:=pA g2 8) A (qe qte rfl rfl) λa A=>?_);refine sdo A (qt M o99 rfl 0 rfl rfl) λa A=>?_;rcases tf (decide (d.s=⟨#[]⟩))with hb56 | hb56
   ·have hb56':=of_decide_eq_true hb56;refine sdo (v:=bV false) A (qb rfl rfl (fun w=>(qma Tryz.underlying9 w).trans (by rw[hb56]<;>rfl))) λa A=>?_;refine sdm A λa A=>?_;iterate 3 refine qf A rfl rfl rfl λa A=>?_
    refine sdk (v:=bV false) A λa A=>?_;refine sdm A λa A=>?_;iterate 3 refine qf A rfl rfl rfl λa A=>?_
    refine sdk (v:=bV false) A λa A=>?_;refine sdm A λa A=>?_;iterate 3 refine qf A rfl rfl rfl λa A=>?_
    refine sdk (v:=bV false) A λa A=>?_;refine qa (hK55 _ _ (cf A ?_));refine wp_skip ?_;exact hJ13 _ _ ⟨.inl hb56',A.keep _ ⟨rfl,rfl,trivial⟩,M⟩
   ·have hb56':=of_decide_eq_false hb56;refine sdo (v:=bV true) A (qb rfl rfl (fun w=>(qma Tryz.underlying9 w).trans (by rw[hb56]<;>rfl))) λa A=>?_;refine sdm A λa A=>?_;refine sdo (v:=pA g2 0) A (qe yg rfl rfl) λa A=>?_;refine sdo A (qt M o93 rfl 0 rfl rfl) λa A=>?_;rcases tf ((d.k != 5))with hb57 | hb57
    ·have hb57':=bne_iff_ne.1 hb57;refine sdc A za hb57 λa A=>?_;refine sdk (v:=bV true) A λa A=>?_;refine sdm A λa A=>?_;refine sdo (v:=pA g2 0) A (qe yg rfl rfl) λa A=>?_;refine sdo A (qt M o93 rfl 0 rfl rfl) λa A=>?_;rcases tf ((d.k != 6))with hb58 | hb58
     ·have hb58':=bne_iff_ne.1 hb58;refine sdc A za hb58 λa A=>?_;refine sdk (v:=bV true) A λa A=>?_;refine sdm A λa A=>?_;refine sdo (v:=pA g2 0) A (qe yg rfl rfl) λa A=>?_;refine sdo A (qt M o93 rfl 0 rfl rfl) λa A=>?_;rcases tf ((d.k != 11))with hb59 | hb59
      ·have hb59':=bne_iff_ne.1 hb59;refine sdc A za hb59 λa A=>?_;refine sdk (v:=bV true) A λa A=>?_;refine qa (hK55 _ _ (ct A ?_));refine wsk fun K60 hK60=>wrl (sda A λa A=>?_);refine qa (hK60 _ _ (wr1 hret A ?_));exact⟨by rw[←hr,jp,sh4 hSA hSB ⟨hb56',by omega,by omega,by omega⟩],M.bel⟩
      ·have hb59':=bne_eq_false_iff_eq.1 hb59;refine sdc A za hb59 λa A=>?_;refine sdk (v:=bV false) A λa A=>?_;refine qa (hK55 _ _ (cf A ?_));refine wp_skip ?_;exact hJ13 _ _ ⟨.inr (by omega),A.keep _ ⟨rfl,rfl,trivial⟩,M⟩
     ·have hb58':=bne_eq_false_iff_eq.1 hb58;refine sdc A za hb58 λa A=>?_;refine sdk (v:=bV false) A λa A=>?_;refine sdm A λa A=>?_;iterate 3 refine qf A rfl rfl rfl λa A=>?_
      refine sdk (v:=bV false) A λa A=>?_;refine qa (hK55 _ _ (cf A ?_));refine wp_skip ?_;exact hJ13 _ _ ⟨.inr (by omega),A.keep _ ⟨rfl,rfl,trivial⟩,M⟩
    ·have hb57':=bne_eq_false_iff_eq.1 hb57;refine sdc A za hb57 λa A=>?_;refine sdk (v:=bV false) A λa A=>?_;refine sdm A λa A=>?_;iterate 3 refine qf A rfl rfl rfl λa A=>?_
     refine sdk (v:=bV false) A λa A=>?_;refine sdm A λa A=>?_;iterate 3 refine qf A rfl rfl rfl λa A=>?_
     refine sdk (v:=bV false) A λa A=>?_;refine qa (hK55 _ _ (cf A ?_));refine wp_skip ?_;exact hJ13 _ _ ⟨.inr (by omega),A.keep _ ⟨rfl,rfl,trivial⟩,M⟩
  refine wsk fun K61 hK61=>wrl (sdo (v:=pA g2 0) A (qe yg rfl rfl) λa A=>?_);refine sdo A (qt M o93 rfl 0 rfl rfl) λa A=>?_;rcases tf ((d.k==3))with hb62 | hb62
  ·have hb62':=eq_of_beq hb62;refine sdc A qg hb62 λa A=>?_;refine qa (hK61 _ _ (ct A ?_));refine wsk fun K63 hK63=>wrl (sdo (v:=pA g2 2) A (qe qod rfl rfl) λa A=>?_);refine sdo A (xn M jcf rfl 0 rfl (cs:=[bV d.y.q.b1,.slice d.y.o1 d.y.q.t1.length d.y.c1,.slice d.y.o2 d.y.q.q1.length d.y.c2,bV d.y.q.b2,.slice d.y.o3 d.y.q.t2.length d.y.c3,.slice d.y.o4 d.y.q.q2.length d.y.c4]) rfl rfl) λa A=>?_;rcases tf (jf d.y.q)with hb64 | hb64
   ·refine gcl A M (ef rfl rfl) (qqc (Nu.below hok.num M.bel) hok.len hb64) fun w66 hb65 M a A=>?_;refine sdo (v:=bV false) A (qp rfl ze) λa A=>?_;refine qa (hK63 _ _ (cf A ?_));refine wp_skip ?_;exact hJ9 _ _ ⟨⟨fun _=>hb64,fun h=>absurd (show d.k=3 by omega) h⟩,A.keep _ ⟨rfl,rfl,trivial⟩,M⟩
   ·refine gcl A M (ef rfl rfl) (qqc (Nu.below hok.num M.bel) hok.len hb64) fun w68 hb67 M a A=>?_;refine sdo (v:=bV true) A (qp rfl ze) λa A=>?_;refine qa (hK63 _ _ (ct A ?_));refine wsk fun K69 hK69=>wrl (sda A λa A=>?_);refine qa (hK69 _ _ (wr1 hret A ?_));exact⟨by rw[←hr,jp,sh2 hSA (by omega) hb64],M.bel⟩
  ·have hb62':=ne_of_beq_false hb62;refine sdc A qg hb62 λa A=>?_;refine qa (hK61 _ _ (cf A ?_));refine wsk fun K70 hK70=>wrl (sdo (v:=pA g2 2) A (qe qod rfl rfl) λa A=>?_);refine sdo (v:=pA g2 2) A (qe jvb rfl rfl) λa A=>?_;refine sdo A (xn M jza rfl 0 rfl (cs:=[bV d.y.q.b1,.slice d.y.o1 d.y.q.t1.length d.y.c1,.slice d.y.o2 d.y.q.q1.length d.y.c2]) rfl rfl) λa A=>?_;rcases tf (qcb d.y.q.b1 d.y.q.t1.length d.y.q.q1.length)with hb71 | hb71
   ·refine gcl A M (ef rfl rfl) (qid hok.len.l1 hok.len.l2 hb71) fun w73 hb72 M a A=>?_;refine sdo (v:=bV false) A (qp rfl ze) λa A=>?_;refine sdm A λa A=>?_;refine sdo (v:=pA g2 2) A (qe qod rfl rfl) λa A=>?_;refine sdo (v:=pA g2 5) A (qe jvc rfl rfl) λa A=>?_;refine sdo A (xn M jza rfl 0 rfl (cs:=[bV d.y.q.b2,.slice d.y.o3 d.y.q.t2.length d.y.c3,.slice d.y.o4 d.y.q.q2.length d.y.c4]) rfl rfl) λa A=>?_;rcases tf (qcb d.y.q.b2 d.y.q.t2.length d.y.q.q2.length)with hb74 | hb74
    ·refine gcl A M (ef rfl rfl) (qid hok.len.l3 hok.len.l4 hb74) fun w76 hb75 M a A=>?_;refine sdo (v:=bV false) A (qp rfl ze) λa A=>?_;refine sdk (v:=bV false) A λa A=>?_;refine qa (hK70 _ _ (cf A ?_));refine wp_skip ?_;exact hJ9 _ _ ⟨⟨fun h=>absurd h (by omega),fun _=>⟨hb71,hb74⟩⟩,A.keep _ ⟨rfl,rfl,trivial⟩,M⟩
    ·refine gcl A M (ef rfl rfl) (qid hok.len.l3 hok.len.l4 hb74) fun w78 hb77 M a A=>?_;refine sdo (v:=bV true) A (qp rfl ze) λa A=>?_;refine sdk (v:=bV true) A λa A=>?_;refine qa (hK70 _ _ (ct A ?_));refine wsk fun K79 hK79=>wrl (sda A λa A=>?_);refine qa (hK79 _ _ (wr1 hret A ?_));exact⟨by rw[←hr,jp,sh3 hSA (by omega) (.inr hb74)],M.bel⟩
   ·refine gcl A M (ef rfl rfl) (qid hok.len.l1 hok.len.l2 hb71) fun w81 hb80 M a A=>?_;refine sdo (v:=bV true) A (qp rfl ze) λa A=>?_;refine sdm A λa A=>?_;iterate 5 refine qf A rfl rfl rfl λa A=>?_
    refine sdk (v:=bV true) A λa A=>?_;refine qa (hK70 _ _ (ct A ?_));refine wsk fun K82 hK82=>wrl (sda A λa A=>?_);refine qa (hK82 _ _ (wr1 hret A ?_));exact⟨by rw[←hr,jp,sh3 hSA (by omega) (.inl hb71)],M.bel⟩
 refine wsk fun K83 hK83=>wrl (sdo (v:=pA g2 0) A (qe yg rfl rfl) λa A=>?_);refine sdo A (qt M o93 rfl 0 rfl rfl) λa A=>?_;rcases tf (decide (d.k<1))with hb84 | hb84
 ·have hb84':=of_decide_eq_true hb84;refine sdc A zs hb84 λa A=>?_;refine sdm A λa A=>?_;iterate 3 refine qf A rfl rfl rfl λa A=>?_
  refine sdk (v:=bV true) A λa A=>?_;refine sdm A λa A=>?_;iterate 4 refine qf A rfl rfl rfl λa A=>?_
  refine sdk (v:=bV true) A λa A=>?_;refine qa (hK83 _ _ (ct A ?_));refine wsk fun K85 hK85=>wrl (sda A λa A=>?_);refine qa (hK85 _ _ (wr1 hret A ?_));exact⟨by rw[←hr,jp,sh1 (by omega)],M.bel⟩
 ·have hb84':=of_decide_eq_false hb84;refine sdc A zs hb84 λa A=>?_;refine sdm A λa A=>?_;refine sdo (v:=pA g2 0) A (qe yg rfl rfl) λa A=>?_;refine sdo A (qt M o93 rfl 0 rfl rfl) λa A=>?_;rcases tf (decide (11<d.k))with hb86 | hb86
  ·have hb86':=of_decide_eq_true hb86;refine sdc A zn hb86 λa A=>?_;refine sdk (v:=bV true) A λa A=>?_;refine sdm A λa A=>?_;iterate 4 refine qf A rfl rfl rfl λa A=>?_
   refine sdk (v:=bV true) A λa A=>?_;refine qa (hK83 _ _ (ct A ?_));refine wsk fun K87 hK87=>wrl (sda A λa A=>?_);refine qa (hK87 _ _ (wr1 hret A ?_));exact⟨by rw[←hr,jp,sh1 (by omega)],M.bel⟩
  ·have hb86':=of_decide_eq_false hb86;refine sdc A zn hb86 λa A=>?_;refine sdk (v:=bV false) A λa A=>?_;refine sdm A λa A=>?_;refine sdo (v:=pA g2 8) A (qe qte rfl rfl) λa A=>?_;refine sdo A (qt M o99 rfl 0 rfl rfl) λa A=>?_;rcases tf (okS d.s)with hb88 | hb88
   ·refine gcl A M (ef rfl rfl) (qwc hs2 hb88) fun w90 hb89 M a A=>?_;refine sdo (v:=bV false) A (qp rfl ze) λa A=>?_;refine sdk (v:=bV false) A λa A=>?_;refine qa (hK83 _ _ (cf A ?_));refine wp_skip ?_;exact hJ5 _ _ ⟨⟨by omega,by omega,hb88⟩,A.keep _ ⟨rfl,rfl,trivial⟩,M⟩
   ·refine gcl A M (ef rfl rfl) (qwc hs2 hb88) fun w92 hb91 M a A=>?_;refine sdo (v:=bV true) A (qp rfl ze) λa A=>?_;refine sdk (v:=bV true) A λa A=>?_;refine qa (hK83 _ _ (ct A ?_));refine wsk fun K93 hK93=>wrl (sda A λa A=>?_);refine qa (hK93 _ _ (wr1 hret A ?_));exact⟨by rw[←hr,jp,sh1 (.inr (.inr hb88))],M.bel⟩

def smT: Tr→Bool
 | .mk _ _ _ s _ _ => decide (s.size ≤ 4000000)
theorem zwe{d:Nd}{ts:List Dt}(h:jo smT (Dt.mk d ts).tr=true):d.s.size≤4000000:=by
 rw[Dt.tr_mk]at h;exact of_decide_eq_true (Bool.and_eq_true_iff.1 (show(decide (d.s.size≤4000000)&&ky smT (ts.map Dt.tr))=true from h)).1
theorem zwf{p:Tr→Bool}:∀{ts:List Tr} {t:Tr},ky p ts=true→t∈ts→jo p t=true
 | u :: us, t, h, hm => by
  obtain⟨a,b⟩:=Bool.and_eq_true_iff.1 (show(jo p u&&ky p us)=true from h);rcases List.mem_cons.1 hm with e | e
  ·subst e; exact a
  ·exact zwf b e
theorem zsb{d:Nd}{ts:List Dt}{t:Dt}(hm:t∈ts)(h:jo smT (Dt.mk d ts).tr=true):jo smT t.tr=true:=by
 rw[Dt.tr_mk]at h;exact zwf (Bool.and_eq_true_iff.1 (show(decide (d.s.size≤4000000)&&ky smT (ts.map Dt.tr))=true from h)).2 (List.mem_map_of_mem hm)
def CountsS(t:Dt):Prop:=∀{w:World} {dp left:Int},t.rd w→jo smT t.tr=true→0≤left→left≤20000→0≤dp→dp≤201→Calls Tryz.prog 17 #[.agg t.cells.toArray,iV dp,iV left] w fun e w'=>e=.returned (iV (qje zg dp left t.tr))∧Below w.heap.size w w'
theorem zsc: ∀t:Dt,CountsS t:=Dt.indT fun d ts ih=>by
 intro w dp left hrd hbk hl0 hl1 hd0 hd1;have hok:=(Dt.rd_iff.1 hrd);have hlen:ts.length≤9223372036854775807:=Nat.le_trans hok.2.1 hok.2.2.1;have M:Mg w w ([]):=Mg.start w;refine qn (l:=[(0,.agg (d.cells ts.length).toArray),(1,iV dp),(2,iV left)]) Tryz.func17 rfl Tryz.ntmps17 rfl rfl ?_;intro Q hret hnorm hP a H;refine wsk fun K1 hK1=>wrl (xq (vs:=[iV d.k,iV d.n,bV d.y.q.b1,.slice d.y.o1 d.y.q.t1.length d.y.c1,.slice d.y.o2 d.y.q.q1.length d.y.c2,bV d.y.q.b2,.slice d.y.o3 d.y.q.t2.length d.y.c3,.slice d.y.o4 d.y.q.q2.length d.y.c4,.string d.s,.slice d.ro d.rl.length d.rc,.slice d.lo ts.length d.lc]) (t:=30) H M rfl rfl rfl pg (zd rfl rfl) (by decide) ?_);intro g2 w3 M a H;refine sda H λa H=>?_;refine qa (hK1 _ _ (wsk fun K4 hK4=>wsk fun K5 hK5=>wrl (sdm H λa H=>?_)));rcases tf (decide (200<dp))with hb6 | hb6
 ·have hb6':=of_decide_eq_true hb6;refine sdc H zn hb6 λa H=>?_;refine sdm H λa H=>?_;iterate 2 refine qf H rfl rfl rfl λa H=>?_
  refine sdk (v:=bV true) H λa H=>?_;refine sdm H λa H=>?_;iterate 3 refine qf H rfl rfl rfl λa H=>?_
  refine sdk (v:=bV true) H λa H=>?_;refine qa (hK5 _ _ (ct H ?_));refine wsk fun K7 hK7=>wrl (sda H λa H=>?_);refine qa (hK7 _ _ (wr1 hret H ?_));rw[zai (by omega)];exact⟨rfl,M.bel⟩
 ·have hb6':=of_decide_eq_false hb6;refine sdc H zn hb6 λa H=>?_;iterate 2 refine sdm H λa H=>?_
  rcases tf (decide (left≤0))with hb8 | hb8
  ·have hb8':=of_decide_eq_true hb8;refine sdc H jh hb8 λa H=>?_;refine sdk (v:=bV true) H λa H=>?_;refine sdm H λa H=>?_;iterate 3 refine qf H rfl rfl rfl λa H=>?_
   refine sdk (v:=bV true) H λa H=>?_;refine qa (hK5 _ _ (ct H ?_));refine wsk fun K9 hK9=>wrl (sda H λa H=>?_);refine qa (hK9 _ _ (wr1 hret H ?_));rw[zai (by omega)];exact⟨rfl,M.bel⟩
  ·have hb8':=of_decide_eq_false hb8;refine sdc H jh hb8 λa H=>?_;refine sdk (v:=bV false) H λa H=>?_;refine sdm H λa H=>?_;refine sdo H (xn M ji rfl 0 rfl (cs:=[iV d.k,iV d.n,bV d.y.q.b1,.slice d.y.o1 d.y.q.t1.length d.y.c1,.slice d.y.o2 d.y.q.q1.length d.y.c2,bV d.y.q.b2,.slice d.y.o3 d.y.q.t2.length d.y.c3,.slice d.y.o4 d.y.q.q2.length d.y.c4,.string d.s,.slice d.ro d.rl.length d.rc,.slice d.lo ts.length d.lc]) rfl rfl) λa H=>?_;rcases tf (ku d.k d.n d.y.q d.s d.rl.length ts.length)with hb10 | hb10
   ·refine gcl H M (ef rfl rfl) (qwd (hok.1.below M.bel) (zwe hbk) hlen hb10) fun w12 hb11 M a H=>?_;refine sdo (v:=bV false) H (qp rfl ze) λa H=>?_;refine sdk (v:=bV false) H λa H=>?_;refine qa (hK5 _ _ (cf H ?_));refine wp_skip (hK4 _ _ (wsk fun K13 hK13=>wrl (sdm H λa H=>?_)));refine sdo (v:=iV (left-1)) H (qb rfl rfl (zsh (uj (by omega) (by omega)))) λa H=>?_;refine sda H λa H=>?_;refine qa (hK13 _ _ (wsk fun K14 hK14=>wsk fun K15 hK15=>wrl (sda H λa H=>?_)));refine qa (hK15 _ _ (wp_block (jd (fun m_ a w1=>∃(i:Nat) (m:Int),m_=1+(ts.length-i)∧(i≤ts.length∧qlj zg dp (decide (d.k=8)) 0 (left-1) ((ts.map Dt.tr).drop 0)=qlj zg dp (decide (d.k=8)) i m ((ts.map Dt.tr).drop i)∧-1≤m∧m≤20000)∧Sl a 52 [(0,.agg (d.cells ts.length).toArray),(1,iV dp),(2,iV m),(3,pA g2 0),(6,iV 0),(7,iV (((i:Nat):Int))),(9,iV dp),(10,bV false),(11,bV false),(12,iV left),(13,bV false),(14,bV false),(15,bV false),(16,.agg (d.cells ts.length).toArray),(17,bV true),(18,bV false),(19,bV false),(20,iV left),(21,iV (left-1))]∧Mg w w1 (.obj g2 (.cells (d.cells ts.length).toArray 30)::[])) _ ⟨0,left-1,rfl,⟨Nat.zero_le _,rfl,by omega,by omega⟩,H.keep _ (by repeat' constructor),M⟩ ?_)));clear M H;rintro m_ a w16 ⟨i,m,rfl,hinv18,H,M⟩ K17 hK17;obtain⟨hi0,hin9,hm0,hm1_⟩:=hinv18;refine wsk fun K19 hK19=>wsk fun K20 hK20=>wrl (sdm H λa H=>?_);refine sdo (v:=pA g2 10) H (qe vy rfl rfl) λa H=>?_;refine sdo H (qt M qfh rfl 0 rfl rfl) λa H=>?_;refine sdo H (zh Tryz.underlying28 rfl) λa H=>?_;rcases tf (decide (((i:Nat):Int)<((ts.length:Nat):Int)))with hb21 | hb21
    ·have hb21':=of_decide_eq_true hb21;refine sdc H zs hb21 λa H=>?_;iterate 2 refine sdm H λa H=>?_
     rcases tf (decide (0≤m))with hb22 | hb22
     ·have hb22':=of_decide_eq_true hb22;refine sdc H jc hb22 λa H=>?_;refine sdk (v:=bV true) H λa H=>?_;refine qa (hK20 _ _ (ct H ?_));refine wp_skip (hK19 _ _ (wsk fun K23 hK23=>wp_block (wsk fun K24 hK24=>wrl (sdm H λa H=>?_))));refine sdo (v:=iV (dp+1)) H (qb rfl rfl (kp (uj (by omega) (by omega)))) λa H=>?_;refine sda H λa H=>?_;refine qa (hK24 _ _ (wsk fun K25 hK25=>wsk fun K26 hK26=>wrl (sdo (v:=pA g2 0) H (qe yg rfl rfl) λa H=>?_)));refine sdo H (qt M o93 rfl 0 rfl rfl) λa H=>?_;rcases tf ((d.k==8))with hb27 | hb27
      ·have hb27':=eq_of_beq hb27;refine sdc H qg hb27 λa H=>?_;iterate 2 refine sdm H λa H=>?_
       rcases tf ((((i:Nat):Int)==1))with hb28 | hb28
       ·have hb28':=eq_of_beq hb28;refine sdc H qg hb28 λa H=>?_;refine sdk (v:=bV true) H λa H=>?_;refine qa (hK26 _ _ (ct H ?_));refine wrl (sdm H λa H=>?_);refine sda H λa H=>?_;refine qa (hK25 _ _ ?_);obtain⟨t1,b1,o1,hi1,hm1,hr1,hl1,hH1⟩:=kid hrd (i:=i) (by omega);have hD:(if decide (d.k=8)=true∧i=1 then dp else dp+1)=dp:=if_pos ⟨decide_eq_true hb27',by omega⟩;refine wrl (sdo (v:=pA g2 10) H (qe vy rfl rfl) λa H=>?_);refine sdo H (qt M qfh rfl 0 rfl rfl) λa H=>?_;refine sdm H λa H=>?_;refine sdo (v:=pA b1 (o1+i*11)) H (js (k:=i) Tryz.underlying28 (by kernel_rfl) rfl rfl rfl hl1 (by omega)) λa H=>?_;refine sdo H (zr M hH1 ji rfl rfl) λa H=>?_;iterate 2 refine sdm H λa H=>?_
        refine gcl H M (ef rfl rfl) (ih t1 hm1 (Dt.keep M.bel _ hr1) (zsb hm1 hbk) (by omega) (by omega) (by omega) (by omega)) fun w30 hb29 M a H=>?_;refine sda H λa H=>?_;refine qa (hK23 _ _ (wrl (sdm H λa H=>?_)));refine sdo (v:=iV (((i+1:Nat):Int))) H (qb rfl rfl (fun w=>(kp (uj (by omega) (by omega)) w).trans (by rw[show(((i:Nat):Int)+1:Int)=((i+1:Nat):Int)from by omega]))) λa H=>?_;refine sda H λa H=>?_;refine qa ?_;have hc9:=zmf zg t1.tr (dp) m (by omega);refine hK17 _ _ _ (by omega) ⟨i+1,qje zg (dp) m t1.tr,rfl,⟨by omega,by rw[hin9,zaj hi1 (by omega) hD],by omega,by omega⟩,H.keep _ (by repeat' constructor),M⟩
       ·have hb28':=ne_of_beq_false hb28;refine sdc H qg hb28 λa H=>?_;refine sdk (v:=bV false) H λa H=>?_;refine qa (hK26 _ _ (cf H ?_));refine wp_skip (hK25 _ _ ?_);obtain⟨t1,b1,o1,hi1,hm1,hr1,hl1,hH1⟩:=kid hrd (i:=i) (by omega);have hD:(if decide (d.k=8)=true∧i=1 then dp else dp+1)=dp+1:=if_neg (fun e=>by omega);refine wrl (sdo (v:=pA g2 10) H (qe vy rfl rfl) λa H=>?_);refine sdo H (qt M qfh rfl 0 rfl rfl) λa H=>?_;refine sdm H λa H=>?_;refine sdo (v:=pA b1 (o1+i*11)) H (js (k:=i) Tryz.underlying28 (by kernel_rfl) rfl rfl rfl hl1 (by omega)) λa H=>?_;refine sdo H (zr M hH1 ji rfl rfl) λa H=>?_;iterate 2 refine sdm H λa H=>?_
        refine gcl H M (ef rfl rfl) (ih t1 hm1 (Dt.keep M.bel _ hr1) (zsb hm1 hbk) (by omega) (by omega) (by omega) (by omega)) fun w32 hb31 M a H=>?_;refine sda H λa H=>?_;refine qa (hK23 _ _ (wrl (sdm H λa H=>?_)));refine sdo (v:=iV (((i+1:Nat):Int))) H (qb rfl rfl (fun w=>(kp (uj (by omega) (by omega)) w).trans (by rw[show(((i:Nat):Int)+1:Int)=((i+1:Nat):Int)from by omega]))) λa H=>?_;refine sda H λa H=>?_;refine qa ?_;have hc9:=zmf zg t1.tr (dp+1) m (by omega);refine hK17 _ _ _ (by omega) ⟨i+1,qje zg (dp+1) m t1.tr,rfl,⟨by omega,by rw[hin9,zaj hi1 (by omega) hD],by omega,by omega⟩,H.keep _ (by repeat' constructor),M⟩
      ·have hb27':=ne_of_beq_false hb27;refine sdc H qg hb27 λa H=>?_;refine sdm H λa H=>?_;iterate 2 refine qf H rfl rfl rfl λa H=>?_
       refine sdk (v:=bV false) H λa H=>?_;refine qa (hK26 _ _ (cf H ?_));refine wp_skip (hK25 _ _ ?_);obtain⟨t1,b1,o1,hi1,hm1,hr1,hl1,hH1⟩:=kid hrd (i:=i) (by omega);have hD:(if decide (d.k=8)=true∧i=1 then dp else dp+1)=dp+1:=if_neg (fun e=>hb27' (of_decide_eq_true e.1));refine wrl (sdo (v:=pA g2 10) H (qe vy rfl rfl) λa H=>?_);refine sdo H (qt M qfh rfl 0 rfl rfl) λa H=>?_;refine sdm H λa H=>?_;refine sdo (v:=pA b1 (o1+i*11)) H (js (k:=i) Tryz.underlying28 (by kernel_rfl) rfl rfl rfl hl1 (by omega)) λa H=>?_;refine sdo H (zr M hH1 ji rfl rfl) λa H=>?_;iterate 2 refine sdm H λa H=>?_
       refine gcl H M (ef rfl rfl) (ih t1 hm1 (Dt.keep M.bel _ hr1) (zsb hm1 hbk) (by omega) (by omega) (by omega) (by omega)) fun w34 hb33 M a H=>?_;refine sda H λa H=>?_;refine qa (hK23 _ _ (wrl (sdm H λa H=>?_)));refine sdo (v:=iV (((i+1:Nat):Int))) H (qb rfl rfl (fun w=>(kp (uj (by omega) (by omega)) w).trans (by rw[show(((i:Nat):Int)+1:Int)=((i+1:Nat):Int)from by omega]))) λa H=>?_;refine sda H λa H=>?_;refine qa ?_;have hc9:=zmf zg t1.tr (dp+1) m (by omega);refine hK17 _ _ _ (by omega) ⟨i+1,qje zg (dp+1) m t1.tr,rfl,⟨by omega,by rw[hin9,zaj hi1 (by omega) hD],by omega,by omega⟩,H.keep _ (by repeat' constructor),M⟩
     ·have hb22':=of_decide_eq_false hb22;refine sdc H jc hb22 λa H=>?_;refine sdk (v:=bV false) H λa H=>?_;refine qa (hK20 _ _ (cf H ?_));refine wp_exit (hK14 _ _ (wsk fun K35 hK35=>wrl (sdm H λa H=>?_)));refine sda H λa H=>?_;refine qa (hK35 _ _ (wr1 hret H ?_));rw[ztb (by omega) (by omega) (by rw[qhg]; exact hb10),hin9,qsf (by omega)];exact⟨rfl,M.bel⟩
    ·have hb21':=of_decide_eq_false hb21;refine sdc H zs hb21 λa H=>?_;refine sdm H λa H=>?_;iterate 2 refine qf H rfl rfl rfl λa H=>?_
     refine sdk (v:=bV false) H λa H=>?_;refine qa (hK20 _ _ (cf H ?_));refine wp_exit (hK14 _ _ (wsk fun K36 hK36=>wrl (sdm H λa H=>?_)));refine sda H λa H=>?_;refine qa (hK36 _ _ (wr1 hret H ?_));rw[ztb (by omega) (by omega) (by rw[qhg]; exact hb10),hin9,qhf (by omega),qlj];exact⟨rfl,M.bel⟩
   ·refine gcl H M (ef rfl rfl) (qwd (hok.1.below M.bel) (zwe hbk) hlen hb10) fun w38 hb37 M a H=>?_;refine sdo (v:=bV true) H (qp rfl ze) λa H=>?_;refine sdk (v:=bV true) H λa H=>?_;refine qa (hK5 _ _ (ct H ?_));refine wsk fun K39 hK39=>wrl (sda H λa H=>?_);refine qa (hK39 _ _ (wr1 hret H ?_));rw[zai (.inr (.inr (by rw[qhg]; exact hb10)))];exact⟨rfl,M.bel⟩
theorem zsd{w:World}{d:Nd}{ts:List Dt}(hrd:(Dt.mk d ts).rd w)(hbk:jo smT (Dt.mk d ts).tr=true):Calls Tryz.prog 10 #[.agg (d.cells ts.length).toArray] w fun e w'=>e=.returned (bV (kf zg (Dt.mk d ts).tr))∧Below w.heap.size w w':=by
 have M:Mg w w ([]):=Mg.start w;refine qn (l:=[(0,.agg (d.cells ts.length).toArray)]) Tryz.func10 rfl Tryz.ntmps10 rfl rfl ?_;intro Q hret hnorm hP a H;refine wsk fun K1 hK1=>wrl (xq (vs:=[iV d.k,iV d.n,bV d.y.q.b1,.slice d.y.o1 d.y.q.t1.length d.y.c1,.slice d.y.o2 d.y.q.q1.length d.y.c2,bV d.y.q.b2,.slice d.y.o3 d.y.q.t2.length d.y.c3,.slice d.y.o4 d.y.q.q2.length d.y.c4,.string d.s,.slice d.ro d.rl.length d.rc,.slice d.lo ts.length d.lc]) (t:=30) H M rfl rfl rfl pg (zd rfl rfl) (by decide) ?_);intro g2 w3 M a H;refine sda H λa H=>?_;refine qa (hK1 _ _ (wsk fun K4 hK4=>wrl (sdo H (xn M ji rfl 0 rfl (cs:=[iV d.k,iV d.n,bV d.y.q.b1,.slice d.y.o1 d.y.q.t1.length d.y.c1,.slice d.y.o2 d.y.q.q1.length d.y.c2,bV d.y.q.b2,.slice d.y.o3 d.y.q.t2.length d.y.c3,.slice d.y.o4 d.y.q.q2.length d.y.c4,.string d.s,.slice d.ro d.rl.length d.rc,.slice d.lo ts.length d.lc]) rfl rfl) λa H=>?_)));refine gcl H M (ef rfl rfl) (zsc (Dt.mk d ts) (Dt.keep M.bel _ hrd) hbk (by omega) (by omega) (by omega) (by omega)) fun w5 hb9 M a H=>?_;refine sdo (v:=bV (decide (0≤qje zg 1 20000 (Dt.mk d ts).tr))) H (qb rfl rfl jc) λa H=>?_;refine sda H λa H=>?_;refine qa (hK4 _ _ (wr1 hret H ?_));exact⟨by rw[←zfb],M.bel⟩
theorem jq{w:World}{t:Dt}(hrd:t.rd w)(hbk:jo smT t.tr=true):Calls Tryz.prog 10 #[.agg t.cells.toArray] w fun e w'=>e=.returned (bV (kf zg t.tr))∧Below w.heap.size w w':=by
 obtain⟨d,ts⟩:=t;exact zsd hrd hbk
theorem zlf: ∀(f:Nat) (l:List UInt8) (r:List UInt8×Nat),qce f l=some r→r.1.length≤4*f
 | 0, l, r, h => by rw [qce] at h; cases h
 | f + 1, l, r, h => by
  rw[qce]at h;by_cases c1:Lib.hasPrefix l [34]=true
  ·rw[if_pos c1]at h; cases h; exact Nat.zero_le _
  rw[if_neg c1]at h;by_cases c2:l.isEmpty=true
  ·rw[if_pos c2]at h; cases h
  rw[if_neg c2]at h;obtain⟨⟨c,n⟩,h1,h⟩:=Option.bind_eq_some_iff.1 h;obtain⟨v,h2,rfl⟩:=Option.map_eq_some_iff.1 h;show(Lib.encodeRune c++v.1).length≤_;have h3:=zlf f _ _ h2;have h4:=(kd c).2;rw[List.length_append];omega
theorem qwe: ∀(f:Nat) (ne:Bool) (l r:List UInt8),qeh f ne l=some r→r.length≤4*f
 | 0, ne, l, r, h => by rw [qeh] at h; cases h
 | f + 1, ne, l, r, h => by
  rw[qeh]at h;by_cases c2:l.isEmpty=true
  ·rw[if_pos c2]at h; cases h; exact Nat.zero_le _
  rw[if_neg c2]at h;obtain⟨⟨c,n⟩,h1,h⟩:=Option.bind_eq_some_iff.1 h;obtain⟨v,h2,rfl⟩:=Option.map_eq_some_iff.1 h;show(Lib.encodeRune c++v).length≤_;have h3:=qwe f _ _ _ h2;have h4:=(kd c).2;rw[List.length_append];omega
theorem jle{l r:List UInt8}(h:qgi l=some r):r.length≤4*l.length+8:=by
 unfold qgi at h;by_cases c1:l=[43]
 ·rw[if_pos c1]at h; cases h; omega
 rw[if_neg c1]at h;by_cases c2:l=[45]
 ·rw[if_pos c2]at h; cases h; omega
 rw[if_neg c2]at h;by_cases c3:l=[46,46,46]
 ·rw[if_pos c3]at h; cases h; omega
 rw[if_neg c3]at h;by_cases c4:Lib.hasPrefix l [45,62]=true
 ·rw[if_pos c4]at h;obtain⟨v,h2,rfl⟩:=Option.map_eq_some_iff.1 h;show(45::62::v).length≤_;have:=qwe _ _ _ _ h2;simp only[List.length_cons];omega
 rw[if_neg c4]at h;have:=qwe _ _ _ _ h;omega
theorem jlf(l:List UInt8):(tkX l).length≤l.length:=by
 unfold tkX;rw[List.length_take];omega
theorem yl{k n:Int}{s:ByteArray}(h:s.size≤4000000):jo smT (lfT k n s)=true:=by
 show(decide (s.size≤4000000)&&true)=true;rw[decide_eq_true h];rfl
theorem jag{W:List UInt8}{t:Tr}(hW:W.length≤65536)(h:qcf W=some (t,false)):jo smT t=true:=by
 unfold qcf at h;by_cases c1:W=[35,116]
 ·rw[if_pos c1]at h; cases h; exact yl (by decide)
 rw[if_neg c1]at h;by_cases c2:W=[35,84]
 ·rw[if_pos c2]at h; cases h; exact yl (by decide)
 rw[if_neg c2]at h;by_cases c3:W=[35,102]
 ·rw[if_pos c3]at h; cases h; exact yl (by decide)
 rw[if_neg c3]at h;by_cases c4:W=[35,70]
 ·rw[if_pos c4]at h; cases h; exact yl (by decide)
 rw[if_neg c4]at h;by_cases c5:Lib.hasPrefix W [35,92]=true
 ·rw[if_pos c5]at h;obtain⟨v,h2,e⟩:=Option.map_eq_some_iff.1 h;cases e
  exact yl (by decide)
 rw[if_neg c5]at h;by_cases c6:(vf W 10).2=0
 ·rw[if_pos c6]at h;cases h
  rfl
 rw[if_neg c6]at h;by_cases c7:(vf W 10).2=4
 ·rw[if_pos c7]at h; cases h
 rw[if_neg c7]at h;obtain⟨v,h2,e⟩:=Option.map_eq_some_iff.1 h;cases e
 exact yl (by rw[jx]; have:=jle h2; omega)
theorem vj: ∀{ts:List Tr} {z:Tr},ky smT ts=true→jo smT z=true→jo smT (xe ts z)=true
 | [], z, _, h => h
 | t :: ts, z, h1, h => by
  obtain⟨a,b⟩:=Bool.and_eq_true_iff.1 (show(jo smT t&&ky smT ts)=true from h1);show(smT (.mk 8 0 Q6.zero ⟨#[]⟩ [] [t,xe ts z])&&(jo smT t&&(jo smT (xe ts z)&&true)))=true;rw[a,vj b h,show smT (.mk 8 0 Q6.zero ⟨#[]⟩ [] [t,xe ts z])=true from rfl];rfl
theorem yr: jo smT nilT=true:=rfl
theorem qpe: jo smT qnb=true:=rfl
theorem ks{ts:List Tr}(h:ky smT ts=true):jo smT (qvd ts)=true:=by
 show(true&&ky smT ts)=true;rw[h]; rfl
theorem jah(l:List UInt8):jo smT (zra l)=true:=rfl
theorem zac: ∀f:Nat,(∀l t n,l.length≤65536→dat f l=some (t,n,false)→jo smT t=true)∧(∀e l ts n,List.length l≤65536→itm f e l=some (ts,n,false)→ky smT ts=true)∧(∀e h l ts z n,List.length l≤65536→lst f e h l=some (ts,z,n,false)→ky smT ts=true∧jo smT z=true)
 | 0 => ⟨fun l t n _ h => (by rw [dat] at h; cases h), fun e l ts n _ h => (by rw [itm] at h; cases h), fun e h l ts z n _ k => (by rw [lst] at k; cases k)⟩
 | f + 1 => by
  obtain⟨hd,hi,hl⟩:=zac f;refine⟨fun l t n hq h=>?_,fun e l ts n hq h=>?_,fun e hh l ts z n hq h=>?_⟩;all_goals have hdr:∀k,(l.drop k).length≤65536:=fun k=>by rw[List.length_drop]; omega
  ·rw[dat]at h;by_cases c1:Lib.hasPrefix l [40]=true
   ·rw[if_pos c1]at h;obtain⟨⟨ts,z,m,b⟩,hx,e⟩:=Option.map_eq_some_iff.1 h;cases e
    exact vj (hl _ _ _ _ _ _ (by simp only[List.length_drop]; omega) hx).1 (hl _ _ _ _ _ _ (by simp only[List.length_drop]; omega) hx).2
   rw[if_neg c1]at h;by_cases c2:Lib.hasPrefix l [91]=true
   ·rw[if_pos c2]at h;obtain⟨⟨ts,z,m,b⟩,hx,e⟩:=Option.map_eq_some_iff.1 h;cases e
    exact vj (hl _ _ _ _ _ _ (by simp only[List.length_drop]; omega) hx).1 (hl _ _ _ _ _ _ (by simp only[List.length_drop]; omega) hx).2
   rw[if_neg c2]at h;by_cases c3:Lib.hasPrefix l [35,40]=true
   ·rw[if_pos c3]at h;obtain⟨⟨ts,m,b⟩,hx,e⟩:=Option.map_eq_some_iff.1 h;cases e
    exact ks (hi _ _ _ _ (by simp only[List.length_drop]; omega) hx)
   rw[if_neg c3]at h;by_cases c4:Lib.hasPrefix l [35,118,117,56,40]=true
   ·rw[if_pos c4]at h;obtain⟨⟨us,m,b⟩,_,h⟩:=Option.bind_eq_some_iff.1 h;obtain⟨y,_,e⟩:=Option.map_eq_some_iff.1 h;cases e
    exact jah y
   rw[if_neg c4]at h;by_cases c5:Lib.hasPrefix l [39]=true
   ·rw[if_pos c5]at h;obtain⟨x,_,h⟩:=Option.bind_eq_some_iff.1 h;obtain⟨⟨y,m,b⟩,hy,e⟩:=Option.map_eq_some_iff.1 h;cases e
    exact vj (by show(jo smT qnb&&(jo smT y&&true))=true; rw[qpe,hd _ _ _ (by simp only[List.length_drop]; omega) hy]; rfl) yr
   rw[if_neg c5]at h;by_cases c6:Lib.hasPrefix l [34]=true
   ·rw[if_pos c6]at h;obtain⟨x,hx,e⟩:=Option.map_eq_some_iff.1 h;cases e
    exact yl (by rw[jx]; have h9:=zlf _ _ _ hx; have h8:=hdr 1; omega)
   rw[if_neg c6]at h;unfold qga at h;by_cases c7:tkX l=[]
   ·rw[if_pos c7]at h; cases h
   ·rw[if_neg c7]at h;obtain⟨⟨x,b⟩,hx,e⟩:=Option.map_eq_some_iff.1 h;cases e
    exact jag (by have h9:=jlf l; omega) hx
  ·rw[itm]at h;obtain⟨m,_,h⟩:=Option.bind_eq_some_iff.1 h;by_cases c:m.1=true
   ·rw[if_pos c]at h;obtain⟨⟨t,k,b⟩,h1,h⟩:=Option.bind_eq_some_iff.1 h;obtain⟨⟨us,k2,b2⟩,h2,e9⟩:=Option.map_eq_some_iff.1 h;have e2:(b||b2)=false:=(congrArg (fun x=>x.2.2) e9);obtain⟨rfl,rfl⟩:=Bool.or_eq_false_iff.1 e2;have e3:t::us=ts:=congrArg (fun x=>x.1) e9;subst e3;show(jo smT t&&ky smT us)=true;rw[hd _ _ _ (by simp only[List.length_drop]; omega) h1,hi _ _ _ _ (by simp only[List.length_drop]; omega) h2]; rfl
   ·rw[if_neg c]at h;cases h; rfl
  ·rw[lst]at h;obtain⟨m,_,h⟩:=Option.bind_eq_some_iff.1 h;by_cases c:m.1=true
   ·rw[if_pos c]at h;by_cases d:qef (l.drop m.2)=true
    ·rw[if_pos d]at h;by_cases k:hh=true
     ·rw[if_pos k]at h; cases h
     rw[if_neg k]at h;obtain⟨b9,_,h⟩:=Option.bind_eq_some_iff.1 h;obtain⟨⟨t,k1,b⟩,h1,h⟩:=Option.bind_eq_some_iff.1 h;obtain⟨k3,_,h⟩:=Option.bind_eq_some_iff.1 h
     split at h
     ·cases h
     ·cases h
      exact⟨rfl,hd _ _ _ (by simp only[List.length_drop]; omega) h1⟩
    ·rw[if_neg d]at h;obtain⟨⟨t,k1,b⟩,h1,h⟩:=Option.bind_eq_some_iff.1 h;obtain⟨⟨us,z2,k2,b2⟩,h2,e9⟩:=Option.map_eq_some_iff.1 h;have e2:(b||b2)=false:=(congrArg (fun x=>x.2.2.2) e9);obtain⟨rfl,rfl⟩:=Bool.or_eq_false_iff.1 e2;have e3:t::us=ts:=congrArg (fun x=>x.1) e9;have e4:z2=z:=congrArg (fun x=>x.2.1) e9;subst e3 e4;refine⟨?_,(hl _ _ _ _ _ _ (by simp only[List.length_drop]; omega) h2).2⟩;show(jo smT t&&ky smT us)=true;rw[hd _ _ _ (by simp only[List.length_drop]; omega) h1,(hl _ _ _ _ _ _ (by simp only[List.length_drop]; omega) h2).1]; rfl
   ·rw[if_neg c]at h;cases h
    exact⟨rfl,yr⟩
theorem jai{L:List UInt8}(h:(rdX L).1=0):jo smT (rdX L).2.2=true:=by
 have hl:=zke h;rw[jid (by omega)]at h ⊢;unfold frX at h ⊢;cases hs:skp (2*L.length+1) L with
 | none => rw [hs] at h; cases h
 | some a =>
  rw[hs]at h;simp only at h ⊢;by_cases c:(L.drop a).isEmpty=true
  ·rw[if_pos c]at h; cases h
  rw[if_neg c]at h ⊢;cases hd:dat (2*L.length+1) (L.drop a)with
  | none => rw [hd] at h; cases h
  | some r =>
   rw[hd]at h;simp only at h ⊢;by_cases v:Lib.validD (L.take (a+r.2.1))=true
   ·rw[if_pos v]at h ⊢;by_cases b:r.2.2=true
    ·rw[if_pos b]at h; cases h
    rw[if_neg b]at h ⊢;by_cases ft:(jj 1 20000 r.1).1=true
    ·rw[if_pos ft];obtain⟨t,n,b9⟩:=r;have e:b9=false:=(by simpa using b);subst e;exact(zac _).1 _ _ _ (by rw[List.length_drop]; omega) hd
    ·rw[if_neg ft]at h; cases h
   ·rw[if_neg v]at h; cases h
end Go.Proofs.YtgjohjfehgdgbaaGreatDoor.G
namespace Go.Proofs.YtgjohjfehgdgbaaGreatDoor
open Go.RowKit
set_option maxRecDepth 100000
theorem EqO_fld_26_0: FieldAt Tryz.prog 26 0 0:=⟨_,_,Tryz.underlying26,rfl,rfl,by kernel_rfl⟩
theorem EqO_fld_26_1: FieldAt Tryz.prog 26 1 3:=⟨_,_,Tryz.underlying26,rfl,rfl,by kernel_rfl⟩
theorem EqO_isS_24: IsS Tryz.prog 24 3:=⟨⟨_,Tryz.underlying24⟩,by kernel_rfl⟩
theorem zse{w:World}{p q:Q6}{a1 a2 a3 a4:Option Addr}{ac1 ac2 ac3 ac4:Nat}(ha:Nm w p a1 ac1 a2 ac2 a3 ac3 a4 ac4)(hl:LenQ p){u1 u2 u3 u4:Option Addr}{uc1 uc2 uc3 uc4:Nat}(hu:Nm w q u1 uc1 u2 uc2 u3 uc3 u4 uc4)(hm:LenQ q){r:Bool}(hr:(yu p.b1 p.t1 p.q1 q.b1 q.t1 q.q1&&yu p.b2 p.t2 p.q2 q.b2 q.t2 q.q2)=r):Calls Tryz.prog 18 #[qkd p a1 ac1 a2 ac2 a3 ac3 a4 ac4,qkd q u1 uc1 u2 uc2 u3 uc3 u4 uc4] w fun e w'=>e=.returned (bV r)∧Below w.heap.size w w':=by
 have S:St w w [] [(u4,q.q2),(u3,q.t2),(u2,q.q1),(u1,q.t1),(a4,p.q2),(a3,p.t2),(a2,p.q1),(a1,p.t1)] []:=((((((((St.start w).addR ha.s1.rd).addR ha.s2.rd).addR ha.s3.rd).addR ha.s4.rd).addR hu.s1.rd).addR hu.s2.rd).addR hu.s3.rd).addR hu.s4.rd;refine qn (l:=[(0,.agg #[bV p.b1,.slice a1 p.t1.length ac1,.slice a2 p.q1.length ac2,bV p.b2,.slice a3 p.t2.length ac3,.slice a4 p.q2.length ac4]),(1,.agg #[bV q.b1,.slice u1 q.t1.length uc1,.slice u2 q.q1.length uc2,bV q.b2,.slice u3 q.t2.length uc3,.slice u4 q.q2.length uc4])]) Tryz.func18 rfl Tryz.ntmps18 rfl rfl ?_;intro Q hret hnorm hP a A;refine wsk fun K1 hK1=>wrl (qy A S rfl rfl rfl pg (zd rfl rfl) rfl ?_);intro g2 w3 S a A;refine qy A S rfl rfl rfl pg (zd rfl rfl) rfl ?_;intro g4 w5 S a A;refine sda A λa A=>?_;refine qa (hK1 _ _ (wsk fun K6 hK6=>wrl (sdo (v:=pA g2 0) A (qe EqO_fld_26_0 rfl rfl) λa A=>?_)));refine sdo A (qr S EqO_isS_24 rfl 1 rfl (cs:=[bV p.b1,.slice a1 p.t1.length ac1,.slice a2 p.q1.length ac2]) rfl rfl) λa A=>?_;refine sdo (v:=pA g4 0) A (qe EqO_fld_26_0 rfl rfl) λa A=>?_;refine sdo A (qr S EqO_isS_24 rfl 0 rfl (cs:=[bV q.b1,.slice u1 q.t1.length uc1,.slice u2 q.q1.length uc2]) rfl rfl) λa A=>?_;rcases tf (yu p.b1 p.t1 p.q1 q.b1 q.t1 q.q1)with hb7 | hb7
 ·refine sct A (ef rfl rfl) (qbg ⟨(S.rd 7 rfl),ha.s1.nil,ha.s1.cap⟩ ⟨(S.rd 6 rfl),ha.s2.nil,ha.s2.cap⟩ ⟨(S.rd 3 rfl),hu.s1.nil,hu.s1.cap⟩ ⟨(S.rd 2 rfl),hu.s2.nil,hu.s2.cap⟩ hl.l1 hl.l2 hm.l1 hm.l2 hb7) ?_;rintro _ w9 ⟨rfl,hb8⟩;replace S:=S.call hb8;refine⟨_,rfl,?_⟩;intro a A;refine sdm A λa A=>?_;refine sdo (v:=pA g2 3) A (qe EqO_fld_26_1 rfl rfl) λa A=>?_;refine sdo A (qr S EqO_isS_24 rfl 1 rfl (cs:=[bV p.b2,.slice a3 p.t2.length ac3,.slice a4 p.q2.length ac4]) rfl rfl) λa A=>?_;refine sdo (v:=pA g4 3) A (qe EqO_fld_26_1 rfl rfl) λa A=>?_;refine sdo A (qr S EqO_isS_24 rfl 0 rfl (cs:=[bV q.b2,.slice u3 q.t2.length uc3,.slice u4 q.q2.length uc4]) rfl rfl) λa A=>?_;rcases tf (yu p.b2 p.t2 p.q2 q.b2 q.t2 q.q2)with hb10 | hb10
  ·refine sct A (ef rfl rfl) (qbg ⟨(S.rd 5 rfl),ha.s3.nil,ha.s3.cap⟩ ⟨(S.rd 4 rfl),ha.s4.nil,ha.s4.cap⟩ ⟨(S.rd 1 rfl),hu.s3.nil,hu.s3.cap⟩ ⟨(S.rd 0 rfl),hu.s4.nil,hu.s4.cap⟩ hl.l3 hl.l4 hm.l3 hm.l4 hb10) ?_;rintro _ w12 ⟨rfl,hb11⟩;replace S:=S.call hb11;refine⟨_,rfl,?_⟩;intro a A;refine sdk (v:=bV true) A λa A=>?_;refine sda A λa A=>?_;refine qa (hK6 _ _ (wr1 hret A ?_));subst hr;exact⟨by rw[hb7,hb10]; try rfl,S.bel⟩
  ·refine sct A (ef rfl rfl) (qbg ⟨(S.rd 5 rfl),ha.s3.nil,ha.s3.cap⟩ ⟨(S.rd 4 rfl),ha.s4.nil,ha.s4.cap⟩ ⟨(S.rd 1 rfl),hu.s3.nil,hu.s3.cap⟩ ⟨(S.rd 0 rfl),hu.s4.nil,hu.s4.cap⟩ hl.l3 hl.l4 hm.l3 hm.l4 hb10) ?_;rintro _ w14 ⟨rfl,hb13⟩;replace S:=S.call hb13;refine⟨_,rfl,?_⟩;intro a A;refine sdk (v:=bV false) A λa A=>?_;refine sda A λa A=>?_;refine qa (hK6 _ _ (wr1 hret A ?_));subst hr;exact⟨by rw[hb7,hb10]; try rfl,S.bel⟩
 ·refine sct A (ef rfl rfl) (qbg ⟨(S.rd 7 rfl),ha.s1.nil,ha.s1.cap⟩ ⟨(S.rd 6 rfl),ha.s2.nil,ha.s2.cap⟩ ⟨(S.rd 3 rfl),hu.s1.nil,hu.s1.cap⟩ ⟨(S.rd 2 rfl),hu.s2.nil,hu.s2.cap⟩ hl.l1 hl.l2 hm.l1 hm.l2 hb7) ?_;rintro _ w16 ⟨rfl,hb15⟩;replace S:=S.call hb15;refine⟨_,rfl,?_⟩;intro a A;refine sdm A λa A=>?_;iterate 5 refine qf A rfl rfl rfl λa A=>?_
  refine sdk (v:=bV false) A λa A=>?_;refine sda A λa A=>?_;refine qa (hK6 _ _ (wr1 hret A ?_));subst hr;exact⟨by rw[hb7]; try rfl,S.bel⟩

end Go.Proofs.YtgjohjfehgdgbaaGreatDoor
namespace Go.Proofs.YtgjohjfehgdgbaaGreatDoor.G
open Go.RowKit
mutual
def qdi: Tr→Tr→Bool
  | .mk k n q s rl ts, u => (decide (k = u.k) && (decide (n = u.n) && (decide (s = u.s) && (decide (rl = u.rl) && (yu q.b1 q.t1 q.q1 u.q.b1 u.q.t1 u.q.q1 && yu q.b2 q.t2 q.q2 u.q.b2 u.q.t2 u.q.q2))))) && (decide (ts.length = u.ts.length) && ux ts u.ts)
def ux: List Tr→List Tr→Bool
  | [], _ => true
  | _ :: _, [] => true
  | t :: ts, u :: us => qdi t u && ux ts us
end
theorem jaj{b b':Bool}{t q t' q':List Nat}:yu b t q b' t' q'=true↔b=b'∧t=t'∧q=q':=by
  unfold yu;simp
theorem jlg(k n:Int)(q:Q6)(s:ByteArray)(rl:List UInt8)(ts:List Tr)(k' n':Int)(q':Q6)(s':ByteArray)(rl':List UInt8)(ts':List Tr):qdi (.mk k n q s rl ts) (.mk k' n' q' s' rl' ts')=true↔k=k'∧n=n'∧q=q'∧s=s'∧rl=rl'∧ts.length=ts'.length∧ux ts ts'=true:=by
  rw[qdi];show((decide (k=k')&&(decide (n=n')&&(decide (s=s')&&(decide (rl=rl')&&(yu q.b1 q.t1 q.q1 q'.b1 q'.t1 q'.q1&&yu q.b2 q.t2 q.q2 q'.b2 q'.t2 q'.q2)))))&&(decide (ts.length=ts'.length)&&ux ts ts'))=true↔_;simp only[Bool.and_eq_true,decide_eq_true_eq,jaj];constructor
  · rintro⟨⟨a,b,c,d,⟨e1,e2,e3⟩,f1,f2,f3⟩,g,h⟩;refine⟨a,b,?_,c,d,g,h⟩;cases q; cases q'
    simp_all
  · rintro⟨a,b,c,d,e,f,g⟩;subst c;exact⟨⟨a,b,d,e,⟨rfl,rfl,rfl⟩,rfl,rfl,rfl⟩,f,g⟩
theorem zlg{ts:List Tr}(h:∀t∈ts,∀u,qdi t u=true↔t=u):∀us:List Tr,ts.length=us.length→(ux ts us=true↔ts=us):=by
  induction ts with
  | nil =>
    intro us hl;cases us with
    | nil => simp [ux]
    | cons u us => simp at hl
  | cons t ts ih =>
    intro us hl;cases us with
    | nil => simp at hl
    | cons u us =>
      rw[ux,Bool.and_eq_true,h t List.mem_cons_self u,ih (fun x hx=>h x (List.mem_cons_of_mem _ hx)) us (by simpa using hl)];simp
theorem qbc: ∀t u:Tr,qdi t u=true↔t=u:=by
  refine Tr.indT fun k n q s rl ts ih u=>?_;obtain⟨k',n',q',s',rl',ts'⟩:=u;rw[jlg];constructor
  · rintro⟨a,b,c,d,e,f,g⟩;rw[a,b,c,d,e,(zlg ih ts' f).1 g]
  · intro h;cases h
    exact⟨rfl,rfl,rfl,rfl,rfl,rfl,(zlg ih ts rfl).2 rfl⟩
theorem zlh{ts us:List Dt}{i:Nat}{t u:Dt}(hi:ts[i]?=some t)(hj:us[i]?=some u):ux ((ts.map Dt.tr).drop i) ((us.map Dt.tr).drop i)=(qdi t.tr u.tr&&ux ((ts.map Dt.tr).drop (i+1)) ((us.map Dt.tr).drop (i+1))):=by
  rw[qaf hi,qaf hj,ux]
theorem jba{ts us:List Dt}{i:Nat}(h:¬i<ts.length):ux ((ts.map Dt.tr).drop i) ((us.map Dt.tr).drop i)=true:=by
  rw[qhf h,ux]
theorem zli(p r:Dt):qdi p.tr r.tr=((decide (p.d.k=r.d.k)&&(decide (p.d.n=r.d.n)&&(decide (p.d.s=r.d.s)&&(decide (p.d.rl=r.d.rl)&&(yu p.d.y.q.b1 p.d.y.q.t1 p.d.y.q.q1 r.d.y.q.b1 r.d.y.q.t1 r.d.y.q.q1&&yu p.d.y.q.b2 p.d.y.q.t2 p.d.y.q.q2 r.d.y.q.b2 r.d.y.q.t2 r.d.y.q.q2)))))&&(decide (p.ts.length=r.ts.length)&&ux (p.ts.map Dt.tr) (r.ts.map Dt.tr))):=by
  rw[Dt.tr_eta p,Dt.tr_eta r,qdi,List.length_map];show _=(_&&(decide (p.ts.length=r.ts.length)&&_));rw[show(Tr.mk r.d.k r.d.n r.d.y.q r.d.s r.d.rl (r.ts.map Dt.tr)).ts.length=r.ts.length from List.length_map _];rfl
def SQ2(p r:Dt):Bool:=yu p.d.y.q.b1 p.d.y.q.t1 p.d.y.q.q1 r.d.y.q.b1 r.d.y.q.t1 r.d.y.q.q1&&yu p.d.y.q.b2 p.d.y.q.t2 p.d.y.q.q2 r.d.y.q.b2 r.d.y.q.t2 r.d.y.q.q2
theorem qfe{p r:Dt}(h:p.d.k≠r.d.k∨p.d.n≠r.d.n∨p.d.s≠r.d.s∨p.d.rl≠r.d.rl∨p.ts.length≠r.ts.length∨SQ2 p r=false):qdi p.tr r.tr=false:=by
  rw[zli];unfold SQ2 at h;rcases h with h | h | h | h | h | h<;>simp[h]
theorem jlh{p r:Dt}(h1:p.d.k=r.d.k)(h2:p.d.n=r.d.n)(h3:p.d.s=r.d.s)(h4:p.d.rl=r.d.rl)(h5:p.ts.length=r.ts.length)(h6:SQ2 p r=true):qdi p.tr r.tr=ux (p.ts.map Dt.tr) (r.ts.map Dt.tr):=by
  rw[zli];unfold SQ2 at h6;rw[decide_eq_true h1,decide_eq_true h2,decide_eq_true h3,decide_eq_true h4,decide_eq_true h5,h6];simp
theorem jbb{a b:List UInt8}(hl:a.length=b.length)(h:∀j,j<a.length→a.getD j 0=b.getD j 0):a=b:=by
  apply List.ext_getElem hl;intro j h1 h2;have:=h j h1
  rwa [show a.getD j 0=a[j]from by simp[List.getD,List.getElem?_eq_getElem h1],show b.getD j 0=b[j]from by simp[List.getD,List.getElem?_eq_getElem h2]]at this
theorem xci{a b:List UInt8}{i:Nat}(h:(((a.getD i 0).toNat:Nat):Int)≠(((b.getD i 0).toNat:Nat):Int)):a≠b:=fun e=>h (by rw[e])
theorem xcj{a b:UInt8}(h:((a.toNat:Nat):Int)=((b.toNat:Nat):Int)):a=b:=UInt8.toNat_inj.1 (by omega)
set_option maxRecDepth 100000
theorem qwf{w:World}{t u:Dt}(ht:t.rd w)(hu:u.rd w){b:Bool}(h:SQ2 t u=b):Calls Tryz.prog 18 #[t.d.y.val,u.d.y.val] w fun e w'=>e=.returned (bV b)∧Below w.heap.size w w':=zse (Dt.okT ht).1.num (Dt.okT ht).1.len (Dt.okT hu).1.num (Dt.okT hu).1.len h
def RSames(n:Nat):Prop:=∀{w:World} {t u:Dt},t.tr.bulk<n→t.rd w→u.rd w→Calls Tryz.prog 12 #[.agg (t.d.cells t.ts.length).toArray,.agg (u.d.cells u.ts.length).toArray] w fun e w'=>e=.returned (bV (qdi t.tr u.tr))∧Below w.heap.size w w'
theorem zlj{n:Nat}(ih:RSames n):RSames (n+1):=by
 intro w t u hn ht hu;have hlt:=(Dt.okT ht).2;have hrt:t.d.rl.length≤9223372036854775807:=Nat.le_trans (Dt.okT ht).1.rcap (Dt.okT ht).1.rmax;have M:Mg w w ([]):=Mg.start w;refine qn (l:=[(0,.agg (t.d.cells t.ts.length).toArray),(1,.agg (u.d.cells u.ts.length).toArray)]) Tryz.func12 rfl Tryz.ntmps12 rfl rfl ?_;intro Q hret hnorm hP a A;refine wsk fun K1 hK1=>wrl (xq (vs:=[iV t.d.k,iV t.d.n,bV t.d.y.q.b1,.slice t.d.y.o1 t.d.y.q.t1.length t.d.y.c1,.slice t.d.y.o2 t.d.y.q.q1.length t.d.y.c2,bV t.d.y.q.b2,.slice t.d.y.o3 t.d.y.q.t2.length t.d.y.c3,.slice t.d.y.o4 t.d.y.q.q2.length t.d.y.c4,.string t.d.s,.slice t.d.ro t.d.rl.length t.d.rc,.slice t.d.lo t.ts.length t.d.lc]) (t:=30) A M rfl rfl rfl pg (zd rfl rfl) (by decide) ?_);intro g2 w3 M a A;refine xq (vs:=[iV u.d.k,iV u.d.n,bV u.d.y.q.b1,.slice u.d.y.o1 u.d.y.q.t1.length u.d.y.c1,.slice u.d.y.o2 u.d.y.q.q1.length u.d.y.c2,bV u.d.y.q.b2,.slice u.d.y.o3 u.d.y.q.t2.length u.d.y.c3,.slice u.d.y.o4 u.d.y.q.q2.length u.d.y.c4,.string u.d.s,.slice u.d.ro u.d.rl.length u.d.rc,.slice u.d.lo u.ts.length u.d.lc]) (t:=30) A M rfl rfl rfl pg (zd rfl rfl) (by decide) ?_;intro g4 w5 M a A;refine sda A λa A=>?_;refine qa (hK1 _ _ (wsk fun K6 hK6=>wsk fun K7 hK7=>wrl (sdo (v:=pA g2 0) A (qe yg rfl rfl) λa A=>?_)));refine sdo A (qt M o93 rfl 1 rfl rfl) λa A=>?_;refine sdo (v:=pA g4 0) A (qe yg rfl rfl) λa A=>?_;refine sdo A (qt M o93 rfl 0 rfl rfl) λa A=>?_;rcases tf ((t.d.k != u.d.k))with hb8 | hb8
 ·have hb8':=bne_iff_ne.1 hb8;refine sdc A za hb8 λa A=>?_;refine sdm A λa A=>?_;iterate 5 refine qf A rfl rfl rfl λa A=>?_
  refine sdk (v:=bV true) A λa A=>?_;refine sdm A λa A=>?_;iterate 5 refine qf A rfl rfl rfl λa A=>?_
  refine sdk (v:=bV true) A λa A=>?_;refine sdm A λa A=>?_;iterate 7 refine qf A rfl rfl rfl λa A=>?_
  refine sdk (v:=bV true) A λa A=>?_;refine sdm A λa A=>?_;iterate 7 refine qf A rfl rfl rfl λa A=>?_
  refine sdk (v:=bV true) A λa A=>?_;refine sdm A λa A=>?_;iterate 6 refine qf A rfl rfl rfl λa A=>?_
  refine sdk (v:=bV true) A λa A=>?_;refine qa (hK7 _ _ (ct A ?_));refine wsk fun K9 hK9=>wrl (sda A λa A=>?_);refine qa (hK9 _ _ (wr1 hret A ?_));exact⟨by rw[qfe (.inl hb8')],M.bel⟩
 ·have hb8':=bne_eq_false_iff_eq.1 hb8;refine sdc A za hb8 λa A=>?_;refine sdm A λa A=>?_;refine sdo (v:=pA g2 1) A (qe qkg rfl rfl) λa A=>?_;refine sdo A (qt M o93 rfl 1 rfl rfl) λa A=>?_;refine sdo (v:=pA g4 1) A (qe qkg rfl rfl) λa A=>?_;refine sdo A (qt M o93 rfl 0 rfl rfl) λa A=>?_;rcases tf ((t.d.n != u.d.n))with hb10 | hb10
  ·have hb10':=bne_iff_ne.1 hb10;refine sdc A za hb10 λa A=>?_;refine sdk (v:=bV true) A λa A=>?_;refine sdm A λa A=>?_;iterate 5 refine qf A rfl rfl rfl λa A=>?_
   refine sdk (v:=bV true) A λa A=>?_;refine sdm A λa A=>?_;iterate 7 refine qf A rfl rfl rfl λa A=>?_
   refine sdk (v:=bV true) A λa A=>?_;refine sdm A λa A=>?_;iterate 7 refine qf A rfl rfl rfl λa A=>?_
   refine sdk (v:=bV true) A λa A=>?_;refine sdm A λa A=>?_;iterate 6 refine qf A rfl rfl rfl λa A=>?_
   refine sdk (v:=bV true) A λa A=>?_;refine qa (hK7 _ _ (ct A ?_));refine wsk fun K11 hK11=>wrl (sda A λa A=>?_);refine qa (hK11 _ _ (wr1 hret A ?_));exact⟨by rw[qfe (.inr (.inl hb10'))],M.bel⟩
  ·have hb10':=bne_eq_false_iff_eq.1 hb10;refine sdc A za hb10 λa A=>?_;refine sdk (v:=bV false) A λa A=>?_;refine sdm A λa A=>?_;refine sdo (v:=pA g2 8) A (qe qte rfl rfl) λa A=>?_;refine sdo A (qt M o99 rfl 1 rfl rfl) λa A=>?_;refine sdo (v:=pA g4 8) A (qe qte rfl rfl) λa A=>?_;refine sdo A (qt M o99 rfl 0 rfl rfl) λa A=>?_;rcases tf (decide (t.d.s=u.d.s))with hb12 | hb12
   ·have hb12':=of_decide_eq_true hb12;refine sdo (v:=bV false) A (qb rfl rfl (fun w=>(qma Tryz.underlying9 w).trans (by rw[hb12]<;>rfl))) λa A=>?_;refine sdk (v:=bV false) A λa A=>?_;refine sdm A λa A=>?_;refine sdo (v:=pA g2 9) A (qe qoe rfl rfl) λa A=>?_;refine sdo A (qt M qtd rfl 1 rfl rfl) λa A=>?_;refine sdo A (zh Tryz.underlying27 rfl) λa A=>?_;refine sdo (v:=pA g4 9) A (qe qoe rfl rfl) λa A=>?_;refine sdo A (qt M qtd rfl 0 rfl rfl) λa A=>?_;refine sdo A (zh Tryz.underlying27 rfl) λa A=>?_;rcases tf ((((t.d.rl.length:Nat):Int) != ((u.d.rl.length:Nat):Int)))with hb13 | hb13
    ·have hb13':=bne_iff_ne.1 hb13;refine sdc A za hb13 λa A=>?_;refine sdk (v:=bV true) A λa A=>?_;refine sdm A λa A=>?_;iterate 7 refine qf A rfl rfl rfl λa A=>?_
     refine sdk (v:=bV true) A λa A=>?_;refine sdm A λa A=>?_;iterate 6 refine qf A rfl rfl rfl λa A=>?_
     refine sdk (v:=bV true) A λa A=>?_;refine qa (hK7 _ _ (ct A ?_));refine wsk fun K14 hK14=>wrl (sda A λa A=>?_);refine qa (hK14 _ _ (wr1 hret A ?_));exact⟨by rw[qfe (.inr (.inr (.inr (.inl (fun e=>hb13' (by rw[e]))))))],M.bel⟩
    ·have hb13':=bne_eq_false_iff_eq.1 hb13;refine sdc A za hb13 λa A=>?_;refine sdk (v:=bV false) A λa A=>?_;refine sdm A λa A=>?_;refine sdo (v:=pA g2 10) A (qe vy rfl rfl) λa A=>?_;refine sdo A (qt M qfh rfl 1 rfl rfl) λa A=>?_;refine sdo A (zh Tryz.underlying28 rfl) λa A=>?_;refine sdo (v:=pA g4 10) A (qe vy rfl rfl) λa A=>?_;refine sdo A (qt M qfh rfl 0 rfl rfl) λa A=>?_;refine sdo A (zh Tryz.underlying28 rfl) λa A=>?_;rcases tf ((((t.ts.length:Nat):Int) != ((u.ts.length:Nat):Int)))with hb15 | hb15
     ·have hb15':=bne_iff_ne.1 hb15;refine sdc A za hb15 λa A=>?_;refine sdk (v:=bV true) A λa A=>?_;refine sdm A λa A=>?_;iterate 6 refine qf A rfl rfl rfl λa A=>?_
      refine sdk (v:=bV true) A λa A=>?_;refine qa (hK7 _ _ (ct A ?_));refine wsk fun K16 hK16=>wrl (sda A λa A=>?_);refine qa (hK16 _ _ (wr1 hret A ?_));exact⟨by rw[qfe (.inr (.inr (.inr (.inr (.inl (fun e=>hb15' (by rw[e])))))))],M.bel⟩
     ·have hb15':=bne_eq_false_iff_eq.1 hb15;refine sdc A za hb15 λa A=>?_;refine sdk (v:=bV false) A λa A=>?_;refine sdm A λa A=>?_;refine sdo (v:=pA g2 2) A (qe qod rfl rfl) λa A=>?_;refine sdo A (xn M jcf rfl 1 rfl (cs:=[bV t.d.y.q.b1,.slice t.d.y.o1 t.d.y.q.t1.length t.d.y.c1,.slice t.d.y.o2 t.d.y.q.q1.length t.d.y.c2,bV t.d.y.q.b2,.slice t.d.y.o3 t.d.y.q.t2.length t.d.y.c3,.slice t.d.y.o4 t.d.y.q.q2.length t.d.y.c4]) rfl rfl) λa A=>?_;refine sdo (v:=pA g4 2) A (qe qod rfl rfl) λa A=>?_;refine sdo A (xn M jcf rfl 0 rfl (cs:=[bV u.d.y.q.b1,.slice u.d.y.o1 u.d.y.q.t1.length u.d.y.c1,.slice u.d.y.o2 u.d.y.q.q1.length u.d.y.c2,bV u.d.y.q.b2,.slice u.d.y.o3 u.d.y.q.t2.length u.d.y.c3,.slice u.d.y.o4 u.d.y.q.q2.length u.d.y.c4]) rfl rfl) λa A=>?_;rcases tf (SQ2 t u)with hb17 | hb17
      ·refine gcl A M (ef rfl rfl) (qwf (Dt.keep M.bel _ ht) (Dt.keep M.bel _ hu) hb17) fun w19 hb18 M a A=>?_;refine sdo (v:=bV false) A (qp rfl ze) λa A=>?_;refine sdk (v:=bV false) A λa A=>?_;refine qa (hK7 _ _ (cf A ?_));refine wp_skip (hK6 _ _ (wsk fun K20 hK20=>wsk fun K21 hK21=>wrl (sda A λa A=>?_)))
       refine qa (hK21 _ _ (wp_block (jd (fun m_ a w1=>∃(i:Nat),m_=1+(t.d.rl.length-i)∧(i≤t.d.rl.length∧∀j,j<i→t.d.rl.getD j 0=u.d.rl.getD j 0)∧Sl a 89 [(0,.agg (t.d.cells t.ts.length).toArray),(1,.agg (u.d.cells u.ts.length).toArray),(2,pA g2 0),(3,pA g4 0),(5,iV (((i:Nat):Int))),(7,pA g2 0),(8,iV t.d.k),(9,pA g4 0),(10,iV u.d.k),(11,bV false),(12,bV false),(13,pA g2 1),(14,iV t.d.n),(15,pA g4 1),(16,iV u.d.n),(17,bV false),(18,bV false),(19,bV false),(20,pA g2 8),(21,.string t.d.s),(22,pA g4 8),(23,.string u.d.s),(24,bV false),(25,bV false),(26,bV false),(27,pA g2 9),(28,.slice t.d.ro t.d.rl.length t.d.rc),(29,iV (((t.d.rl.length:Nat):Int))),(30,pA g4 9),(31,.slice u.d.ro u.d.rl.length u.d.rc),(32,iV (((u.d.rl.length:Nat):Int))),(33,bV false),(34,bV false),(35,bV false),(36,pA g2 10),(37,.slice t.d.lo t.ts.length t.d.lc),(38,iV (((t.ts.length:Nat):Int))),(39,pA g4 10),(40,.slice u.d.lo u.ts.length u.d.lc),(41,iV (((u.ts.length:Nat):Int))),(42,bV false),(43,bV false),(44,bV false),(45,pA g2 2),(46,.agg #[bV t.d.y.q.b1,.slice t.d.y.o1 t.d.y.q.t1.length t.d.y.c1,.slice t.d.y.o2 t.d.y.q.q1.length t.d.y.c2,bV t.d.y.q.b2,.slice t.d.y.o3 t.d.y.q.t2.length t.d.y.c3,.slice t.d.y.o4 t.d.y.q.q2.length t.d.y.c4]),(47,pA g4 2),(48,.agg #[bV u.d.y.q.b1,.slice u.d.y.o1 u.d.y.q.t1.length u.d.y.c1,.slice u.d.y.o2 u.d.y.q.q1.length u.d.y.c2,bV u.d.y.q.b2,.slice u.d.y.o3 u.d.y.q.t2.length u.d.y.c3,.slice u.d.y.o4 u.d.y.q.q2.length u.d.y.c4]),(49,bV true),(50,bV false),(51,bV false)]∧Mg w w1 (.obj g4 (.cells (u.d.cells u.ts.length).toArray 30)::.obj g2 (.cells (t.d.cells t.ts.length).toArray 30)::[])) _ ⟨0,rfl,⟨Nat.zero_le _,fun j hj=>absurd hj (Nat.not_lt_zero _)⟩,A.keep _ (by repeat' constructor),M⟩ ?_)));clear M A;rintro m_ a w22 ⟨i,rfl,hinv24,A,M⟩ K23 hK23;obtain⟨hi0,hin8⟩:=hinv24
       refine wsk fun K25 hK25=>wsk fun K26 hK26=>wrl (sdm A λa A=>?_);refine sdo (v:=pA g2 9) A (qe qoe rfl rfl) λa A=>?_;refine sdo A (qt M qtd rfl 1 rfl rfl) λa A=>?_;refine sdo A (zh Tryz.underlying27 rfl) λa A=>?_;rcases tf (decide (((i:Nat):Int)<((t.d.rl.length:Nat):Int)))with hb27 | hb27
       ·have hb27':=of_decide_eq_true hb27;refine sdc A zs hb27 λa A=>?_;refine qa (hK26 _ _ (ct A ?_));refine wp_skip (hK25 _ _ (wsk fun K28 hK28=>wp_block (wsk fun K29 hK29=>jt (S:=fun w1=>Mg w w1 (.obj g4 (.cells (u.d.cells u.ts.length).toArray 30)::.obj g2 (.cells (t.d.cells t.ts.length).toArray 30)::[])) (by kernel_rfl) ?_)));replace M:=M.drew;refine atk (v:=pA g2 9) A 0 rfl hP (M.sub (cC (cC ns))) (λ_ M=>qe qoe rfl rfl) λa A=>?_;refine atk A 1 rfl hP (M.sub (cC (cC ns))) (λ_ M=>qt M qtd rfl 1 rfl rfl) λa A=>?_;refine atk A 2 rfl hP (M.sub (cC (cC ns))) (λ_ M=>qx rfl) λa A=>?_;obtain⟨bt,ot,ht1,ht2,ht3⟩:=qnh (i:=i) (Dt.okT ht).1.raw (by omega);refine atk (v:=pA bt (ot+i)) A 3 rfl hP (M.sub (cC (cC ns))) (λ_ M=>zy (k:=i) Tryz.underlying27 (by kernel_rfl) rfl rfl rfl ht1 (by omega)) λa A=>?_;refine atk A 4 rfl hP (M.sub (cC (cC ns))) (λ_ M=>qrb M ht2 (ht3 i (by omega)) o95 rfl) λa A=>?_;refine atk (v:=pA g4 9) A 5 rfl hP (M.sub (cC (cC ns))) (λ_ M=>qe qoe rfl rfl) λa A=>?_;refine atk A 6 rfl hP (M.sub (cC (cC ns))) (λ_ M=>qt M qtd rfl 0 rfl rfl) λa A=>?_;refine atk A 7 rfl hP (M.sub (cC (cC ns))) (λ_ M=>qx rfl) λa A=>?_;obtain⟨bu,ou,hu1,hu2,hu3⟩:=qnh (i:=i) (Dt.okT hu).1.raw (by omega);refine atk (v:=pA bu (ou+i)) A 8 rfl hP (M.sub (cC (cC ns))) (λ_ M=>zy (k:=i) Tryz.underlying27 (by kernel_rfl) rfl rfl rfl hu1 (by omega)) λa A=>?_;refine atk A 9 rfl hP (M.sub (cC (cC ns))) (λ_ M=>qrb M hu2 (hu3 i (by omega)) o95 rfl) λa A=>?_;rcases tf (((((t.d.rl.getD i 0).toNat:Nat):Int) != (((u.d.rl.getD i 0).toNat:Nat):Int)))with hb30 | hb30
        ·have hb30':=bne_iff_ne.1 hb30;refine atk (v:=bV true) A 10 rfl hP (M.sub (cC (cC ns))) (λ_ M=>qb rfl rfl (fun w=>(za w).trans (by rw[hb30]))) λa A=>?_;refine zx (by kernel_rfl) ?_;refine hK29 _ _ (ct A ?_);refine wsk fun K31 hK31=>wrl (sda A λa A=>?_);refine qa (hK31 _ _ (wr1 hret A ?_));exact⟨by rw[qfe (.inr (.inr (.inr (.inl (xci hb30')))))],M.bel⟩
        ·have hb30':=bne_eq_false_iff_eq.1 hb30;refine atk (v:=bV false) A 10 rfl hP (M.sub (cC (cC ns))) (λ_ M=>qb rfl rfl (fun w=>(za w).trans (by rw[hb30]))) λa A=>?_;refine zx (by kernel_rfl) ?_;refine hK29 _ _ (cf A ?_);refine wp_skip (hK28 _ _ (wrl (sdm A λa A=>?_)));refine sdo (v:=iV (((i+1:Nat):Int))) A (qb rfl rfl (fun w=>(kp (uj (by omega) (by omega)) w).trans (by rw[show(((i:Nat):Int)+1:Int)=((i+1:Nat):Int)from by omega]))) λa A=>?_;refine sda A λa A=>?_;refine qa ?_;refine hK23 _ _ _ (by omega) ⟨i+1,rfl,⟨by omega,fun j hj=>if h9:j<i then hin8 j h9 else by have h8:j=i:=(by omega); subst h8; exact xcj hb30'⟩,A.keep _ (by repeat' constructor),M⟩
       ·have hb27':=of_decide_eq_false hb27;refine sdc A zs hb27 λa A=>?_;refine qa (hK26 _ _ (cf A ?_));refine wp_exit (hK20 _ _ (wsk fun K32 hK32=>wsk fun K33 hK33=>wrl (sda A λa A=>?_)));refine qa (hK33 _ _ (wp_block ?_));have hrl:t.d.rl=u.d.rl:=jbb (by omega) (fun j hj=>hin8 j (by omega));have hsy:=jlh hb8' hb10' hb12' hrl (by omega) hb17
        refine jd (fun m_ a w1=>∃(j:Nat),m_=1+(t.ts.length-j)∧(j≤t.ts.length∧ux (t.ts.map Dt.tr) (u.ts.map Dt.tr)=ux ((t.ts.map Dt.tr).drop j) ((u.ts.map Dt.tr).drop j))∧Sl a 89 [(0,.agg (t.d.cells t.ts.length).toArray),(1,.agg (u.d.cells u.ts.length).toArray),(2,pA g2 0),(3,pA g4 0),(5,iV (((i:Nat):Int))),(6,iV (((j:Nat):Int))),(7,pA g2 0),(8,iV t.d.k),(9,pA g4 0),(10,iV u.d.k),(11,bV false),(12,bV false),(13,pA g2 1),(14,iV t.d.n),(15,pA g4 1),(16,iV u.d.n),(17,bV false),(18,bV false),(19,bV false),(20,pA g2 8),(21,.string t.d.s),(22,pA g4 8),(23,.string u.d.s),(24,bV false),(25,bV false),(26,bV false),(27,pA g2 9),(28,.slice t.d.ro t.d.rl.length t.d.rc),(29,iV (((t.d.rl.length:Nat):Int))),(30,pA g4 9),(31,.slice u.d.ro u.d.rl.length u.d.rc),(32,iV (((u.d.rl.length:Nat):Int))),(33,bV false),(34,bV false),(35,bV false),(36,pA g2 10),(37,.slice t.d.lo t.ts.length t.d.lc),(38,iV (((t.ts.length:Nat):Int))),(39,pA g4 10),(40,.slice u.d.lo u.ts.length u.d.lc),(41,iV (((u.ts.length:Nat):Int))),(42,bV false),(43,bV false),(44,bV false),(45,pA g2 2),(46,.agg #[bV t.d.y.q.b1,.slice t.d.y.o1 t.d.y.q.t1.length t.d.y.c1,.slice t.d.y.o2 t.d.y.q.q1.length t.d.y.c2,bV t.d.y.q.b2,.slice t.d.y.o3 t.d.y.q.t2.length t.d.y.c3,.slice t.d.y.o4 t.d.y.q.q2.length t.d.y.c4]),(47,pA g4 2),(48,.agg #[bV u.d.y.q.b1,.slice u.d.y.o1 u.d.y.q.t1.length u.d.y.c1,.slice u.d.y.o2 u.d.y.q.q1.length u.d.y.c2,bV u.d.y.q.b2,.slice u.d.y.o3 u.d.y.q.t2.length u.d.y.c3,.slice u.d.y.o4 u.d.y.q.q2.length u.d.y.c4]),(49,bV true),(50,bV false),(51,bV false),(52,iV (((i:Nat):Int))),(53,pA g2 9),(54,.slice t.d.ro t.d.rl.length t.d.rc),(55,iV (((t.d.rl.length:Nat):Int))),(56,bV false)]∧Mg w w1 (.obj g4 (.cells (u.d.cells u.ts.length).toArray 30)::.obj g2 (.cells (t.d.cells t.ts.length).toArray 30)::[])) _ ⟨0,rfl,⟨Nat.zero_le _,rfl⟩,A.keep _ (by repeat' constructor),M⟩ ?_
        clear M A;rintro m_ a w34 ⟨j,rfl,hinv36,A,M⟩ K35 hK35;obtain⟨hi1,hin9⟩:=hinv36;refine wsk fun K37 hK37=>wsk fun K38 hK38=>wrl (sdm A λa A=>?_);refine sdo (v:=pA g2 10) A (qe vy rfl rfl) λa A=>?_;refine sdo A (qt M qfh rfl 1 rfl rfl) λa A=>?_;refine sdo A (zh Tryz.underlying28 rfl) λa A=>?_;rcases tf (decide (((j:Nat):Int)<((t.ts.length:Nat):Int)))with hb39 | hb39
        ·have hb39':=of_decide_eq_true hb39;refine sdc A zs hb39 λa A=>?_;refine qa (hK38 _ _ (ct A ?_));refine wp_skip (hK37 _ _ (wsk fun K40 hK40=>wp_block (wsk fun K41 hK41=>?_)));obtain⟨t1,bt1,ot1,it1,mt1,rt1_,lt1,Ht1⟩:=jmj ht (i:=j) (by omega);obtain⟨u1,bu1,ou1,iu1,mu1,ru1_,lu1,Hu1⟩:=jmj hu (i:=j) (by omega);refine jt (S:=fun w1=>Mg w w1 (.obj g4 (.cells (u.d.cells u.ts.length).toArray 30)::.obj g2 (.cells (t.d.cells t.ts.length).toArray 30)::[])) (by kernel_rfl) ?_;replace M:=M.drew;refine atk (v:=pA g2 10) A 0 rfl hP (M.sub (cC (cC ns))) (λ_ M=>qe vy rfl rfl) λa A=>?_;refine atk A 1 rfl hP (M.sub (cC (cC ns))) (λ_ M=>qt M qfh rfl 1 rfl rfl) λa A=>?_;refine atk A 2 rfl hP (M.sub (cC (cC ns))) (λ_ M=>qx rfl) λa A=>?_;refine atk (v:=pA bt1 (ot1+j*11)) A 3 rfl hP (M.sub (cC (cC ns))) (λ_ M=>js (k:=j) Tryz.underlying28 (by kernel_rfl) rfl rfl rfl lt1 (by omega)) λa A=>?_;refine atk A 4 rfl hP (M.sub (cC (cC ns))) (λ_ M=>zr M Ht1 ji rfl rfl) λa A=>?_;refine atk (v:=pA g4 10) A 5 rfl hP (M.sub (cC (cC ns))) (λ_ M=>qe vy rfl rfl) λa A=>?_;refine atk A 6 rfl hP (M.sub (cC (cC ns))) (λ_ M=>qt M qfh rfl 0 rfl rfl) λa A=>?_;refine atk A 7 rfl hP (M.sub (cC (cC ns))) (λ_ M=>qx rfl) λa A=>?_;refine atk (v:=pA bu1 (ou1+j*11)) A 8 rfl hP (M.sub (cC (cC ns))) (λ_ M=>js (k:=j) Tryz.underlying28 (by kernel_rfl) rfl rfl rfl lu1 (by omega)) λa A=>?_;refine atk A 9 rfl hP (M.sub (cC (cC ns))) (λ_ M=>zr M Hu1 ji rfl rfl) λa A=>?_;rcases tf (qdi t1.tr u1.tr)with hb42 | hb42
         ·refine zm (by kernel_rfl) (xk A 10 rfl rfl rfl rfl (ef rfl rfl) ((hb42▸ih (by have:=jtb mt1; omega) (Dt.keep M.bel _ rt1_) (Dt.keep M.bel _ ru1_))) ?_);rintro _ w44 ⟨rfl,hb43⟩;replace M:=M.call hb43;refine⟨_,rfl,(M.sub (cC (cC ns))),?_⟩;intro a A;refine atk (v:=bV false) A 11 rfl hP (M.sub (cC (cC ns))) (λ_ M=>qp rfl ze) λa A=>?_;refine zx (by kernel_rfl) ?_;refine hK41 _ _ (cf A ?_);refine wp_skip (hK40 _ _ (wrl (sdm A λa A=>?_)));refine sdo (v:=iV (((j+1:Nat):Int))) A (qb rfl rfl (fun w=>(kp (uj (by omega) (by omega)) w).trans (by rw[show(((j:Nat):Int)+1:Int)=((j+1:Nat):Int)from by omega]))) λa A=>?_;refine sda A λa A=>?_;refine qa ?_;refine hK35 _ _ _ (by omega) ⟨j+1,rfl,⟨by omega,by rw[hin9,zlh it1 iu1,hb42,Bool.true_and]⟩,A.keep _ (by repeat' constructor),M⟩
         ·refine zm (by kernel_rfl) (xk A 10 rfl rfl rfl rfl (ef rfl rfl) ((hb42▸ih (by have:=jtb mt1; omega) (Dt.keep M.bel _ rt1_) (Dt.keep M.bel _ ru1_))) ?_);rintro _ w46 ⟨rfl,hb45⟩;replace M:=M.call hb45;refine⟨_,rfl,(M.sub (cC (cC ns))),?_⟩;intro a A;refine atk (v:=bV true) A 11 rfl hP (M.sub (cC (cC ns))) (λ_ M=>qp rfl ze) λa A=>?_;refine zx (by kernel_rfl) ?_;refine hK41 _ _ (ct A ?_);refine wsk fun K47 hK47=>wrl (sda A λa A=>?_);refine qa (hK47 _ _ (wr1 hret A ?_));exact⟨by rw[hsy,hin9,zlh it1 iu1,hb42]; rfl,M.bel⟩
        ·have hb39':=of_decide_eq_false hb39;refine sdc A zs hb39 λa A=>?_;refine qa (hK38 _ _ (cf A ?_));refine wp_exit (hK32 _ _ (wsk fun K48 hK48=>wrl (sda A λa A=>?_)));refine qa (hK48 _ _ (wr1 hret A ?_));exact⟨by rw[hsy,hin9,jba (by omega)],M.bel⟩
      ·refine gcl A M (ef rfl rfl) (qwf (Dt.keep M.bel _ ht) (Dt.keep M.bel _ hu) hb17) fun w50 hb49 M a A=>?_;refine sdo (v:=bV true) A (qp rfl ze) λa A=>?_;refine sdk (v:=bV true) A λa A=>?_;refine qa (hK7 _ _ (ct A ?_));refine wsk fun K51 hK51=>wrl (sda A λa A=>?_);refine qa (hK51 _ _ (wr1 hret A ?_));exact⟨by rw[qfe (.inr (.inr (.inr (.inr (.inr hb17)))))],M.bel⟩
   ·have hb12':=of_decide_eq_false hb12;refine sdo (v:=bV true) A (qb rfl rfl (fun w=>(qma Tryz.underlying9 w).trans (by rw[hb12]<;>rfl))) λa A=>?_;refine sdk (v:=bV true) A λa A=>?_;refine sdm A λa A=>?_;iterate 7 refine qf A rfl rfl rfl λa A=>?_
    refine sdk (v:=bV true) A λa A=>?_;refine sdm A λa A=>?_;iterate 7 refine qf A rfl rfl rfl λa A=>?_
    refine sdk (v:=bV true) A λa A=>?_;refine sdm A λa A=>?_;iterate 6 refine qf A rfl rfl rfl λa A=>?_
    refine sdk (v:=bV true) A λa A=>?_;refine qa (hK7 _ _ (ct A ?_));refine wsk fun K52 hK52=>wrl (sda A λa A=>?_);refine qa (hK52 _ _ (wr1 hret A ?_));exact⟨by rw[qfe (.inr (.inr (.inl hb12')))],M.bel⟩
theorem qwg: ∀n,RSames n
 | 0 => fun h => absurd h (Nat.not_lt_zero _)
 | n + 1 => zlj (qwg n)
theorem qbd{w:World}{t u:Dt}{b:Bool}(ht:t.rd w)(hu:u.rd w)(h:qdi t.tr u.tr=b):Calls Tryz.prog 12 #[.agg (t.d.cells t.ts.length).toArray,.agg (u.d.cells u.ts.length).toArray] w fun e w'=>e=.returned (bV b)∧Below w.heap.size w w':=h▸qwg (t.tr.bulk+1) (Nat.lt_succ_self _) ht hu
def AW: List UInt8:=[32,40,97,32,46,32,35,116,41,120]
def AWT: Tr:=.mk 8 0 Q6.zero ⟨#[]⟩ [] [lfT 6 0 (tx [97]),lfT 2 1 ⟨#[]⟩]
set_option maxRecDepth 100000 in
theorem jye: rdX AW=(0,9,AWT):=by kernel_rfl
theorem jli{w:World}(hN:Env w):Calls Tryz.prog 7 #[.string (tx AW)] w fun e w'=>∃t:Dt,e=.returned (.tuple #[.agg (t.d.cells t.ts.length).toArray,iV 9,iV 0])∧(t.tr=AWT∧t.rd w')∧Below w.heap.size w w':=by
 refine(read_any (L:=AW) (U:=[]) (Z:=[]) hN Cu.nil Ob.nil (by decide) (Mg.start w)).mono ?_;rintro e w' ⟨t,F,rfl,⟨h1,_⟩,⟨hL,_⟩,M⟩;rw[jye]at h1 ⊢;exact⟨t,rfl,⟨h1,hL _ M⟩,M.bel⟩
theorem jub(t:Dt):t.tr.ts=t.ts.map Dt.tr:=by cases t; rw[Dt.tr_mk]; rfl
theorem xec(t:Dt):t.tr.s=t.d.s:=by cases t; rw[Dt.tr_mk]; rfl
theorem xed(t:Dt):t.tr.n=t.d.n:=by cases t; rw[Dt.tr_mk]; rfl
theorem jlj{t u:Dt}{i:Nat}{x:Tr}(h:t.ts[i]?=some u)(hx:t.tr.ts[i]?=some x):u.tr=x:=by
 rw[jub,List.getElem?_map,h]at hx;exact Option.some.inj hx
theorem qpf{w:World}(hN:Env w):Calls Tryz.prog 8 #[] w fun e w'=>e=.returned (bV true)∧Below w.heap.size w w':=by
 have M:Mg w w ([]):=Mg.start w;refine qn (l:=[]) Tryz.func8 rfl Tryz.ntmps8 rfl rfl ?_;intro Q hret hnorm hP a A;refine wsk fun K1 hK1=>wrl (sda A λa A=>?_);refine qa (hK1 _ _ (wsk fun K2 hK2=>wrl (sct A (ef rfl rfl) (jli hN) ?_)));rintro _ w3 ⟨t1,rfl,⟨htr1,hr1⟩,hB1⟩;have hk8:t1.d.k=8:=by rw[←xdb,htr1]; rfl
 have hln:t1.ts.length=2:=by rw[←List.length_map (f:=Dt.tr),←jub,htr1]; rfl
 obtain⟨ta,bta,ota,ita,mta,rta_,lta,Hta⟩:=jmj hr1 (i:=0) (by omega);obtain⟨tb,btb,otb,itb,mtb,rtb_,ltb,Htb⟩:=jmj hr1 (i:=1) (by omega);have hsq:decide (ta.d.s=⟨#[97]⟩)=true:=decide_eq_true (by rw[←xec,jlj ita (by rw[htr1]; rfl)]; rfl);have hnq:tb.d.n=1:=by rw[←xed,jlj itb (by rw[htr1]; rfl)]; rfl
 replace M:Mg w3 w3 ([]):=Mg.start w3;refine⟨_,rfl,?_⟩;intro a A;refine sdm A λa A=>?_;iterate 3 refine sdo A (qi (vs:=[.agg (t1.d.cells t1.ts.length).toArray,iV 9,iV 0]) rfl rfl) λa A=>?_
 refine xq (vs:=zD) (t:=30) A M rfl rfl rfl pg (qk (z:=.agg zD.toArray) (by kernel_rfl) rfl) (by decide) ?_;intro g4 w5 M a A;refine zi (L':=(.obj g4 (.cells (t1.d.cells t1.ts.length).toArray 30)::[])) A M rfl rfl (qw rfl rfl rfl (by kernel_rfl) M 0 rfl rfl rfl) 0 rfl rfl rfl ?_;intro w6 M;iterate 2 refine sda A λa A=>?_
 refine qa (hK2 _ _ (wsk fun K7 hK7=>wrl (sdm A λa A=>?_)));refine sdo (v:=bV true) A dbK λa A=>?_;iterate 2 refine sdm A λa A=>?_
 refine sdo (v:=bV true) A dbK λa A=>?_;refine sdk (v:=bV true) A λa A=>?_;refine sdm A λa A=>?_;refine sdo (v:=pA g4 0) A (qe yg rfl rfl) λa A=>?_;refine sdo A (qt M o93 rfl 0 rfl rfl) λa A=>?_;refine sdo (v:=bV true) A (qb rfl rfl (fun w=>(qg w).trans (by rw[show((t1.d.k==8))=true from(beq_iff_eq.2 hk8)]))) λa A=>?_;refine sdk (v:=bV true) A λa A=>?_;refine sdm A λa A=>?_;refine sdo (v:=pA g4 10) A (qe vy rfl rfl) λa A=>?_;refine sdo A (qt M qfh rfl 0 rfl rfl) λa A=>?_;refine sdo A (zh Tryz.underlying28 rfl) λa A=>?_;refine sdo (v:=bV true) A (qb rfl rfl (fun w=>(qg w).trans (by rw[show((((t1.ts.length:Nat):Int)==2))=true from(beq_iff_eq.2 (by omega))]))) λa A=>?_;refine sdk (v:=bV true) A λa A=>?_;refine sdm A λa A=>?_;refine sdo (v:=pA g4 10) A (qe vy rfl rfl) λa A=>?_;refine sdo A (qt M qfh rfl 0 rfl rfl) λa A=>?_;refine sdo (v:=pA bta (ota+0*11)) A (js (k:=0) Tryz.underlying28 (by kernel_rfl) rfl rfl rfl lta (by omega)) λa A=>?_;refine sdo (v:=pA bta (ota+0*11+8)) A (qe qte rfl rfl) λa A=>?_;refine sdo A (qed (j:=8) M Hta o99 rfl rfl rfl) λa A=>?_;refine sdo (v:=bV true) A (qb rfl rfl (fun w=>(zff Tryz.underlying9 w).trans (by rw[hsq]<;>rfl))) λa A=>?_;refine sdk (v:=bV true) A λa A=>?_;refine sdm A λa A=>?_;refine sdo (v:=pA g4 10) A (qe vy rfl rfl) λa A=>?_;refine sdo A (qt M qfh rfl 0 rfl rfl) λa A=>?_;refine sdo (v:=pA btb (otb+1*11)) A (js (k:=1) Tryz.underlying28 (by kernel_rfl) rfl rfl rfl ltb (by omega)) λa A=>?_;refine sdo (v:=pA btb (otb+1*11+1)) A (qe qkg rfl rfl) λa A=>?_;refine sdo A (qed (j:=1) M Htb o93 rfl rfl rfl) λa A=>?_;refine sdo (v:=bV true) A (qb rfl rfl (fun w=>(qg w).trans (by rw[show((tb.d.n==1))=true from(beq_iff_eq.2 hnq)]))) λa A=>?_;refine sdk (v:=bV true) A λa A=>?_;refine sda A λa A=>?_;refine qa (hK7 _ _ (wr1 hret A ?_));exact⟨rfl,hB1.trans (M.bel.mono hB1.size)⟩
theorem jsg(a b:List UInt8):tx a++tx b=tx (a++b):=by
 apply ByteArray.ext;rw[ByteArray.data_append];simp[tx]
theorem qhc{P:Program}{t:TypeId}{x y:Operand}{a b:List UInt8}(hm:a.length+b.length≤9223372036854775807):∀w,(do eqGuard .add t x y (.string (tx a)) (.string (tx b)); binOp .add t (.string (tx a)) (.string (tx b)):Sem Value).run P w=.ok (.string (tx (a++b))) w:=fun w=>by
 rw[zfd (by rw[jx,jx]; exact hm) w,jsg]
theorem uw{w:World}{g:Nat}{cs:List Value}{t:TypeId}(h:w.heap[g]?=some (.cells cs.toArray t)):Here w g 0 cs:=⟨(Array.getElem?_eq_some_iff.1 h).1,fun j v hj=>by
 rw[Nat.zero_add];simp only[World.cell?,h];simpa using hj⟩
theorem jsh{w:World}{so:Option Addr}{t:Dt}(h:Rt w so [t])(ht:t.rd w):(vp so 1 [t]).rd w:=
 Dt.rd_iff.2 ⟨⟨zdc w,qaa,⟨fun h=>absurd rfl h⟩,Nat.le_refl _,Nat.zero_le _,(show(-9223372036854775808:Int)≤9 by decide),(show(9:Int)≤9223372036854775807 by decide),(show(-9223372036854775808:Int)≤0 by decide),(show(0:Int)≤9223372036854775807 by decide),(show(0:Nat)≤9223372036854775807 by decide)⟩,Nat.le_refl _,(by show(1:Nat)≤_; omega),h,fun x hx=>by rw[List.mem_singleton.1 hx]; exact ht⟩
theorem zma{t:Tr}(h:kf zg t=true):jo zg t=true:=(Bool.and_eq_true_iff.1 (show((jj 1 20000 t).1&&jo zg t)=true from h)).2
theorem zad{t:Tr}(h:jo zg t=true):kf zg t=(jj 1 20000 t).1:=by
 show((jj 1 20000 t).1&&jo zg t)=_;rw[h,Bool.and_true]
theorem ke{p:Tr→Bool}{t:Tr}(h:jo p t=true):ky p [t]=true:=by show(jo p t&&true)=true; rw[h]; rfl
theorem zej{p:Tr→Bool}{t u:Tr}(h:jo p t=true)(h2:jo p u=true):ky p [t,u]=true:=by show(jo p t&&(jo p u&&true))=true; rw[h,h2]; rfl
theorem jma{K:List UInt8}{n:Nat}{t:Tr}(h:rdX K=if(jj 1 20000 t).1=true then(0,n,t)else(4,0,vt))(hs:jo zg t=true):∃e2 n2 T2,rdX K=(e2,n2,T2)∧(e2=0→n2=n∧T2=t∧kf zg t=true)∧(e2≠0→kf zg t=false):=by
 by_cases c:(jj 1 20000 t).1=true
 ·rw[if_pos c]at h;exact⟨0,n,t,h,fun _=>⟨rfl,rfl,(zad hs).trans c⟩,fun k=>absurd rfl k⟩
 ·rw[if_neg c]at h;exact⟨4,0,vt,h,fun k=>(by cases k),fun _=>(zad hs).trans (Bool.eq_false_iff.2 c)⟩
theorem xj{L:List UInt8}{n:Nat}{T:Tr}(h:rdX L=(0,n,T)):jo zg T=true∧jo smT T=true:=by
 have h1:=jke (L:=L) (by rw[h]);have h2:=jai (L:=L) (by rw[h]);rw[h]at h1 h2;exact⟨zma h1,h2⟩
theorem jmb{L:List UInt8}{n:Nat}{T:Tr}(h:rdX L=(0,n,T))(hl:L.length≤65532):∃e2 n2 T2,rdX ([39]++L)=(e2,n2,T2)∧(e2=0→n2=n+1∧T2=xe [qnb,T] nilT∧kf zg (xe [qnb,T] nilT)=true)∧(e2≠0→kf zg (xe [qnb,T] nilT)=false):=jma (jkg h hl) (ue (zej qzh (xj h).1) qjd)
theorem jsi{L:List UInt8}{n:Nat}{T:Tr}(h:rdX L=(0,n,T))(hn:n≤L.length)(hl:L.length≤65532):∃e2 n2 T2,rdX ([91]++L.take n++[32,93])=(e2,n2,T2)∧(e2=0→n2=n+3∧T2=xe [T] nilT∧kf zg (xe [T] nilT)=true)∧(e2≠0→kf zg (xe [T] nilT)=false):=jma (jsa h hn hl) (ue (ke (xj h).1) qjd)
theorem jyf{L:List UInt8}{n:Nat}{T:Tr}(h:rdX L=(0,n,T))(hn:n≤L.length)(hl:L.length≤65532):∃e2 n2 T2,rdX ([35,40]++L.take n++[32,41])=(e2,n2,T2)∧(e2=0→n2=n+4∧T2=qvd [T]∧kf zg (qvd [T])=true)∧(e2≠0→kf zg (qvd [T])=false):=jma (jyb h hn hl) (qzi (ke (xj h).1))
theorem zsf{w:World}{L:List UInt8}(hN:Env w)(hl:L.length≤140737488355328):Calls Tryz.prog 6 #[.string (tx L)] w fun e w'=>e=.returned (bV true)∧Below w.heap.size w w':=by
 have M:Mg w w ([]):=Mg.start w;refine qn (l:=[(0,.string ((tx L)))]) Tryz.func6 rfl Tryz.ntmps6 rfl rfl ?_;intro Q hret hnorm hP a A;refine wsk fun K1 hK1=>wrl (sda A λa A=>?_);refine qa (hK1 _ _ (wsk fun K2 hK2=>wrl (sdm A λa A=>?_)));obtain⟨e1,n1,T1,hr1⟩:∃e n t,rdX L=(e,n,t):=⟨_,_,_,rfl⟩;refine sct A (ef rfl rfl) ((by have h:=read_any (L:=L) (U:=([])) (Z:=[]) hN Cu.nil Ob.nil (by omega) M; rw[hr1]at h; exact h)) ?_;rintro _ w3 ⟨t1,F1,rfl,⟨htr0,hle0⟩,⟨hL0,hO1⟩,hM1⟩;have htr1:t1.tr=T1:=htr0;have hle1:e1=0→1≤n1∧n1≤L.length:=hle0;have hL1:Lv w F1 t1:=by rw[List.append_nil]at hL0; exact hL0
 rw[List.append_nil]at hM1;replace M:Mg w w3 (F1):=hM1;refine⟨_,rfl,?_⟩;intro a A;refine sdm A λa A=>?_;iterate 3 refine sdo A (qi (vs:=[.agg (t1.d.cells t1.ts.length).toArray,iV (((n1:Nat):Int)),iV e1]) rfl rfl) λa A=>?_
 refine xq (vs:=zD) (t:=30) A M rfl rfl rfl pg (qk (z:=.agg zD.toArray) (by kernel_rfl) rfl) (by decide) ?_;intro g4 w5 M a A;refine zi (L':=(.obj g4 (.cells (t1.d.cells t1.ts.length).toArray 30)::F1)) A M rfl rfl (qw rfl rfl rfl (by kernel_rfl) M 0 rfl rfl rfl) 0 rfl rfl rfl ?_;intro w6 M;iterate 2 refine sda A λa A=>?_
 refine qa (hK2 _ _ (wsk fun K7 hK7=>wsk fun K8 hK8=>wrl (sct A (ef rfl rfl) (qpf (hN.below M.bel)) ?_)));rintro _ w10 ⟨rfl,hb9⟩;replace M:=M.call hb9;refine⟨_,rfl,?_⟩;intro a A;refine sdo (v:=bV false) A (qp rfl ze) λa A=>?_;iterate 2 refine sdm A λa A=>?_
 rcases tf ((e1 != 0))with hb11 | hb11
 ·have hb11':=bne_iff_ne.1 hb11;refine sdc A za hb11 λa A=>?_;refine sdk (v:=bV true) A λa A=>?_;refine sdm A λa A=>?_;iterate 3 refine qf A rfl rfl rfl λa A=>?_
  refine sdk (v:=bV true) A λa A=>?_;refine qa (hK8 _ _ (ct A ?_));refine wsk fun K12 hK12=>wrl (sct A (ef rfl rfl) (qpf (hN.below M.bel)) ?_);rintro _ w14 ⟨rfl,hb13⟩;replace M:=M.call hb13;refine⟨_,rfl,?_⟩;intro a A;refine sda A λa A=>?_;refine qa (hK12 _ _ (wr1 hret A ?_));exact⟨rfl,M.bel⟩
 ·have hb11':=bne_eq_false_iff_eq.1 hb11;refine sdc A za hb11 λa A=>?_;refine sdk (v:=bV false) A λa A=>?_;iterate 2 refine sdm A λa A=>?_
  refine sdo (v:=iV (((L.length:Nat):Int))) A (xy (s:=L) Tryz.underlying9 rfl) λa A=>?_;rcases tf (decide (65532<((L.length:Nat):Int)))with hb15 | hb15
  ·have hb15':=of_decide_eq_true hb15;refine sdc A zn hb15 λa A=>?_;refine sdk (v:=bV true) A λa A=>?_;refine qa (hK8 _ _ (ct A ?_));refine wsk fun K16 hK16=>wrl (sct A (ef rfl rfl) (qpf (hN.below M.bel)) ?_);rintro _ w18 ⟨rfl,hb17⟩;replace M:=M.call hb17;refine⟨_,rfl,?_⟩;intro a A;refine sda A λa A=>?_;refine qa (hK16 _ _ (wr1 hret A ?_));exact⟨rfl,M.bel⟩
  ·have hb15':=of_decide_eq_false hb15;refine sdc A zn hb15 λa A=>?_;refine sdk (v:=bV false) A λa A=>?_;refine qa (hK8 _ _ (cf A ?_));refine wp_skip (hK7 _ _ (wsk fun K19 hK19=>wrl (sdo (v:=.agg (xg.d.cells xg.ts.length).toArray) A (qs rfl (fun w=>by kernel_rfl)) λa A=>?_)));refine xq (vs:=zD) (t:=30) A M rfl rfl rfl pg (qk (z:=.agg zD.toArray) (by kernel_rfl) rfl) (by decide) ?_;intro g20 w21 M a A;refine zi (L':=(.obj g20 (.cells (xg.d.cells xg.ts.length).toArray 30)::.obj g4 (.cells (t1.d.cells t1.ts.length).toArray 30)::F1)) A M rfl rfl (qw rfl rfl rfl (by kernel_rfl) M 0 rfl rfl rfl) 0 rfl rfl rfl ?_;intro w22 M;refine qa (hK19 _ _ (wsk fun K23 hK23=>wrl (sdm A λa A=>?_)));refine sdo (v:=.string ((tx (([39])++L)))) A (qb rfl rfl (qhc (a:=[39]) (b:=L) (by simp only[List.length_append,List.length_cons,List.length_nil,List.length_take]; omega))) λa A=>?_;have he1:e1=0:=(by simpa using hb11);have hl5:L.length≤65532:=(by have:=of_decide_eq_false hb15; omega);obtain⟨hn1,hn2⟩:=hle1 he1;rw[he1]at hr1;obtain⟨e2,n2,T2,hr2,hy2,hz2⟩:=jmb hr1 hl5;refine sct A (ef rfl rfl) ((by have h:=read_any (L:=([39])++L) (U:=(.obj g20 (.cells (xg.d.cells xg.ts.length).toArray 30)::.obj g4 (.cells (t1.d.cells t1.ts.length).toArray 30)::[])) (Z:=F1) hN (Cu.cons rfl (Cu.cons rfl Cu.nil)) hO1 (by simp only[List.length_append,List.length_cons,List.length_nil,List.length_take]; omega) M; rw[hr2]at h; exact h)) ?_;rintro _ w24 ⟨t2,F2,rfl,⟨htr20,_⟩,⟨hL2,hO2⟩,hM2⟩;have htr2:t2.tr=T2:=htr20;replace hL1:=hL1.app F2;replace M:Mg w w24 (.obj g20 (.cells (xg.d.cells xg.ts.length).toArray 30)::.obj g4 (.cells (t1.d.cells t1.ts.length).toArray 30)::(F2++F1)):=hM2;refine⟨_,rfl,?_⟩;intro a A;refine sdm A λa A=>?_;iterate 3 refine sdo A (qi (vs:=[.agg (t2.d.cells t2.ts.length).toArray,iV (((n2:Nat):Int)),iV e2]) rfl rfl) λa A=>?_
   refine xq (vs:=zD) (t:=30) A M rfl rfl rfl pg (qk (z:=.agg zD.toArray) (by kernel_rfl) rfl) (by decide) ?_;intro g25 w26 M a A;refine zi (L':=(.obj g25 (.cells (t2.d.cells t2.ts.length).toArray 30)::.obj g20 (.cells (xg.d.cells xg.ts.length).toArray 30)::.obj g4 (.cells (t1.d.cells t1.ts.length).toArray 30)::(F2++F1))) A M rfl rfl (qw rfl rfl rfl (by kernel_rfl) M 0 rfl rfl rfl) 0 rfl rfl rfl ?_;intro w27 M;iterate 2 refine sda A λa A=>?_
   refine qa (hK23 _ _ (wsk fun K28 hK28=>wrl ?_));iterate 2 refine sdm A λa A=>?_
   refine sdo (v:=.string ((tx (L.take n1)))) A (qah (s:=L) (p:=n1) Tryz.underlying9 rfl rfl rfl (by omega)) λa A=>?_;refine sdo (v:=.string ((tx (([91])++(L.take n1))))) A (qb rfl rfl (qhc (a:=[91]) (b:=L.take n1) (by simp only[List.length_append,List.length_cons,List.length_nil,List.length_take]; omega))) λa A=>?_;refine sdo (v:=.string ((tx (([91])++(L.take n1)++[32,93])))) A (qb rfl rfl (qhc (a:=([91])++(L.take n1)) (b:=[32,93]) (by simp only[List.length_append,List.length_cons,List.length_nil,List.length_take]; omega))) λa A=>?_;obtain⟨e3,n3,T3,hr3,hy3,hz3⟩:=jsi hr1 hn2 hl5;refine sct A (ef rfl rfl) ((by have h:=read_any (L:=([91])++(L.take n1)++[32,93]) (U:=(.obj g25 (.cells (t2.d.cells t2.ts.length).toArray 30)::.obj g20 (.cells (xg.d.cells xg.ts.length).toArray 30)::.obj g4 (.cells (t1.d.cells t1.ts.length).toArray 30)::[])) (Z:=(F2++F1)) hN (Cu.cons rfl (Cu.cons rfl (Cu.cons rfl Cu.nil))) (Ob.app hO2 hO1) (by simp only[List.length_append,List.length_cons,List.length_nil,List.length_take]; omega) M; rw[hr3]at h; exact h)) ?_;rintro _ w29 ⟨t3,F3,rfl,⟨htr30,_⟩,⟨hL3,hO3⟩,hM3⟩;have htr3:t3.tr=T3:=htr30;replace hL1:=hL1.app F3;replace hL2:=hL2.app F3;replace M:Mg w w29 (.obj g25 (.cells (t2.d.cells t2.ts.length).toArray 30)::.obj g20 (.cells (xg.d.cells xg.ts.length).toArray 30)::.obj g4 (.cells (t1.d.cells t1.ts.length).toArray 30)::(F3++(F2++F1))):=hM3;refine⟨_,rfl,?_⟩;intro a A;refine sdm A λa A=>?_;iterate 3 refine sdo A (qi (vs:=[.agg (t3.d.cells t3.ts.length).toArray,iV (((n3:Nat):Int)),iV e3]) rfl rfl) λa A=>?_
   refine xq (vs:=zD) (t:=30) A M rfl rfl rfl pg (qk (z:=.agg zD.toArray) (by kernel_rfl) rfl) (by decide) ?_;intro g30 w31 M a A;refine zi (L':=(.obj g30 (.cells (t3.d.cells t3.ts.length).toArray 30)::.obj g25 (.cells (t2.d.cells t2.ts.length).toArray 30)::.obj g20 (.cells (xg.d.cells xg.ts.length).toArray 30)::.obj g4 (.cells (t1.d.cells t1.ts.length).toArray 30)::(F3++(F2++F1)))) A M rfl rfl (qw rfl rfl rfl (by kernel_rfl) M 0 rfl rfl rfl) 0 rfl rfl rfl ?_;intro w32 M;iterate 2 refine sda A λa A=>?_
   refine qa (hK28 _ _ (wsk fun K33 hK33=>wrl ?_));iterate 2 refine sdm A λa A=>?_
   refine sdo (v:=.string ((tx (L.take n1)))) A (qah (s:=L) (p:=n1) Tryz.underlying9 rfl rfl rfl (by omega)) λa A=>?_;refine sdo (v:=.string ((tx (([35,40])++(L.take n1))))) A (qb rfl rfl (qhc (a:=[35,40]) (b:=L.take n1) (by simp only[List.length_append,List.length_cons,List.length_nil,List.length_take]; omega))) λa A=>?_;refine sdo (v:=.string ((tx (([35,40])++(L.take n1)++[32,41])))) A (qb rfl rfl (qhc (a:=([35,40])++(L.take n1)) (b:=[32,41]) (by simp only[List.length_append,List.length_cons,List.length_nil,List.length_take]; omega))) λa A=>?_;obtain⟨e4,n4,T4,hr4,hy4,hz4⟩:=jyf hr1 hn2 hl5;refine sct A (ef rfl rfl) ((by have h:=read_any (L:=([35,40])++(L.take n1)++[32,41]) (U:=(.obj g30 (.cells (t3.d.cells t3.ts.length).toArray 30)::.obj g25 (.cells (t2.d.cells t2.ts.length).toArray 30)::.obj g20 (.cells (xg.d.cells xg.ts.length).toArray 30)::.obj g4 (.cells (t1.d.cells t1.ts.length).toArray 30)::[])) (Z:=(F3++(F2++F1))) hN (Cu.cons rfl (Cu.cons rfl (Cu.cons rfl (Cu.cons rfl Cu.nil)))) (Ob.app hO3 (Ob.app hO2 hO1)) (by simp only[List.length_append,List.length_cons,List.length_nil,List.length_take]; omega) M; rw[hr4]at h; exact h)) ?_;rintro _ w34 ⟨t4,F4,rfl,⟨htr40,_⟩,⟨hL4,hO4⟩,hM4⟩;have htr4:t4.tr=T4:=htr40;replace hL1:=hL1.app F4;replace hL2:=hL2.app F4;replace hL3:=hL3.app F4;replace M:Mg w w34 (.obj g30 (.cells (t3.d.cells t3.ts.length).toArray 30)::.obj g25 (.cells (t2.d.cells t2.ts.length).toArray 30)::.obj g20 (.cells (xg.d.cells xg.ts.length).toArray 30)::.obj g4 (.cells (t1.d.cells t1.ts.length).toArray 30)::(F4++(F3++(F2++F1)))):=hM4;refine⟨_,rfl,?_⟩;intro a A;refine sdm A λa A=>?_;iterate 3 refine sdo A (qi (vs:=[.agg (t4.d.cells t4.ts.length).toArray,iV (((n4:Nat):Int)),iV e4]) rfl rfl) λa A=>?_
   refine xq (vs:=zD) (t:=30) A M rfl rfl rfl pg (qk (z:=.agg zD.toArray) (by kernel_rfl) rfl) (by decide) ?_;intro g35 w36 M a A;refine zi (L':=(.obj g35 (.cells (t4.d.cells t4.ts.length).toArray 30)::.obj g30 (.cells (t3.d.cells t3.ts.length).toArray 30)::.obj g25 (.cells (t2.d.cells t2.ts.length).toArray 30)::.obj g20 (.cells (xg.d.cells xg.ts.length).toArray 30)::.obj g4 (.cells (t1.d.cells t1.ts.length).toArray 30)::(F4++(F3++(F2++F1))))) A M rfl rfl (qw rfl rfl rfl (by kernel_rfl) M 0 rfl rfl rfl) 0 rfl rfl rfl ?_;intro w37 M;iterate 2 refine sda A λa A=>?_
   refine qa (hK33 _ _ (wsk fun K38 hK38=>wrl (sdo (v:=.agg (zif.d.cells zif.ts.length).toArray) A (qs rfl (fun w=>by kernel_rfl)) λa A=>?_)));refine sdo A (xn M ji rfl 4 rfl (cs:=[iV t1.d.k,iV t1.d.n,bV t1.d.y.q.b1,.slice t1.d.y.o1 t1.d.y.q.t1.length t1.d.y.c1,.slice t1.d.y.o2 t1.d.y.q.q1.length t1.d.y.c2,bV t1.d.y.q.b2,.slice t1.d.y.o3 t1.d.y.q.t2.length t1.d.y.c3,.slice t1.d.y.o4 t1.d.y.q.q2.length t1.d.y.c4,.string t1.d.s,.slice t1.d.ro t1.d.rl.length t1.d.rc,.slice t1.d.lo t1.ts.length t1.d.lc]) rfl rfl) λa A=>?_;have hBz39:Below w.heap.size w w37:=M.bel;have hg35_z39:Here w37 g35 0 [iV t4.d.k,iV t4.d.n,bV t4.d.y.q.b1,.slice t4.d.y.o1 t4.d.y.q.t1.length t4.d.y.c1,.slice t4.d.y.o2 t4.d.y.q.q1.length t4.d.y.c2,bV t4.d.y.q.b2,.slice t4.d.y.o3 t4.d.y.q.t2.length t4.d.y.c3,.slice t4.d.y.o4 t4.d.y.q.q2.length t4.d.y.c4,.string t4.d.s,.slice t4.d.ro t4.d.rl.length t4.d.rc,.slice t4.d.lo t4.ts.length t4.d.lc]:=uw (M.obj 0 rfl);have hg30_z39:Here w37 g30 0 [iV t3.d.k,iV t3.d.n,bV t3.d.y.q.b1,.slice t3.d.y.o1 t3.d.y.q.t1.length t3.d.y.c1,.slice t3.d.y.o2 t3.d.y.q.q1.length t3.d.y.c2,bV t3.d.y.q.b2,.slice t3.d.y.o3 t3.d.y.q.t2.length t3.d.y.c3,.slice t3.d.y.o4 t3.d.y.q.q2.length t3.d.y.c4,.string t3.d.s,.slice t3.d.ro t3.d.rl.length t3.d.rc,.slice t3.d.lo t3.ts.length t3.d.lc]:=uw (M.obj 1 rfl);have hg25_z39:Here w37 g25 0 [iV t2.d.k,iV t2.d.n,bV t2.d.y.q.b1,.slice t2.d.y.o1 t2.d.y.q.t1.length t2.d.y.c1,.slice t2.d.y.o2 t2.d.y.q.q1.length t2.d.y.c2,bV t2.d.y.q.b2,.slice t2.d.y.o3 t2.d.y.q.t2.length t2.d.y.c3,.slice t2.d.y.o4 t2.d.y.q.q2.length t2.d.y.c4,.string t2.d.s,.slice t2.d.ro t2.d.rl.length t2.d.rc,.slice t2.d.lo t2.ts.length t2.d.lc]:=uw (M.obj 2 rfl)
   have hg20_z39:Here w37 g20 0 [iV xg.d.k,iV xg.d.n,bV xg.d.y.q.b1,.slice xg.d.y.o1 xg.d.y.q.t1.length xg.d.y.c1,.slice xg.d.y.o2 xg.d.y.q.q1.length xg.d.y.c2,bV xg.d.y.q.b2,.slice xg.d.y.o3 xg.d.y.q.t2.length xg.d.y.c3,.slice xg.d.y.o4 xg.d.y.q.q2.length xg.d.y.c4,.string xg.d.s,.slice xg.d.ro xg.d.rl.length xg.d.rc,.slice xg.d.lo xg.ts.length xg.d.lc]:=uw (M.obj 3 rfl);have hg4_z39:Here w37 g4 0 [iV t1.d.k,iV t1.d.n,bV t1.d.y.q.b1,.slice t1.d.y.o1 t1.d.y.q.t1.length t1.d.y.c1,.slice t1.d.y.o2 t1.d.y.q.q1.length t1.d.y.c2,bV t1.d.y.q.b2,.slice t1.d.y.o3 t1.d.y.q.t2.length t1.d.y.c3,.slice t1.d.y.o4 t1.d.y.q.q2.length t1.d.y.c4,.string t1.d.s,.slice t1.d.ro t1.d.rl.length t1.d.rc,.slice t1.d.lo t1.ts.length t1.d.lc]:=uw (M.obj 4 rfl);have hMt:=M.sub (cN (cN (cN (cN (cN (.refl _))))));have hd1:t1.rd w37:=hL1 _ hMt;have hd2:t2.rd w37:=hL2 _ hMt;have hd3:t3.rd w37:=hL3 _ hMt;have hd4:t4.rd w37:=hL4 _ hMt;have hN0:=hN;replace M:Mg w37 w37 []:=Mg.start w37;refine qca (e:=30) (sz:=11) (m:=2) (vs:=zw [zif,t1]) A M rfl rfl rfl (zp rfl (by kernel_rfl)) rfl rfl (.inl (by decide)) ?_;intro g40 w41 M a A;refine sdo A (zr M hg20_z39 ji rfl rfl) λa A=>?_;refine sct A (ef rfl rfl) (qyc (ts:=[zif,t1]) (u:=xg) (qta (M.has 0 rfl)).1 (fun t ht=>by rcases List.mem_cons.1 ht with rfl | ht; exact zde _; rw[List.mem_singleton.1 ht]; exact Dt.keep M.bel _ hd1) (qhj _) (by show 2≤_; omega) (fun _=>True) (fun _ _=>trivial) (fun t ht=>by rcases List.mem_cons.1 ht with rfl | ht; exact Dt.at_mono (fun _ _=>trivial) _ (Dt.at_lt _ (zde w41)); rw[List.mem_singleton.1 ht]; exact Dt.at_mono (fun _ _=>trivial) _ (Dt.at_lt _ (Dt.keep M.bel _ hd1))) (ztf _)) ?_;rintro _ w43 ⟨q3,rfl,⟨hd5,_,htr50⟩,hb42⟩;have htr5:q3.tr=xe [qnb,T1] nilT:=(by rw[htr50,List.map_cons,List.map_singleton,jgj,htr1,qre]);replace M:=M.call hb42;refine⟨_,rfl,?_⟩;intro a A
   have hBz44:Below w.heap.size w w43:=hBz39.trans (M.bel.mono hBz39.size);have hg35_z39z44:=hg35_z39.below M.bel;have hg30_z39z44:=hg30_z39.below M.bel;have hg25_z39z44:=hg25_z39.below M.bel;have hg20_z39z44:=hg20_z39.below M.bel;have hg4_z39z44:=hg4_z39.below M.bel;replace hd1:=Dt.keep M.bel _ hd1;replace hd2:=Dt.keep M.bel _ hd2;replace hd3:=Dt.keep M.bel _ hd3;replace hd4:=Dt.keep M.bel _ hd4;replace M:Mg w43 w43 []:=Mg.start w43;refine xq (vs:=zD) (t:=30) A M rfl rfl rfl pg (qk (z:=.agg zD.toArray) (by kernel_rfl) rfl) (by decide) ?_;intro g45 w46 M a A;refine zi (L':=(.obj g45 (.cells (q3.d.cells q3.ts.length).toArray 30)::[])) A M rfl rfl (qw rfl rfl rfl (by kernel_rfl) M 0 rfl rfl rfl) 0 rfl rfl rfl ?_;intro w47 M;refine qa (hK38 _ _ (wsk fun K48 hK48=>wrl (sdo A (zr M hg4_z39z44 ji rfl rfl) λa A=>?_)));refine qca (e:=30) (sz:=11) (m:=1) (vs:=zw [t1]) A M rfl rfl rfl (zp rfl (by kernel_rfl)) rfl rfl (.inl (by decide)) ?_;intro g49 w50 M a A;refine sdo A (zr M hg20_z39z44 ji rfl rfl) λa A=>?_;refine sct A (ef rfl rfl) (qyc (ts:=[t1]) (u:=xg) (qta (M.has 0 rfl)).1 (fun t ht=>by rw[List.mem_singleton.1 ht]; exact Dt.keep M.bel _ hd1) (qhj _) (by show 1≤_; omega) (fun _=>True) (fun _ _=>trivial) (fun t ht=>by rw[List.mem_singleton.1 ht]; exact Dt.at_mono (fun _ _=>trivial) _ (Dt.at_lt _ (Dt.keep M.bel _ hd1))) (ztf _)) ?_;rintro _ w52 ⟨q4,rfl,⟨hd6,_,htr60⟩,hb51⟩;have htr6:q4.tr=xe [T1] nilT:=(by rw[htr60,List.map_singleton,htr1,qre]);replace M:=M.call hb51;refine⟨_,rfl,?_⟩;intro a A;have hBz53:Below w.heap.size w w52:=hBz44.trans (M.bel.mono hBz44.size);have hg35_z39z44z53:=hg35_z39z44.below M.bel;have hg30_z39z44z53:=hg30_z39z44.below M.bel;have hg25_z39z44z53:=hg25_z39z44.below M.bel;have hg20_z39z44z53:=hg20_z39z44.below M.bel;have hg4_z39z44z53:=hg4_z39z44.below M.bel
   have hg45_z53:Here w52 g45 0 [iV q3.d.k,iV q3.d.n,bV q3.d.y.q.b1,.slice q3.d.y.o1 q3.d.y.q.t1.length q3.d.y.c1,.slice q3.d.y.o2 q3.d.y.q.q1.length q3.d.y.c2,bV q3.d.y.q.b2,.slice q3.d.y.o3 q3.d.y.q.t2.length q3.d.y.c3,.slice q3.d.y.o4 q3.d.y.q.q2.length q3.d.y.c4,.string q3.d.s,.slice q3.d.ro q3.d.rl.length q3.d.rc,.slice q3.d.lo q3.ts.length q3.d.lc]:=uw (M.obj 1 rfl);replace hd1:=Dt.keep M.bel _ hd1;replace hd2:=Dt.keep M.bel _ hd2;replace hd3:=Dt.keep M.bel _ hd3;replace hd4:=Dt.keep M.bel _ hd4;replace hd5:=Dt.keep M.bel _ hd5;replace M:Mg w52 w52 []:=Mg.start w52;refine xq (vs:=zD) (t:=30) A M rfl rfl rfl pg (qk (z:=.agg zD.toArray) (by kernel_rfl) rfl) (by decide) ?_;intro g54 w55 M a A;refine zi (L':=(.obj g54 (.cells (q4.d.cells q4.ts.length).toArray 30)::[])) A M rfl rfl (qw rfl rfl rfl (by kernel_rfl) M 0 rfl rfl rfl) 0 rfl rfl rfl ?_;intro w56 M;refine qa (hK48 _ _ (wsk fun K57 hK57=>wrl (sdo A (zr M hg4_z39z44z53 ji rfl rfl) λa A=>?_)));refine qca (e:=30) (sz:=11) (m:=1) (vs:=zw [t1]) A M rfl rfl rfl (zp rfl (by kernel_rfl)) rfl rfl (.inl (by decide)) ?_;intro g58 w59 M a A;refine sdo (v:=.agg ((vp (aO g58) 1 [t1]).d.cells (vp (aO g58) 1 [t1]).ts.length).toArray) A (qs rfl (fun w=>by kernel_rfl)) λa A=>?_;refine xq (vs:=zD) (t:=30) A M rfl rfl rfl pg (qk (z:=.agg zD.toArray) (by kernel_rfl) rfl) (by decide) ?_;intro g60 w61 M a A;refine zi (L':=(.obj g60 (.cells ((vp (aO g58) 1 [t1]).d.cells (vp (aO g58) 1 [t1]).ts.length).toArray 30)::.row 30 11 (.slice (aO g58) 1 1) 1 (zw [t1])::.obj g54 (.cells (q4.d.cells q4.ts.length).toArray 30)::[])) A M rfl rfl (qw rfl rfl rfl (by kernel_rfl) M 0 rfl rfl rfl) 0 rfl rfl rfl ?_;intro w62 M;refine qa (hK57 _ _ (wsk fun K63 hK63=>?_));have hd7:(vp (aO g58) 1 [t1]).rd w62:=jsh (qta (M.has 1 rfl)).1 (Dt.keep M.bel _ hd1);have htr7:(vp (aO g58) 1 [t1]).tr=qvd [T1]:=by rw[jhh,List.map_singleton,htr1]
   have hBz64:Below w.heap.size w w62:=hBz53.trans (M.bel.mono hBz53.size);have hg35_z39z44z53z64:=hg35_z39z44z53.below M.bel;have hg30_z39z44z53z64:=hg30_z39z44z53.below M.bel;have hg25_z39z44z53z64:=hg25_z39z44z53.below M.bel;have hg20_z39z44z53z64:=hg20_z39z44z53.below M.bel;have hg4_z39z44z53z64:=hg4_z39z44z53.below M.bel;have hg45_z53z64:=hg45_z53.below M.bel;have hg60_z64:Here w62 g60 0 [iV ((vp (aO g58) 1 [t1]).d.k),iV ((vp (aO g58) 1 [t1]).d.n),bV ((vp (aO g58) 1 [t1]).d.y.q.b1),.slice ((vp (aO g58) 1 [t1]).d.y.o1) ((vp (aO g58) 1 [t1]).d.y.q.t1.length) ((vp (aO g58) 1 [t1]).d.y.c1),.slice ((vp (aO g58) 1 [t1]).d.y.o2) ((vp (aO g58) 1 [t1]).d.y.q.q1.length) ((vp (aO g58) 1 [t1]).d.y.c2),bV ((vp (aO g58) 1 [t1]).d.y.q.b2),.slice ((vp (aO g58) 1 [t1]).d.y.o3) ((vp (aO g58) 1 [t1]).d.y.q.t2.length) ((vp (aO g58) 1 [t1]).d.y.c3),.slice ((vp (aO g58) 1 [t1]).d.y.o4) ((vp (aO g58) 1 [t1]).d.y.q.q2.length) ((vp (aO g58) 1 [t1]).d.y.c4),.string ((vp (aO g58) 1 [t1]).d.s),.slice ((vp (aO g58) 1 [t1]).d.ro) ((vp (aO g58) 1 [t1]).d.rl.length) ((vp (aO g58) 1 [t1]).d.rc),.slice ((vp (aO g58) 1 [t1]).d.lo) ((vp (aO g58) 1 [t1]).ts.length) ((vp (aO g58) 1 [t1]).d.lc)]:=uw (M.obj 0 rfl);have hg54_z64:Here w62 g54 0 [iV q4.d.k,iV q4.d.n,bV q4.d.y.q.b1,.slice q4.d.y.o1 q4.d.y.q.t1.length q4.d.y.c1,.slice q4.d.y.o2 q4.d.y.q.q1.length q4.d.y.c2,bV q4.d.y.q.b2,.slice q4.d.y.o3 q4.d.y.q.t2.length q4.d.y.c3,.slice q4.d.y.o4 q4.d.y.q.q2.length q4.d.y.c4,.string q4.d.s,.slice q4.d.ro q4.d.rl.length q4.d.rc,.slice q4.d.lo q4.ts.length q4.d.lc]:=uw (M.obj 2 rfl);replace hd1:=Dt.keep M.bel _ hd1;replace hd2:=Dt.keep M.bel _ hd2;replace hd3:=Dt.keep M.bel _ hd3;replace hd4:=Dt.keep M.bel _ hd4;replace hd5:=Dt.keep M.bel _ hd5;replace hd6:=Dt.keep M.bel _ hd6;replace M:Mg w62 w62 []:=Mg.start w62;refine wrl (sdm A λa A=>?_);rcases tf ((e2==0))with hb65 | hb65
   ·have hb65':=eq_of_beq hb65;refine sdc A qg hb65 λa A=>?_;refine sdo A (zr M hg45_z53z64 ji rfl rfl) λa A=>?_;refine gcl A M (ef rfl rfl) ((by have h9:=jq (t:=q3) (Dt.keep M.bel _ hd5) (by rw[htr5]; exact vj (zej qpe (xj hr1).2) yr); rw[htr5,(hy2 (eq_of_beq hb65)).2.2]at h9; exact h9)) fun w67 hb66 M a A=>?_;refine sdo (v:=bV true) A (qb rfl rfl (xh Tryz.underlying4)) λa A=>?_;iterate 2 refine sdm A λa A=>?_
    refine sdo (v:=bV false) A (qb rfl rfl (fun w=>(za w).trans (by rw[show((e2 != 0))=false from(by rw[bne,hb65]; rfl)]))) λa A=>?_;iterate 3 refine sdm A λa A=>?_
    refine sdo (v:=iV (((n1+1:Nat):Int))) A (qb rfl rfl (ar_add ((in_i64 (by omega) (by omega)).trans (by omega)))) λa A=>?_;refine sdo (v:=bV true) A (qb rfl rfl (fun w=>(qg w).trans (by rw[show((((n2:Nat):Int)==((n1+1:Nat):Int)))=true from(beq_iff_eq.2 (by rw[(hy2 (eq_of_beq hb65)).1]))]))) λa A=>?_;refine sdm A λa A=>?_;refine sdo A (zr M hg25_z39z44z53z64 ji rfl rfl) λa A=>?_;refine sdo A (zr M hg45_z53z64 ji rfl rfl) λa A=>?_;refine gcl A M (ef rfl rfl) (qbd (Dt.keep M.bel _ hd2) (Dt.keep M.bel _ hd5) ((qbc _ _).2 (htr2.trans ((hy2 (eq_of_beq hb65)).2.1.trans htr5.symm)))) fun w69 hb68 M a A=>?_;iterate 3 refine sdk (v:=bV true) A λa A=>?_
    iterate 2 refine sdm A λa A=>?_
    rcases tf ((e3==0))with hb70 | hb70
    ·have hb70':=eq_of_beq hb70;refine sdc A qg hb70 λa A=>?_;refine sdo A (zr M hg54_z64 ji rfl rfl) λa A=>?_;refine gcl A M (ef rfl rfl) ((by have h9:=jq (t:=q4) (Dt.keep M.bel _ hd6) (by rw[htr6]; exact vj (ke (xj hr1).2) yr); rw[htr6,(hy3 (eq_of_beq hb70)).2.2]at h9; exact h9)) fun w72 hb71 M a A=>?_;refine sdo (v:=bV true) A (qb rfl rfl (xh Tryz.underlying4)) λa A=>?_;refine sdk (v:=bV true) A λa A=>?_;iterate 2 refine sdm A λa A=>?_
     refine sdo (v:=bV false) A (qb rfl rfl (fun w=>(za w).trans (by rw[show((e3 != 0))=false from(by rw[bne,hb70]; rfl)]))) λa A=>?_;refine sdm A λa A=>?_;refine sdo A (zr M hg30_z39z44z53z64 ji rfl rfl) λa A=>?_;refine sdo A (zr M hg54_z64 ji rfl rfl) λa A=>?_;refine gcl A M (ef rfl rfl) (qbd (Dt.keep M.bel _ hd3) (Dt.keep M.bel _ hd6) ((qbc _ _).2 (htr3.trans ((hy3 (eq_of_beq hb70)).2.1.trans htr6.symm)))) fun w74 hb73 M a A=>?_;iterate 2 refine sdk (v:=bV true) A λa A=>?_
     iterate 2 refine sdm A λa A=>?_
     rcases tf ((e4==0))with hb75 | hb75
     ·have hb75':=eq_of_beq hb75;refine sdc A qg hb75 λa A=>?_;refine sdo A (zr M hg60_z64 ji rfl rfl) λa A=>?_;refine gcl A M (ef rfl rfl) ((by have h9:=jq (t:=(vp (aO g58) 1 [t1])) (Dt.keep M.bel _ hd7) (by rw[htr7]; exact ks (ke (xj hr1).2)); rw[htr7,(hy4 (eq_of_beq hb75)).2.2]at h9; exact h9)) fun w77 hb76 M a A=>?_;refine sdo (v:=bV true) A (qb rfl rfl (xh Tryz.underlying4)) λa A=>?_;refine sdk (v:=bV true) A λa A=>?_;iterate 2 refine sdm A λa A=>?_
      refine sdo (v:=bV false) A (qb rfl rfl (fun w=>(za w).trans (by rw[show((e4 != 0))=false from(by rw[bne,hb75]; rfl)]))) λa A=>?_;refine sdm A λa A=>?_;refine sdo A (zr M hg35_z39z44z53z64 ji rfl rfl) λa A=>?_;refine sdo A (zr M hg60_z64 ji rfl rfl) λa A=>?_;refine gcl A M (ef rfl rfl) (qbd (Dt.keep M.bel _ hd4) (Dt.keep M.bel _ hd7) ((qbc _ _).2 (htr4.trans ((hy4 (eq_of_beq hb75)).2.1.trans htr7.symm)))) fun w79 hb78 M a A=>?_;iterate 2 refine sdk (v:=bV true) A λa A=>?_
      refine sda A λa A=>?_;refine qa (hK63 _ _ (wr1 hret A ?_));exact⟨rfl,hBz64.trans (M.bel.mono hBz64.size)⟩
     ·have hb75':=ne_of_beq_false hb75;refine sdc A qg hb75 λa A=>?_;refine sdo A (zr M hg60_z64 ji rfl rfl) λa A=>?_;refine gcl A M (ef rfl rfl) ((by have h9:=jq (t:=(vp (aO g58) 1 [t1])) (Dt.keep M.bel _ hd7) (by rw[htr7]; exact ks (ke (xj hr1).2)); rw[htr7,hz4 (ne_of_beq_false hb75)]at h9; exact h9)) fun w81 hb80 M a A=>?_;refine sdo (v:=bV true) A (qb rfl rfl (xh Tryz.underlying4)) λa A=>?_;refine sdk (v:=bV true) A λa A=>?_;iterate 2 refine sdm A λa A=>?_
      refine sdo (v:=bV true) A (qb rfl rfl (fun w=>(za w).trans (by rw[show((e4 != 0))=true from(by rw[bne,hb75]; rfl)]))) λa A=>?_;refine sdm A λa A=>?_;iterate 3 refine qf A rfl rfl rfl λa A=>?_
      iterate 2 refine sdk (v:=bV true) A λa A=>?_
      refine sda A λa A=>?_;refine qa (hK63 _ _ (wr1 hret A ?_));exact⟨rfl,hBz64.trans (M.bel.mono hBz64.size)⟩
    ·have hb70':=ne_of_beq_false hb70;refine sdc A qg hb70 λa A=>?_;refine sdo A (zr M hg54_z64 ji rfl rfl) λa A=>?_;refine gcl A M (ef rfl rfl) ((by have h9:=jq (t:=q4) (Dt.keep M.bel _ hd6) (by rw[htr6]; exact vj (ke (xj hr1).2) yr); rw[htr6,hz3 (ne_of_beq_false hb70)]at h9; exact h9)) fun w83 hb82 M a A=>?_;refine sdo (v:=bV true) A (qb rfl rfl (xh Tryz.underlying4)) λa A=>?_;refine sdk (v:=bV true) A λa A=>?_;iterate 2 refine sdm A λa A=>?_
     refine sdo (v:=bV true) A (qb rfl rfl (fun w=>(za w).trans (by rw[show((e3 != 0))=true from(by rw[bne,hb70]; rfl)]))) λa A=>?_;refine sdm A λa A=>?_;iterate 3 refine qf A rfl rfl rfl λa A=>?_
     iterate 2 refine sdk (v:=bV true) A λa A=>?_
     iterate 2 refine sdm A λa A=>?_
     rcases tf ((e4==0))with hb84 | hb84
     ·have hb84':=eq_of_beq hb84;refine sdc A qg hb84 λa A=>?_;refine sdo A (zr M hg60_z64 ji rfl rfl) λa A=>?_;refine gcl A M (ef rfl rfl) ((by have h9:=jq (t:=(vp (aO g58) 1 [t1])) (Dt.keep M.bel _ hd7) (by rw[htr7]; exact ks (ke (xj hr1).2)); rw[htr7,(hy4 (eq_of_beq hb84)).2.2]at h9; exact h9)) fun w86 hb85 M a A=>?_;refine sdo (v:=bV true) A (qb rfl rfl (xh Tryz.underlying4)) λa A=>?_;refine sdk (v:=bV true) A λa A=>?_;iterate 2 refine sdm A λa A=>?_
      refine sdo (v:=bV false) A (qb rfl rfl (fun w=>(za w).trans (by rw[show((e4 != 0))=false from(by rw[bne,hb84]; rfl)]))) λa A=>?_;refine sdm A λa A=>?_;refine sdo A (zr M hg35_z39z44z53z64 ji rfl rfl) λa A=>?_;refine sdo A (zr M hg60_z64 ji rfl rfl) λa A=>?_;refine gcl A M (ef rfl rfl) (qbd (Dt.keep M.bel _ hd4) (Dt.keep M.bel _ hd7) ((qbc _ _).2 (htr4.trans ((hy4 (eq_of_beq hb84)).2.1.trans htr7.symm)))) fun w88 hb87 M a A=>?_;iterate 2 refine sdk (v:=bV true) A λa A=>?_
      refine sda A λa A=>?_;refine qa (hK63 _ _ (wr1 hret A ?_));exact⟨rfl,hBz64.trans (M.bel.mono hBz64.size)⟩
     ·have hb84':=ne_of_beq_false hb84;refine sdc A qg hb84 λa A=>?_;refine sdo A (zr M hg60_z64 ji rfl rfl) λa A=>?_;refine gcl A M (ef rfl rfl) ((by have h9:=jq (t:=(vp (aO g58) 1 [t1])) (Dt.keep M.bel _ hd7) (by rw[htr7]; exact ks (ke (xj hr1).2)); rw[htr7,hz4 (ne_of_beq_false hb84)]at h9; exact h9)) fun w90 hb89 M a A=>?_;refine sdo (v:=bV true) A (qb rfl rfl (xh Tryz.underlying4)) λa A=>?_;refine sdk (v:=bV true) A λa A=>?_;iterate 2 refine sdm A λa A=>?_
      refine sdo (v:=bV true) A (qb rfl rfl (fun w=>(za w).trans (by rw[show((e4 != 0))=true from(by rw[bne,hb84]; rfl)]))) λa A=>?_;refine sdm A λa A=>?_;iterate 3 refine qf A rfl rfl rfl λa A=>?_
      iterate 2 refine sdk (v:=bV true) A λa A=>?_
      refine sda A λa A=>?_;refine qa (hK63 _ _ (wr1 hret A ?_));exact⟨rfl,hBz64.trans (M.bel.mono hBz64.size)⟩
   ·have hb65':=ne_of_beq_false hb65;refine sdc A qg hb65 λa A=>?_;refine sdo A (zr M hg45_z53z64 ji rfl rfl) λa A=>?_;refine gcl A M (ef rfl rfl) ((by have h9:=jq (t:=q3) (Dt.keep M.bel _ hd5) (by rw[htr5]; exact vj (zej qpe (xj hr1).2) yr); rw[htr5,hz2 (ne_of_beq_false hb65)]at h9; exact h9)) fun w92 hb91 M a A=>?_;refine sdo (v:=bV true) A (qb rfl rfl (xh Tryz.underlying4)) λa A=>?_;iterate 2 refine sdm A λa A=>?_
    refine sdo (v:=bV true) A (qb rfl rfl (fun w=>(za w).trans (by rw[show((e2 != 0))=true from(by rw[bne,hb65]; rfl)]))) λa A=>?_;refine sdm A λa A=>?_;iterate 5 refine qf A rfl rfl rfl λa A=>?_
    iterate 3 refine xx A rfl rfl rfl λa A=>?_
    refine qf A rfl rfl rfl λa A=>?_;iterate 2 refine sdk (v:=bV true) A λa A=>?_
    iterate 2 refine sdm A λa A=>?_
    rcases tf ((e3==0))with hb93 | hb93
    ·have hb93':=eq_of_beq hb93;refine sdc A qg hb93 λa A=>?_;refine sdo A (zr M hg54_z64 ji rfl rfl) λa A=>?_;refine gcl A M (ef rfl rfl) ((by have h9:=jq (t:=q4) (Dt.keep M.bel _ hd6) (by rw[htr6]; exact vj (ke (xj hr1).2) yr); rw[htr6,(hy3 (eq_of_beq hb93)).2.2]at h9; exact h9)) fun w95 hb94 M a A=>?_;refine sdo (v:=bV true) A (qb rfl rfl (xh Tryz.underlying4)) λa A=>?_;refine sdk (v:=bV true) A λa A=>?_;iterate 2 refine sdm A λa A=>?_
     refine sdo (v:=bV false) A (qb rfl rfl (fun w=>(za w).trans (by rw[show((e3 != 0))=false from(by rw[bne,hb93]; rfl)]))) λa A=>?_;refine sdm A λa A=>?_;refine sdo A (zr M hg30_z39z44z53z64 ji rfl rfl) λa A=>?_;refine sdo A (zr M hg54_z64 ji rfl rfl) λa A=>?_;refine gcl A M (ef rfl rfl) (qbd (Dt.keep M.bel _ hd3) (Dt.keep M.bel _ hd6) ((qbc _ _).2 (htr3.trans ((hy3 (eq_of_beq hb93)).2.1.trans htr6.symm)))) fun w97 hb96 M a A=>?_;iterate 2 refine sdk (v:=bV true) A λa A=>?_
     iterate 2 refine sdm A λa A=>?_
     rcases tf ((e4==0))with hb98 | hb98
     ·have hb98':=eq_of_beq hb98;refine sdc A qg hb98 λa A=>?_;refine sdo A (zr M hg60_z64 ji rfl rfl) λa A=>?_;refine gcl A M (ef rfl rfl) ((by have h9:=jq (t:=(vp (aO g58) 1 [t1])) (Dt.keep M.bel _ hd7) (by rw[htr7]; exact ks (ke (xj hr1).2)); rw[htr7,(hy4 (eq_of_beq hb98)).2.2]at h9; exact h9)) fun w100 hb99 M a A=>?_;refine sdo (v:=bV true) A (qb rfl rfl (xh Tryz.underlying4)) λa A=>?_;refine sdk (v:=bV true) A λa A=>?_;iterate 2 refine sdm A λa A=>?_
      refine sdo (v:=bV false) A (qb rfl rfl (fun w=>(za w).trans (by rw[show((e4 != 0))=false from(by rw[bne,hb98]; rfl)]))) λa A=>?_;refine sdm A λa A=>?_;refine sdo A (zr M hg35_z39z44z53z64 ji rfl rfl) λa A=>?_;refine sdo A (zr M hg60_z64 ji rfl rfl) λa A=>?_;refine gcl A M (ef rfl rfl) (qbd (Dt.keep M.bel _ hd4) (Dt.keep M.bel _ hd7) ((qbc _ _).2 (htr4.trans ((hy4 (eq_of_beq hb98)).2.1.trans htr7.symm)))) fun w102 hb101 M a A=>?_;iterate 2 refine sdk (v:=bV true) A λa A=>?_
      refine sda A λa A=>?_;refine qa (hK63 _ _ (wr1 hret A ?_));exact⟨rfl,hBz64.trans (M.bel.mono hBz64.size)⟩
     ·have hb98':=ne_of_beq_false hb98;refine sdc A qg hb98 λa A=>?_;refine sdo A (zr M hg60_z64 ji rfl rfl) λa A=>?_;refine gcl A M (ef rfl rfl) ((by have h9:=jq (t:=(vp (aO g58) 1 [t1])) (Dt.keep M.bel _ hd7) (by rw[htr7]; exact ks (ke (xj hr1).2)); rw[htr7,hz4 (ne_of_beq_false hb98)]at h9; exact h9)) fun w104 hb103 M a A=>?_;refine sdo (v:=bV true) A (qb rfl rfl (xh Tryz.underlying4)) λa A=>?_;refine sdk (v:=bV true) A λa A=>?_;iterate 2 refine sdm A λa A=>?_
      refine sdo (v:=bV true) A (qb rfl rfl (fun w=>(za w).trans (by rw[show((e4 != 0))=true from(by rw[bne,hb98]; rfl)]))) λa A=>?_;refine sdm A λa A=>?_;iterate 3 refine qf A rfl rfl rfl λa A=>?_
      iterate 2 refine sdk (v:=bV true) A λa A=>?_
      refine sda A λa A=>?_;refine qa (hK63 _ _ (wr1 hret A ?_));exact⟨rfl,hBz64.trans (M.bel.mono hBz64.size)⟩
    ·have hb93':=ne_of_beq_false hb93;refine sdc A qg hb93 λa A=>?_;refine sdo A (zr M hg54_z64 ji rfl rfl) λa A=>?_;refine gcl A M (ef rfl rfl) ((by have h9:=jq (t:=q4) (Dt.keep M.bel _ hd6) (by rw[htr6]; exact vj (ke (xj hr1).2) yr); rw[htr6,hz3 (ne_of_beq_false hb93)]at h9; exact h9)) fun w106 hb105 M a A=>?_;refine sdo (v:=bV true) A (qb rfl rfl (xh Tryz.underlying4)) λa A=>?_;refine sdk (v:=bV true) A λa A=>?_;iterate 2 refine sdm A λa A=>?_
     refine sdo (v:=bV true) A (qb rfl rfl (fun w=>(za w).trans (by rw[show((e3 != 0))=true from(by rw[bne,hb93]; rfl)]))) λa A=>?_;refine sdm A λa A=>?_;iterate 3 refine qf A rfl rfl rfl λa A=>?_
     iterate 2 refine sdk (v:=bV true) A λa A=>?_
     iterate 2 refine sdm A λa A=>?_
     rcases tf ((e4==0))with hb107 | hb107
     ·have hb107':=eq_of_beq hb107;refine sdc A qg hb107 λa A=>?_;refine sdo A (zr M hg60_z64 ji rfl rfl) λa A=>?_;refine gcl A M (ef rfl rfl) ((by have h9:=jq (t:=(vp (aO g58) 1 [t1])) (Dt.keep M.bel _ hd7) (by rw[htr7]; exact ks (ke (xj hr1).2)); rw[htr7,(hy4 (eq_of_beq hb107)).2.2]at h9; exact h9)) fun w109 hb108 M a A=>?_;refine sdo (v:=bV true) A (qb rfl rfl (xh Tryz.underlying4)) λa A=>?_;refine sdk (v:=bV true) A λa A=>?_;iterate 2 refine sdm A λa A=>?_
      refine sdo (v:=bV false) A (qb rfl rfl (fun w=>(za w).trans (by rw[show((e4 != 0))=false from(by rw[bne,hb107]; rfl)]))) λa A=>?_;refine sdm A λa A=>?_;refine sdo A (zr M hg35_z39z44z53z64 ji rfl rfl) λa A=>?_;refine sdo A (zr M hg60_z64 ji rfl rfl) λa A=>?_;refine gcl A M (ef rfl rfl) (qbd (Dt.keep M.bel _ hd4) (Dt.keep M.bel _ hd7) ((qbc _ _).2 (htr4.trans ((hy4 (eq_of_beq hb107)).2.1.trans htr7.symm)))) fun w111 hb110 M a A=>?_;iterate 2 refine sdk (v:=bV true) A λa A=>?_
      refine sda A λa A=>?_;refine qa (hK63 _ _ (wr1 hret A ?_));exact⟨rfl,hBz64.trans (M.bel.mono hBz64.size)⟩
     ·have hb107':=ne_of_beq_false hb107;refine sdc A qg hb107 λa A=>?_;refine sdo A (zr M hg60_z64 ji rfl rfl) λa A=>?_;refine gcl A M (ef rfl rfl) ((by have h9:=jq (t:=(vp (aO g58) 1 [t1])) (Dt.keep M.bel _ hd7) (by rw[htr7]; exact ks (ke (xj hr1).2)); rw[htr7,hz4 (ne_of_beq_false hb107)]at h9; exact h9)) fun w113 hb112 M a A=>?_;refine sdo (v:=bV true) A (qb rfl rfl (xh Tryz.underlying4)) λa A=>?_;refine sdk (v:=bV true) A λa A=>?_;iterate 2 refine sdm A λa A=>?_
      refine sdo (v:=bV true) A (qb rfl rfl (fun w=>(za w).trans (by rw[show((e4 != 0))=true from(by rw[bne,hb107]; rfl)]))) λa A=>?_;refine sdm A λa A=>?_;iterate 3 refine qf A rfl rfl rfl λa A=>?_
      iterate 2 refine sdk (v:=bV true) A λa A=>?_
      refine sda A λa A=>?_;refine qa (hK63 _ _ (wr1 hret A ?_));exact⟨rfl,hBz64.trans (M.bel.mono hBz64.size)⟩
theorem zsg{W:World}{s:ByteArray}(hE:Env W)(hs:s.size≤140737488351232):Calls Tryz.prog 6 #[.string s] W fun e w'=>e=.returned (bV true)∧Below W.heap.size W w':=by
 have h:=zsf (L:=s.data.toList) hE (by rw[Array.length_toList]; exact Nat.le_trans hs (by decide));have e:tx s.data.toList=s:=jtc s
 rwa [e]at h
section
variable {P:Program} {md:Region.Mode} {ops:List Oper} {Q:Exit→Act→World→Prop} {S:World→Prop} {fuel:Nat} {listed:Array Bool} {a:Act} {w w':World} {n:Nat} {l:List (Nat×Value)} {o:Oper} {v:Value}
end
theorem qjj{W:World}{n nm:String}{d:DataW Unit}{g t:Nat}{ms:Array (String×TypeId)}(hg:Tryz.prog.globalNamed n=some g)(ht:(Tryz.prog.globals[g]?).map (·.type)=some t)(hi:Tryz.prog.underlying t=some (.interface ms))(h:Lib.VarReads Tryz.prog W n (.iface nm d)):
  ∃ev:Value,W.cell? ⟨g,0,none⟩=some ev∧(ev=.nilIface∨∃te pe,ev=.iface te pe):=by
 obtain⟨g',t',cs,fuel,p,h1,h2,h3,h4⟩:=h;obtain rfl:g'=g:=Option.some.inj (h1.symm.trans hg);obtain rfl:t'=t:=Option.some.inj (h2.symm.trans ht);obtain⟨_,u,v,hc,_⟩:=iface_of_trod hi h4;refine⟨.iface u v,?_,.inr ⟨u,v,rfl⟩⟩;rw[World.var?_cell h1 h3 0,←Array.getElem?_toList,hc];rfl
theorem xda{W:World}(h:World.ShapedOpen Tryz.prog W):∃m:Int,W.cell? ⟨Tryz.lays145_ren.g 1,0,none⟩=some (iV m):=by
 obtain⟨ha,_⟩:=h;obtain⟨cs,h1,h2,h3⟩:=ha 2 #[iV 0] 3 (of_decide_eq_true (by kernel_rfl)) (by kernel_rfl);obtain⟨ts,e1,_,e2⟩:=h3 (by kernel_rfl);have ets:ts=[3]:=Option.some.inj (e1.symm.trans (by kernel_rfl));subst ets;have h0:0<cs.size:=by rw[h2]; exact Nat.one_pos
 obtain⟨u,hu,ho⟩:=e2 0 cs[0] (Array.getElem?_eq_getElem h0);obtain rfl:3=u:=Option.some.inj hu;have hc:W.cell? ⟨2,0,none⟩=some cs[0]:=by
  simp only[World.cell?,h1];exact Array.getElem?_eq_getElem h0
 unfold Cell.ok at ho;rw[Tryz.underlying3]at ho;generalize cs[0]=v at hc ho;cases v with
 | int k n =>
  obtain⟨e,_⟩:=ho;cases e
  exact⟨n,hc⟩
 | _ => exact absurd ho id
theorem jyg {W : World} (hT : Tb W) (hR : Lib.VarReads Tryz.prog W "strconv.ErrRange" Rows.laid_strconv_ErrRange) (S : Lib.VarReads Tryz.prog W "strconv.ErrSyntax" Rows.laid_strconv_ErrSyntax) (hO : World.ShapedOpen Tryz.prog W) : Env W :=
 ⟨hT,⟨qjj (by kernel_rfl) (by kernel_rfl) Tryz.underlying85 S,qjj (by kernel_rfl) (by kernel_rfl) Tryz.underlying85 hR⟩,xda hO⟩
end Go.Proofs.YtgjohjfehgdgbaaGreatDoor.G
