/- NatV -/
import Derived.Test.YtgjohjfehgdgbaaGreatDoorNatU
import Derived.Laws.CopyOwn
namespace Go.Proofs.YtgjohjfehgdgbaaGreatDoor
open Go.RowKit
set_option linter.unusedVariables false
set_option linter.unusedSimpArgs false

def Row2(w:World)(l1 l2:List Nat)(e:Ending)(w':World):Prop:=
  ∃qo qc ro rc,e=.returned (.tuple #[.slice qo l1.length qc,.slice ro l2.length rc])∧Own w.heap.size w' qo qc l1∧Own w.heap.size w' ro rc l2∧Below w.heap.size w w'

theorem bl_mul{x k:Nat}(h:x≠0):bl (x*2^k)=bl x+k:=by
  have p:0<2^k:=Nat.pow_pos (by omega);have e:x*2^k / 2^k=x:=Nat.mul_div_cancel _ p;have:=bl_shift (x:=x*2^k) (k:=k) (by rw[e]; exact h);rw[e]at this;omega
section
variable {y n up:Nat} (hy:y≠0) (hn:(words y).length=n) (hup:up=32-bl ((words y).getD (n-1) 0))
include hy hn hup
theorem norm_bl: bl (y*2^up)=32*n∧up≤31∧1≤n:=by
  have h1:=bl_words hy;rw[hn]at h1;have hl:n≠0:=by
    intro e;rw[e]at hn;exact hy (words_eq_nil.1 (List.length_eq_zero_iff.1 hn))
  have ht:(words y).getD (n-1) 0≠0:=by
    rcases words_top y with h | h
    · exact absurd (words_eq_nil.1 h) hy
    · rw[hn]at h;exact h
  have hb:bl ((words y).getD (n-1) 0)≤32:=bl_le.2 ((words_dig y).getD (n-1));have hb0:=bl_pos ht;rw[bl_mul hy];omega
theorem norm_len: (words (y*2^up)).length=n:=by
  obtain⟨h1,h2,h3⟩:=norm_bl hy hn hup;have a:y*2^up<pw n:=by rw[pw_two]; exact bl_le.1 (Nat.le_of_eq h1)
  have b:=words_length_le a;apply Nat.le_antisymm b;apply Classical.byContradiction;intro hc;have c:(words (y*2^up)).length≤n-1:=by omega
  have d:=words_length_iff.1 c;rw[pw_two]at d;have e:=bl_le.2 d;omega
theorem norm_top: (words (y*2^up)).getD (n-1) 0≠0:=by
  have h:=norm_len hy hn hup;have h3:=(norm_bl hy hn hup).2.2;rcases words_top (y*2^up)with h1 | h1
  · rw[h1]at h;simp at h;omega
  · rw[h]at h1;exact h1
theorem norm_ge: 2^(32*n-1)≤y*2^up:=by
  have h:=(norm_bl hy hn hup).1;have h0:y*2^up≠0:=by
    have:0<2^up:=Nat.pow_pos (by omega);exact Nat.mul_ne_zero hy (by omega)
  have:=bl_ge h0;rw[h]at this;exact this
theorem norm_top_a{x la:Nat}(hx:(words x).length=la)(hla:n≤la):x*2^up<pw (la-n+1)*(y*2^up)∧(words (x*2^up)).length≤la+1:=by
  obtain⟨_,h2,h3⟩:=norm_bl hy hn hup;have hxl:x<pw la:=by rw[←hx]; exact words_lt x
  have h4:2^up≤2^31:=Nat.pow_le_pow_right (by omega) h2;have h5:x*2^up<pw la*2^31:=by
    have a:x*2^up≤x*2^31:=Nat.mul_le_mul_left _ h4;have b:x*2^31<pw la*2^31:=Nat.mul_lt_mul_of_pos_right hxl (by omega);omega
  have h6:pw la*2^31=pw (la-n+1)*2^(32*n-1):=by
    rw[pw_two,pw_two,←Nat.pow_add,←Nat.pow_add]
    congr 1
    omega
  refine⟨?_,words_length_le ?_⟩
  · have h7:=Nat.mul_le_mul_left (pw (la-n+1)) (norm_ge hy hn hup);omega
  · rw[pw_succ];have e31:(2:Nat)^31=2147483648:=rfl;omega
end

theorem Own.full{B:Nat}{w:World}{g:Nat}{l:List Nat}(h:Own B w (some ⟨g,0,none⟩) l.length l):w.heap[g]?=some (.cells (U l).toArray 99 (0,0)):=by
  rcases h.row.2 with⟨h2,_⟩ | ⟨g',cap',cur,hv,b,c,d,e,f,t⟩
  · simp at h2
  · simp only[Value.slice.injEq,Option.some.injEq,Addr.mk.injEq,and_true,true_and]at hv;obtain⟨rfl,rfl⟩:=hv;rw[c];have:cur.toList=U l:=by
      rw[←t,List.take_of_length_le];rw[Array.length_toList,f];omega
    rw[←this]
theorem Own.ofFull{B:Nat}{w:World}{g:Nat}{l:List Nat}(hB:B≤g)(hd:Dig l)(hl:l.length≤1000000000)(h:w.heap[g]?=some (.cells (U l).toArray 99 (0,0))):Own B w (some ⟨g,0,none⟩) l.length l:=by
  refine⟨hd,by rw[U_length]; omega,.inr ⟨g,l.length,(U l).toArray,rfl,hB,h,Nat.le_refl _,by unfold maxLen; omega,by simp[U_length],?_⟩⟩;rw[List.take_of_length_le];simp[U_length]
theorem Own.lit1(w:World)(x:Nat)(hx:x<4294967296):Own w.heap.size (w.alloc (.cells #[.int .u32 (x:Int)] 99)) (some ⟨w.heap.size,0,none⟩) 1 [x]:=
  ⟨by simp[Dig]; omega,World.ownsRow_lit (e:=99) (size:=1) w #[.int .u32 (x:Int)] 1 (Nat.le_refl _) (by unfold maxLen; omega) rfl⟩

theorem divide_step{LU LQ:List Nat}{V A k n m:Nat}{M':List Nat}(hk:k+n+1≤LU.length)(hd:Dig LU)(hV:V<pw n)(hV0:0<V)(hlt:val LU<pw (k+1)*V)(hA:val LQ*V+val LU=A)(hkq:k<LQ.length)(hq0:LQ.getD k 0=0):
    val ((LU.drop k).take (n+1))<4294967296*V∧(val M'=val ((LU.drop k).take (n+1))%V→M'.length=n+1 →
      val (LQ.set k (val ((LU.drop k).take (n+1)) / V))*V+val (LU.take k++(M'++LU.drop (k+n+1)))=A∧val (LU.take k++(M'++LU.drop (k+n+1)))<pw k*V):=by
  obtain⟨P,hP⟩:∃P,LU.take k=P:=⟨_,rfl⟩;obtain⟨M,hM⟩:∃M,(LU.drop k).take (n+1)=M:=⟨_,rfl⟩;obtain⟨S,hS⟩:∃S,LU.drop (k+n+1)=S:=⟨_,rfl⟩;have hLU:LU=P++(M++S):=by
    rw[←hP,←hM,←hS,Nat.add_assoc,←List.drop_drop,List.take_append_drop,List.take_append_drop]
  have lP:P.length=k:=by rw[←hP,List.length_take]; omega
  have lM:M.length=n+1:=by rw[←hM,List.length_take,List.length_drop]; omega
  have dP:val P<pw k:=by
    have:=val_lt (hd.take k);rw[hP,lP]at this;exact this
  have v1:val LU=val P+pw k*(val M+pw (n+1)*val S):=by rw[hLU,win_val,lP,lM]
  rw[hM,hP,hS];have hS0:val S=0:=by
    apply Classical.byContradiction;intro h;have h1:pw (n+1)*1≤pw (n+1)*val S:=Nat.mul_le_mul_left _ (by omega);have h2:pw k*pw (n+1)≤pw k*(val M+pw (n+1)*val S):=Nat.mul_le_mul_left _ (by omega);have h3:pw (k+1)*V≤pw (k+1)*pw n:=Nat.mul_le_mul_left _ (by omega);have h4:pw (k+1)*pw n=pw k*pw (n+1):=(by rw[←pw_add,←pw_add]; congr 1; omega);omega
  rw[hS0,Nat.mul_zero,Nat.add_zero]at v1;have hMlt:val M<4294967296*V:=by
    rw[pw_succ,Nat.mul_assoc,Nat.mul_left_comm]at hlt;have:pw k*val M<pw k*(4294967296*V):=(by omega);exact Nat.lt_of_mul_lt_mul_left this
  refine⟨hMlt,fun hM' lM'=>?_⟩;have v2:val (P++(M'++S))=val P+pw k*(val M%V):=by rw[win_val,lP,lM',hS0,Nat.mul_zero,Nat.add_zero,hM']
  have e:=Nat.div_add_mod (val M) V;have hr:=Nat.mod_lt (val M) hV0;have s:=val_set LQ k (val M / V) hkq;rw[hq0,Nat.mul_zero,Nat.add_zero]at s;rw[v2,s];generalize val M / V=d at *
  generalize val M%V=r at *
  refine⟨?_,?_⟩
  · have e2:pw k*val M=pw k*d*V+pw k*r:=by
      rw[←e,Nat.mul_add,Nat.mul_comm V d,Nat.mul_assoc]
    rw[Nat.add_mul];omega
  · have:pw k*(r+1)≤pw k*V:=Nat.mul_le_mul_left _ hr;rw[Nat.mul_add,Nat.mul_one]at this;omega
theorem divide_end{x y up Q R:Nat}(hy:y≠0)(h:Q*(y*2^up)+R=x*2^up)(hR:R<y*2^up):Q=x / y∧R / 2^up=x%y:=by
  have p:0<2^up:=Nat.pow_pos (by omega);have h1:=Nat.div_mod_unique (a:=x*2^up) (b:=y*2^up) (c:=R) (d:=Q) (Nat.mul_pos (by omega) p);have h2:=h1.2 ⟨by rw[Nat.mul_comm (y*2^up)]; omega,hR⟩;rw[Nat.mul_div_mul_right _ _ p,Nat.mul_mod_mul_right]at h2;refine⟨h2.1.symm,?_⟩;rw[←h2.2,Nat.mul_div_cancel _ p]
end Go.Proofs.YtgjohjfehgdgbaaGreatDoor
