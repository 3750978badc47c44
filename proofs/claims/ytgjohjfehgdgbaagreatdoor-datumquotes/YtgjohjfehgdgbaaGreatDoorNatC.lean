/- NatC -/
import Derived.Test.YtgjohjfehgdgbaaGreatDoorNatB
import Derived.Deep.RegionWith
import Derived.BigRegion
namespace Go.Proofs.YtgjohjfehgdgbaaGreatDoor
open Go.RowKit
set_option linter.unusedVariables false
set_option linter.unusedSimpArgs false

theorem retI{k:IntKind}{a b:Int}(h:a=b):Ending.returned (.int k a)=.returned (.int k b):=by rw[h]
theorem cmp_step{x y n k:Nat}(h:x / pw (n-k)=y / pw (n-k))(hk:k<n):
    ((words x).getD (n-1-k) 0=(words y).getD (n-1-k) 0→x / pw (n-(k+1))=y / pw (n-(k+1))) ∧
    ((words x).getD (n-1-k) 0≠(words y).getD (n-1-k) 0→cmpN ((words x).getD (n-1-k) 0) ((words y).getD (n-1-k) 0)=cmpN x y):=by
  have e1:n-k=(n-1-k)+1:=by omega
  have e2:n-(k+1)=n-1-k:=by omega
  rw[e1]at h;obtain⟨a1,a2,a3⟩:=order_step x y (n-1-k) h;rw[words_getD,words_getD,e2];refine⟨a1,fun hne=>?_⟩;unfold cmpN;by_cases c:x / pw (n-1-k)%4294967296<y / pw (n-1-k)%4294967296
  · rw[if_pos c,if_pos (a2 c)]
  · have c2:y / pw (n-1-k)%4294967296<x / pw (n-1-k)%4294967296:=(by omega);have:=a3 c2;rw[if_neg c,if_pos c2,if_neg (by omega),if_pos this]
theorem cmp_len{x y:Nat}(h:(words x).length≠(words y).length):cmpN (words x).length (words y).length=cmpN x y:=by
  unfold cmpN;by_cases c:(words x).length<(words y).length
  · rw[if_pos c,if_pos (lt_of_words_length c)]
  · have c2:(words y).length<(words x).length:=(by omega);have:=lt_of_words_length c2;rw[if_neg c,if_pos c2,if_neg (by omega),if_pos this]

set_option maxHeartbeats 4000000 in
set_option maxRecDepth 1000000 in
theorem order_any{w:World}{ao bo:Option Addr}{x y:Nat}(ca cb:Nat)(ha:Rd w ao (words x))(hb:Rd w bo (words y))(hx:(words x).length≤1000000)(hy:(words y).length≤1000000):
    Calls Tryz.prog 110 #[.slice ao (words x).length ca,.slice bo (words y).length cb] w fun e w'=>e=.returned (.int .i64 (cmpN x y))∧Below w.heap.size w w':=by
  by_cases hl:(words x).length=(words y).length
  · have HX:Hid ((words x).length=(words y).length):=hl;obtain⟨n,hn⟩:∃n,n=(words x).length:=⟨_,rfl⟩;rw[←hl,←hn];have HN:Hid (n=(words x).length):=hn;rw[←hn]at hx;clear hl hn hy
    go_enter Tryz.func110,Tryz.ntmps110
    go_wp2
    go_loopw [19] (fun v wr=>Below w.heap.size w wr∧∃k:Nat,k≤n∧v=.int .i64 (k:Int)∧x / pw (n-k)=y / pw (n-k)) (fun v _=>n-(intOf v).toNat)
    case atStart=>
      refine⟨Below.refl _ _,0,Nat.zero_le _,rfl,?_⟩;rw[div_words_length x _ (by rw[HN.out]; omega),div_words_length y _ (by rw[HN.out,←HX.out]; omega)]
    case round=>
      obtain⟨hbw,k,hk,rfl,hd⟩:=hrel;have HD:Hid _:=hd;clear hd;by_cases hkn:k<n
      · have ha':=ha.below hbw;have hb':=hb.below hbw;obtain⟨b1,o1,rfl,_,hc1⟩:=ha'.pos (by intro e; have:=HN.out; rw[e]at this; simp at this; omega);obtain⟨b2,o2,rfl,_,hc2⟩:=hb'.pos (by intro e; have:=HX.out; rw[←HN.out,e]at this; simp at this; omega);have c1:=hc1 (n-1-k) (by have:=HN.out; omega);have c2:=hc2 (n-1-k) (by have:=HN.out; have:=HX.out; omega);have HS:Hid _:=cmp_step HD.out hkn;have d1:=(words_dig x).getD (n-1-k);have d2:=(words_dig y).getD (n-1-k);clear hc1 hc2 ha hb ha' hb';obtain⟨p,hp⟩:∃p,(words x).getD (n-1-k) 0=p:=⟨_,rfl⟩;obtain⟨q,hq⟩:∃q,(words y).getD (n-1-k) 0=q:=⟨_,rfl⟩;rw[hp,hq]at HS;rw[hp]at c1 d1;rw[hq]at c2 d2;clear hp hq;have e1:((n:Int)-1-k).toNat=n-1-k:=(by omega);by_cases hpq:p=q
        · subst hpq
          go_wp2
          go_region
          all_goals go_wp2
          go_roundw
          case rel=>exact⟨hbw.drew,k+1,by omega,by go_num,HS.out.1 (by trivial)⟩
          case measure=>simp[intOf]; omega
        · have e2:((p:Int)==q)=false:=by simp; omega
          go_wp2
          go_region
          go_wp2
          go_region_with (go_at_call 135; refine(compareU_any p q _ d1 d2).mono ?_; rintro e w' ⟨rfl,rfl⟩)
          all_goals go_wp2
          all_goals go_ret
          all_goals (refine⟨retI (HS.out.2 hpq),?_⟩; (repeat apply Below.drew); exact hbw)
      · have e3:k=n:=(by omega);subst e3;have hxy:cmpN x y=0:=by
          have:=HD.out;rw[Nat.sub_self,pw_zero,Nat.div_one,Nat.div_one]at this;rw[this];simp[cmpN]
        go_wp2
        go_ret
        exact⟨retI hxy.symm,hbw⟩
  · rw[←cmp_len hl];have h1:(((words x).length:Int)==((words y).length:Int))=false:=(by simp; omega);have c:=compareI_any (words x).length (words y).length w (by omega) (by omega);generalize (words x).length=n at *
    generalize (words y).length=m at *
    clear ha hb
    go_enter Tryz.func110,Tryz.ntmps110
    go_wp2_with (go_at_call 134; refine c.mono ?_; rintro e w' ⟨rfl,rfl⟩)
    go_ret
    exact⟨rfl,Below.refl _ _⟩
end Go.Proofs.YtgjohjfehgdgbaaGreatDoor
