/- NatE -/
import Derived.Test.YtgjohjfehgdgbaaGreatDoorNatD
namespace Go.Proofs.YtgjohjfehgdgbaaGreatDoor
open Go.RowKit
set_option linter.unusedVariables false
set_option linter.unusedSimpArgs false

def Row1(w:World)(l:List Nat)(e:Ending)(w':World):Prop:=
  ∃ro rc,e=.returned (.slice ro l.length rc)∧Own w.heap.size w' ro rc l∧Below w.heap.size w w'
def Ans(w:World)(r:List Nat×Int)(e:Ending)(w':World):Prop:=
  ∃ro rc,e=.returned (.tuple #[.slice ro r.1.length rc,.int .i64 r.2])∧Own w.heap.size w' ro rc r.1∧Below w.heap.size w w'
theorem Ans.intro{w:World}{l:List Nat}{k:Int}{w':World}{ro:Option Addr}{rc:Nat}(ho:Own w.heap.size w' ro rc l)(hb:Below w.heap.size w w'):
    Ans w (l,k) (.returned (.tuple #[.slice ro l.length rc,.int .i64 k])) w':=⟨ro,rc,rfl,ho,hb⟩

def fitS(n:Nat):List Nat×Int:=if(words n).length≤512 then(words n,0)else([],4)
theorem sound_words{l:List Nat}(hd:Dig l)(h:sound l=true):l=words (val l)∧l.length≤512:=by
  obtain⟨h1,h2⟩:=(sound_iff l).1 h;exact⟨(words_of hd h2).symm,h1⟩
theorem words_add_length{x y k:Nat}(hx:(words x).length≤k)(hy:(words y).length≤k):(words (x+y)).length≤k+1:=by
  apply words_length_le;have:=words_length_iff.1 hx;have:=words_length_iff.1 hy;have e:pw (k+1)=4294967296*pw k:=pw_succ k;omega
theorem words_mul_length{x y k m:Nat}(hx:(words x).length≤k)(hy:(words y).length≤m):(words (x*y)).length≤k+m:=by
  apply words_length_le;rw[pw_add];exact Nat.mul_lt_mul'' (words_length_iff.1 hx) (words_length_iff.1 hy)

set_option maxHeartbeats 1000000 in
set_option maxRecDepth 1000000 in
theorem rword_any{w:World}{ao:Option Addr}{l:List Nat}(cap k:Nat)(h:Rd w ao l):
    Calls Tryz.prog 150 #[.slice ao l.length cap,.int .i64 (k:Int)] w fun e w'=>e=.returned (.int .u64 ((l.getD k 0:Nat):Int))∧w'=w:=by
  by_cases hk:k<l.length
  · have hne:l≠[]:=(by intro e; subst e; simp at hk);obtain⟨b,off,rfl,hb,hc⟩:=h.pos hne;have hcell:=hc k hk;have hx:=h.dig.getD k;generalize l.getD k 0=x at *
    clear hc h hne
    go_enter Tryz.func150,Tryz.ntmps150
    go_wp2
    go_ret
    exact⟨rfl,rfl⟩
  · have e:l.getD k 0=0:=(by simp[List.getElem?_eq_none (by omega:l.length≤k)]);rw[e];clear e h
    go_enter Tryz.func150,Tryz.ntmps150
    go_wp2
    go_ret
    exact⟨rfl,rfl⟩

theorem Rd.lit1(w:World)(x:Nat)(hx:x<4294967296):Rd (w.alloc (.cells #[.int .u32 (x:Int)] 99)) (some ⟨w.heap.size,0,none⟩) [x]:=by
  refine⟨by simp[Dig]; exact hx,fun _=>⟨w.heap.size,0,rfl,by simp,fun j hj=>?_⟩⟩;have:j=0:=by simp at hj; exact hj
  subst this;simp
end Go.Proofs.YtgjohjfehgdgbaaGreatDoor
