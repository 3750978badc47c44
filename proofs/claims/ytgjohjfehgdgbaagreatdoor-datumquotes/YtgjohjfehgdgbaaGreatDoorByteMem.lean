/- ByteMem -/
import Derived.Test.YtgjohjfehgdgbaaGreatDoorMem
namespace Go.Proofs.YtgjohjfehgdgbaaGreatDoor
open Go.RowKit
set_option linter.unusedVariables false
set_option linter.unusedSimpArgs false

def Dig8(l:List Nat):Prop:=∀x∈l,x<256
theorem dig8_nil: Dig8 []:=by intro x hx; simp at hx
theorem Dig8.take{l:List Nat}(h:Dig8 l)(n:Nat):Dig8 (l.take n):=fun x hx=>h x (List.mem_of_mem_take hx)
theorem Dig8.set{l:List Nat}(h:Dig8 l)(i d:Nat)(hd:d<256):Dig8 (l.set i d):=by
  intro x hx;rcases List.mem_or_eq_of_mem_set hx with h1 | h1
  · exact h x h1
  · omega
theorem Dig8.getD{l:List Nat}(h:Dig8 l)(i:Nat):l.getD i 0<256:=by
  by_cases hi:i<l.length
  · have:l.getD i 0=l[i]:=(by simp[hi]);rw[this];exact h _ (List.getElem_mem hi)
  · have:l.getD i 0=0:=(by simp[List.getElem?_eq_none (by omega:l.length≤i)]);omega
def V8(l:List Nat):List Value:=l.map (fun(x:Nat)=>Value.int .u8 (x:Int))
theorem V8_length(l:List Nat):(V8 l).length=l.length:=by simp[V8]
theorem V8_get(l:List Nat)(j:Nat)(h:j<l.length):(V8 l)[j]?=some (.int .u8 ((l.getD j 0:Nat):Int)):=by simp[V8,h]
theorem V8_set(l:List Nat)(j d:Nat):V8 (l.set j d)=(V8 l).set j (.int .u8 (d:Int)):=by simp[V8,List.map_set]

structure RdB(w:World)(ao:Option Addr)(l:List Nat):Prop where
  dig:Dig8 l
  pos:l≠[]→∃b off,ao=some ⟨b,off,none⟩∧b<w.heap.size∧∀j,j<l.length→w.cell? ⟨b,off+j,none⟩=some (.int .u8 ((l.getD j 0:Nat):Int))

theorem RdB.nil(w:World)(ao:Option Addr):RdB w ao []:=⟨dig8_nil,fun h=>absurd rfl h⟩
theorem RdB.below{w w':World}{ao:Option Addr}{l:List Nat}(h:RdB w ao l)(hb:Below w.heap.size w w'):RdB w' ao l:=by
  refine⟨h.dig,fun hne=>?_⟩;obtain⟨b,off,h1,h2,h3⟩:=h.pos hne;exact⟨b,off,h1,Nat.lt_of_lt_of_le h2 hb.size,fun j hj=>(hb.cell (by exact h2)).trans (h3 j hj)⟩
theorem RdB.grown{w w':World}{ao:Option Addr}{l:List Nat}{g:Option Nat}(h:RdB w ao l)(hg:w.grownBy w' g)(hne:∀a,ao=some a→some a.block≠g):RdB w' ao l:=by
  refine⟨h.dig,fun hn=>?_⟩;obtain⟨b,off,h1,h2,h3⟩:=h.pos hn;refine⟨b,off,h1,Nat.lt_of_lt_of_le h2 hg.size,fun j hj=>?_⟩;rw[←h3 j hj];exact World.cell?_of_block (w:=w) (hg.block b h2 (hne _ h1))
theorem RdB.take{w:World}{ao:Option Addr}{l:List Nat}(h:RdB w ao l)(n:Nat):RdB w ao (l.take n):=by
  refine⟨h.dig.take n,fun hn=>?_⟩;obtain⟨b,off,h1,h2,h3⟩:=h.pos (fun e=>hn (by rw[e]; simp));refine⟨b,off,h1,h2,fun j hj=>?_⟩;rw[List.length_take]at hj;rw[h3 j (by omega)];simp only[List.getD_eq_getElem?_getD];rw[List.getElem?_take,if_pos (by omega)]
theorem RdB.drew{w:World}{ao:Option Addr}{l:List Nat}(h:RdB w ao l):RdB w.drew ao l:=h.below (Below.refl _ w).drew

structure OwnB(B:Nat)(w:World)(ao:Option Addr)(cap:Nat)(l:List Nat):Prop where
  dig:Dig8 l
  row:w.ownsRow B 5 1 (.slice ao l.length cap) l.length (V8 l)

section
variable {B:Nat} {w w':World} {ao:Option Addr} {cap:Nat} {l:List Nat} {g:Nat}
theorem OwnB.nil(B:Nat)(w:World):OwnB B w none 0 []:=⟨dig8_nil,World.ownsRow_nil _ _ _ _⟩
theorem OwnB.rd(h:OwnB B w ao cap l):RdB w ao l:=by
  refine⟨h.dig,fun hne=>?_⟩;rcases h.row.2 with⟨h2,h3⟩ | ⟨g,cap,cur,hv,b,c,d⟩
  · exact absurd (List.length_eq_zero_iff.1 h3) hne
  · simp only[Value.slice.injEq]at hv;obtain⟨rfl,_,rfl⟩:=hv;refine⟨g,0,rfl,(Array.getElem?_eq_some_iff.1 c).1,fun j hj=>?_⟩;rw[Nat.zero_add,h.row.cellAt j (by omega),V8_get l j hj]
theorem OwnB.lt(h:OwnB B w ao cap l):∀a,ao=some a→B≤a.block∧a.block<w.heap.size:=by
  intro a ha;exact h.row.lt a.block (by rw[ha]; rfl)
theorem OwnB.kept{r:Option Nat}(h:OwnB B w ao cap l)(hg:w.grownBy w' r)(hne:∀a,ao=some a→some a.block≠r):OwnB B w' ao cap l:=by
  refine⟨h.dig,h.row.kept hg ?_⟩;cases ao with
  | none => exact .inl rfl
  | some a => exact .inr (hne a rfl)
theorem OwnB.below(h:OwnB B w ao cap l)(hb:Below w.heap.size w w'):OwnB B w' ao cap l:=
  h.kept (r:=none) ⟨hb.os,hb.tape,hb.output,hb.size,fun k hk _=>hb.block k hk⟩ (fun a _=>by simp)
theorem OwnB.alloc(h:OwnB B w ao cap l)(o:Obj):OwnB B (w.alloc o) ao cap l:=⟨h.dig,h.row.alloc o⟩
theorem OwnB.drew(h:OwnB B w ao cap l):OwnB B w.drew ao cap l:=⟨h.dig,h.row.drew⟩
theorem OwnB.cell(h:OwnB B w (some ⟨g,0,none⟩) cap l)(j:Nat)(hj:j<l.length):w.cell? ⟨g,j,none⟩=some (.int .u8 ((l.getD j 0:Nat):Int)):=by
  rw[h.row.cellAt j (by omega),V8_get l j hj]
theorem OwnB.frozen(h:OwnB B w (some ⟨g,0,none⟩) cap l)(j:Nat):w.frozen? ⟨g,j,none⟩=false:=h.row.frozenAt j
theorem OwnB.set(h:OwnB B w (some ⟨g,0,none⟩) cap l)(j d:Nat)(hd:d<256):OwnB B (w.setCell ⟨g,j,none⟩ (.int .u8 (d:Int))) (some ⟨g,0,none⟩) cap (l.set j d):=by
  have:=(h.row.stored j (.int .u8 (d:Int))).1;refine⟨h.dig.set j d hd,?_⟩;rw[List.length_set,V8_set];exact this
theorem OwnB.form(h:OwnB B w ao cap l)(hne:ao≠none):∃g,ao=some ⟨g,0,none⟩∧B≤g∧g<w.heap.size:=by
  rcases h.row.2 with⟨h2,h3⟩ | ⟨g,cap,cur,hv,b,c,d⟩
  · simp only[Value.slice.injEq]at h2;exact absurd h2.1 hne
  · simp only[Value.slice.injEq]at hv;exact⟨g,hv.1,b,(Array.getElem?_eq_some_iff.1 c).1⟩
theorem OwnB.caps(h:OwnB B w ao cap l):l.length≤cap:=by
  rcases h.row.2 with⟨h2,h3⟩ | ⟨g,cap',cur,hv,b,c,d,_⟩
  · simp only[Value.slice.injEq]at h2;omega
  · simp only[Value.slice.injEq]at hv;omega
theorem OwnB.cut(h:OwnB B w (some ⟨g,0,none⟩) cap l)(k:Nat)(hk:k≤l.length):OwnB B w (some ⟨g,0,none⟩) cap (l.take k):=by
  refine⟨h.dig.take k,?_⟩;have hl:(l.take k).length=k:=by rw[List.length_take]; omega
  rcases h.row.2 with⟨h2,_⟩ | ⟨g',cap',cur,hv,b,c,d,e,f,t⟩
  · simp at h2
  · simp only[Value.slice.injEq,Option.some.injEq,Addr.mk.injEq,and_true,true_and]at hv;obtain⟨rfl,rfl⟩:=hv;refine⟨by simp[V8_length],.inr ⟨g,cap,cur,rfl,b,c,by omega,e,f,?_⟩⟩;rw[hl,V8,List.map_take,show l.map _=V8 l from rfl,←t,List.take_take,Nat.min_eq_left (by omega),Nat.mul_one]
end
end Go.Proofs.YtgjohjfehgdgbaaGreatDoor
