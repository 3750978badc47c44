/- Mem -/
import Derived.Test.YtgjohjfehgdgbaaGreatDoorWords
import Derived.WalkKit
import Derived.WalkSpells
import Derived.WalkSmall
import Derived.Deep.OwnRows
namespace Go.Proofs.YtgjohjfehgdgbaaGreatDoor
open Go.RowKit
set_option linter.unusedVariables false
set_option linter.unusedSimpArgs false

def lenOf: Value→Nat | .slice _ n _=>n | _=>0

def U(l:List Nat):List Value:=l.map (fun(x:Nat)=>Value.int .u32 (x:Int))
theorem U_length(l:List Nat):(U l).length=l.length:=by simp[U]
theorem U_append(a b:List Nat):U (a++b)=U a++U b:=by simp[U]
theorem U_get(l:List Nat)(j:Nat)(h:j<l.length):(U l)[j]?=some (.int .u32 ((l.getD j 0:Nat):Int)):=by simp[U,h]
theorem U_one(l:List Nat):∀u∈U l,u.oneCell'=true:=by
  intro u hu;obtain⟨x,_,rfl⟩:=List.mem_map.1 hu;rfl
theorem U_set(l:List Nat)(j d:Nat):U (l.set j d)=(U l).set j (.int .u32 (d:Int)):=by simp[U,List.map_set]

structure Rd(w:World)(ao:Option Addr)(l:List Nat):Prop where
  dig:Dig l
  pos:l≠[]→∃b off,ao=some ⟨b,off,none⟩∧b<w.heap.size∧∀j,j<l.length→w.cell? ⟨b,off+j,none⟩=some (.int .u32 ((l.getD j 0:Nat):Int))

theorem cell_lt{w:World}{b off:Nat}{v:Value}(h:w.cell? ⟨b,off,none⟩=some v):b<w.heap.size:=by
  apply Classical.byContradiction;intro h1;have:w.heap[b]?=none:=Array.getElem?_eq_none (by omega);simp[World.cell?,this]at h

theorem Rd.nil(w:World)(ao:Option Addr):Rd w ao []:=⟨dig_nil,fun h=>absurd rfl h⟩
theorem Rd.below{w w':World}{ao:Option Addr}{l:List Nat}(h:Rd w ao l)(hb:Below w.heap.size w w'):Rd w' ao l:=by
  refine⟨h.dig,fun hne=>?_⟩;obtain⟨b,off,h1,h2,h3⟩:=h.pos hne;exact⟨b,off,h1,Nat.lt_of_lt_of_le h2 hb.size,fun j hj=>(hb.cell (by exact h2)).trans (h3 j hj)⟩
theorem Rd.under{w w':World}{ao:Option Addr}{l:List Nat}{B:Nat}(h:Rd w ao l)(hlt:∀a,ao=some a→a.block<B)(hb:Below B w w'):Rd w' ao l:=by
  refine⟨h.dig,fun hne=>?_⟩;obtain⟨b,off,h1,h2,h3⟩:=h.pos hne;exact⟨b,off,h1,Nat.lt_of_lt_of_le h2 hb.size,fun j hj=>(hb.cell (p:=⟨b,off+j,none⟩) (hlt ⟨b,off,none⟩ h1)).trans (h3 j hj)⟩
theorem Rd.grown{w w':World}{ao:Option Addr}{l:List Nat}{g:Option Nat}(h:Rd w ao l)(hg:w.grownBy w' g)(hne:∀a,ao=some a→some a.block≠g):Rd w' ao l:=by
  refine⟨h.dig,fun hn=>?_⟩;obtain⟨b,off,h1,h2,h3⟩:=h.pos hn;refine⟨b,off,h1,Nat.lt_of_lt_of_le h2 hg.size,fun j hj=>?_⟩;rw[←h3 j hj];exact World.cell?_of_block (w:=w) (hg.block b h2 (hne _ h1))
theorem Rd.take{w:World}{ao:Option Addr}{l:List Nat}(h:Rd w ao l)(n:Nat):Rd w ao (l.take n):=by
  refine⟨h.dig.take n,fun hn=>?_⟩;obtain⟨b,off,h1,h2,h3⟩:=h.pos (fun e=>hn (by rw[e]; simp));refine⟨b,off,h1,h2,fun j hj=>?_⟩;rw[List.length_take]at hj;rw[h3 j (by omega)];simp only[List.getD_eq_getElem?_getD];rw[List.getElem?_take,if_pos (by omega)]
theorem Rd.drew{w:World}{ao:Option Addr}{l:List Nat}(h:Rd w ao l):Rd w.drew ao l:=h.below (Below.refl _ w).drew

structure Own(B:Nat)(w:World)(ao:Option Addr)(cap:Nat)(l:List Nat):Prop where
  dig:Dig l
  row:w.ownsRow B 99 1 (.slice ao l.length cap) l.length (U l)

section
variable {B:Nat} {w w':World} {ao:Option Addr} {cap:Nat} {l:List Nat} {g:Nat}
theorem Own.nil(B:Nat)(w:World):Own B w none 0 []:=⟨dig_nil,World.ownsRow_nil _ _ _ _⟩
theorem Own.rd(h:Own B w ao cap l):Rd w ao l:=by
  refine⟨h.dig,fun hne=>?_⟩;rcases h.row.2 with⟨h2,h3⟩ | ⟨g,cap,cur,hv,b,c,d⟩
  · exact absurd (List.length_eq_zero_iff.1 h3) hne
  · simp only[Value.slice.injEq]at hv;obtain⟨rfl,_,rfl⟩:=hv;refine⟨g,0,rfl,(Array.getElem?_eq_some_iff.1 c).1,fun j hj=>?_⟩;rw[Nat.zero_add,h.row.cellAt j (by omega),U_get l j hj]
theorem Own.lt(h:Own B w ao cap l):∀a,ao=some a→B≤a.block∧a.block<w.heap.size:=by
  intro a ha;exact h.row.lt a.block (by rw[ha]; rfl)
theorem Own.lower{B':Nat}(h:Own B w ao cap l)(hB:B'≤B):Own B' w ao cap l:=by
  refine⟨h.dig,h.row.1,?_⟩;rcases h.row.2 with h2 | ⟨g,cap,cur,hv,b,c⟩
  · exact .inl h2
  · exact .inr ⟨g,cap,cur,hv,Nat.le_trans hB b,c⟩
theorem Own.kept{r:Option Nat}(h:Own B w ao cap l)(hg:w.grownBy w' r)(hne:∀a,ao=some a→some a.block≠r):Own B w' ao cap l:=by
  refine⟨h.dig,h.row.kept hg ?_⟩;cases ao with
  | none => exact .inl rfl
  | some a => exact .inr (hne a rfl)
theorem Own.below(h:Own B w ao cap l)(hb:Below w.heap.size w w'):Own B w' ao cap l:=
  h.kept (r:=none) ⟨hb.os,hb.tape,hb.output,hb.size,fun k hk _=>hb.block k hk⟩ (fun a _=>by simp)
theorem Own.under{C:Nat}(h:Own B w ao cap l)(hlt:∀a,ao=some a→a.block<C)(hb:Below C w w'):Own B w' ao cap l:=by
  refine⟨h.dig,h.row.1,?_⟩;rcases h.row.2 with h2 | ⟨g,cap,cur,hv,b,c,d⟩
  · exact .inl h2
  · simp only[Value.slice.injEq]at hv;refine .inr ⟨g,cap,cur,by rw[hv.1,hv.2.2],b,(hb.block g (hlt ⟨g,0,none⟩ hv.1)).trans c,d⟩
theorem Own.alloc(h:Own B w ao cap l)(o:Obj):Own B (w.alloc o) ao cap l:=⟨h.dig,h.row.alloc o⟩
theorem Own.drew(h:Own B w ao cap l):Own B w.drew ao cap l:=⟨h.dig,h.row.drew⟩
theorem Own.cell(h:Own B w (some ⟨g,0,none⟩) cap l)(j:Nat)(hj:j<l.length):w.cell? ⟨g,j,none⟩=some (.int .u32 ((l.getD j 0:Nat):Int)):=by
  rw[h.row.cellAt j (by omega),U_get l j hj]
theorem Own.frozen(h:Own B w (some ⟨g,0,none⟩) cap l)(j:Nat):w.frozen? ⟨g,j,none⟩=false:=h.row.frozenAt j
theorem Own.set(h:Own B w (some ⟨g,0,none⟩) cap l)(j d:Nat)(hd:d<4294967296):Own B (w.setCell ⟨g,j,none⟩ (.int .u32 (d:Int))) (some ⟨g,0,none⟩) cap (l.set j d):=by
  have:=(h.row.stored j (.int .u32 (d:Int))).1;refine⟨h.dig.set j d hd,?_⟩;rw[List.length_set,U_set];exact this
theorem Own.form(h:Own B w ao cap l)(hne:ao≠none):∃g,ao=some ⟨g,0,none⟩∧B≤g∧g<w.heap.size:=by
  rcases h.row.2 with⟨h2,h3⟩ | ⟨g,cap,cur,hv,b,c,d⟩
  · simp only[Value.slice.injEq]at h2;exact absurd h2.1 hne
  · simp only[Value.slice.injEq]at hv;exact⟨g,hv.1,b,(Array.getElem?_eq_some_iff.1 c).1⟩
theorem Own.caps(h:Own B w ao cap l):l.length≤cap:=by
  rcases h.row.2 with⟨h2,h3⟩ | ⟨g,cap',cur,hv,b,c,d,_⟩
  · simp only[Value.slice.injEq]at h2;omega
  · simp only[Value.slice.injEq]at hv;omega
theorem Own.cut(h:Own B w (some ⟨g,0,none⟩) cap l)(k:Nat)(hk:k≤l.length):Own B w (some ⟨g,0,none⟩) cap (l.take k):=by
  refine⟨h.dig.take k,?_⟩;have hl:(l.take k).length=k:=by rw[List.length_take]; omega
  rcases h.row.2 with⟨h2,_⟩ | ⟨g',cap',cur,hv,b,c,d,e,f,t⟩
  · simp at h2
  · simp only[Value.slice.injEq,Option.some.injEq,Addr.mk.injEq,and_true,true_and]at hv;obtain⟨rfl,rfl⟩:=hv;refine⟨by simp[U_length],.inr ⟨g,cap,cur,rfl,b,c,by omega,e,f,?_⟩⟩;rw[hl,U,List.map_take,show l.map _=U l from rfl,←t,List.take_take,Nat.min_eq_left (by omega),Nat.mul_one]
end
theorem Own.made(w:World)(n:Nat)(hn:n≤70368744177664):Own w.heap.size (w.alloc (.cells (madeCells #[.int .u32 0] n) 99)) (some ⟨w.heap.size,0,none⟩) n (List.replicate n 0):=by
  refine⟨dig_replicate n,?_⟩;have h:=World.ownsRow_lit (e:=99) (size:=1) w (madeCells #[.int .u32 0] n) n (Nat.le_refl _) (by unfold maxLen; omega) (by rw[size_madeCells]; simp);have e:(madeCells #[.int .u32 0] n).toList=U (List.replicate n 0):=by
    apply List.ext_getElem
    · simp[size_madeCells,U]
    · intro i h1 h2;simp[madeCells,U,Nat.mod_one]
  rw[e]at h;rw[List.length_replicate];exact h
end Go.Proofs.YtgjohjfehgdgbaaGreatDoor
