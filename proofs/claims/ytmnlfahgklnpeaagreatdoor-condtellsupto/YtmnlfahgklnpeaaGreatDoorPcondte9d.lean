/- St StOp ExH NumV NumW NumX BiA BiB NumD NumY NumS NumZ NumH NumI NumJ NumR BiC BiD NumT BiE NumU BiF NumP BiG NumB BiH NumC BiJ NumG BiS BiK RxA RxB ExI ExJ ExK ExL ExM RxC NumM NumN RxM RxD RxE RxN RxO RxP ArgN RxQ RxI RxJ -/
import Derived.Test.YtmnlfahgklnpeaaGreatDoorPcondte9b
import Derived.OrdersHeld
import Derived.Deep.RegionHeld3
import Derived.Laws.IdiomCopy
import Derived.ChangeKeysEq
import Derived.LoopN
import Derived.Deep.AppendLies
import Derived.Test.YtmnlfahgklnpeaaGreatDoorPcondte9c
import Derived.Test.YtmnlfahgklnpeaaGreatDoorArith
import Derived.WalkKit
import Derived.ProofKit
import Derived.OpenShut
import Derived.ChangeOld
import Derived.Lib.SmallJoins
import Derived.Deep.Strs
set_option linter.unusedVariables false
set_option linter.unusedSimpArgs false
set_option maxHeartbeats 4000000
set_option maxRecDepth 1000000
namespace Go.Proofs.YtmnlfahgklnpeaaGreatDoor
open Go.RowKit
abbrev pA(b o:Nat):Value:=.pointer (some ⟨b,o,none⟩)
abbrev iV(z:Int):Value:=.int .i64 z
abbrev bV(b:Bool):Value:=.bool b
abbrev aO(g:Nat):Option Addr:=some ⟨g,0,none⟩
theorem ns{α:Type}{l:List α}:List.Sublist [] l:=List.nil_sublist l
theorem cN{α:Type}{l m:List α}{a:α}(h:l.Sublist m):l.Sublist (a::m):=.cons _ h
theorem cC{α:Type}{l m:List α}{a:α}(h:l.Sublist m):(a::l).Sublist (a::m):=.cons_cons _ h

def vf: List (Nat×Value)→Nat→Option Value
  | [], _ => none
  | (k, v) :: t, n => cond (Nat.beq k n) (some v) (vf t n)
def ev(l:List (Nat×Value)):Operand→Option Value
  | .tmp k => vf l k
  | .const v => some v
  | .global g => some (.pointer (some ⟨g, 0, none⟩))
  | .func f => some (.func (.func f) #[] #[])
def evs(l:List (Nat×Value)):List Operand→Option (List Value)
  | [] => some []
  | x :: xs => match ev l x, evs l xs with|some v, some vs => some (v :: vs)|_, _ => none
def evp(l:List (Nat×Value)):List (Nat×Operand)→Option (List (Nat×Value))
  | [] => some []
  | (i, x) :: xs => match ev l x, evp l xs with|some v, some vs => some ((i, v) :: vs)|_, _ => none
structure Sl(a:Act)(n:Nat)(l:List (Nat×Value)):Prop where
  size:a.tmps.size=n
  holds:∀k v,vf l k=some v→a.tmps[k]?=some v
  none_:a.defers=[]
section
variable {a:Act} {n:Nat} {l:List (Nat×Value)}
theorem Sl.ev(h:Sl a n l){x:Operand}{v:Value}(hx:ev l x=some v):a.eval x=v:=by
  cases x with
  | tmp k =>
    have:=h.holds k v hx;simp[Act.eval,Array.getD_eq_getD_getElem?,this]
  | const u => simpa [YtmnlfahgklnpeaaGreatDoor.ev, Act.eval] using hx
  | global g => simpa [YtmnlfahgklnpeaaGreatDoor.ev, Act.eval] using hx
  | func f => simpa [YtmnlfahgklnpeaaGreatDoor.ev, Act.eval] using hx
theorem Sl.evs(h:Sl a n l):∀{xs:List Operand} {vs:List Value},evs l xs=some vs→xs.map a.eval=vs:=by
  intro xs
  induction xs with
  | nil => intro vs hx; simp [YtmnlfahgklnpeaaGreatDoor.evs] at hx; simp [hx]
  | cons x xs ih =>
    intro vs hx;unfold YtmnlfahgklnpeaaGreatDoor.evs at hx
    split at hx
    · rename_i v us h1 h2;cases hx
      simp[h.ev h1,ih h2]
    · cases hx
theorem Sl.evp(h:Sl a n l):∀{xs:List (Nat×Operand)} {vs:List (Nat×Value)},evp l xs=some vs→xs.map (fun p=>(p.1,a.eval p.2))=vs:=by
  intro xs
  induction xs with
  | nil => intro vs hx; simp [YtmnlfahgklnpeaaGreatDoor.evp] at hx; simp [hx]
  | cons x xs ih =>
    intro vs hx;obtain⟨i,x⟩:=x;unfold YtmnlfahgklnpeaaGreatDoor.evp at hx
    split at hx
    · rename_i v us h1 h2;cases hx
      simp[h.ev h1,ih h2]
    · cases hx
theorem Sl.put(h:Sl a n l){d:Nat}(hd:Nat.blt d n=true)(v:Value):Sl (a.put (some d) v) n ((d,v)::l):=by
  refine⟨by simp[Act.put,h.size],fun k u hk=>?_,by simp[Act.put,h.none_]⟩;have hd':d<a.tmps.size:=by rw[h.size]; exact Nat.le_of_ble_eq_true hd
  unfold vf at hk;cases hb:Nat.beq d k with
  | true =>
    rw[hb]at hk;have:d=k:=Nat.eq_of_beq_eq_true hb;subst this;simp only[cond_true,Option.some.injEq]at hk;subst hk;simp[Act.put,Array.getElem?_setIfInBounds,hd']
  | false =>
    rw[hb]at hk;have hne:d≠k:=fun e=>(by rw[e,Nat.beq_refl]at hb; cases hb);simp only[cond_false]at hk;simp[Act.put,Array.getElem?_setIfInBounds,hne,h.holds k u hk]
theorem Sl.enter{args:List Value}{m:Nat}(hl:args.length≤m):Sl { tmps:=args.toArray++Array.replicate (m-args.toArray.size) undef,defers:=[] } m (args.zipIdx.map fun p=>(p.2,p.1)):=by
  refine⟨by simp; omega,fun k v hk=>?_,rfl⟩;have key:∀(xs:List Value) (o:Nat),vf ((xs.zipIdx o).map fun p=>(p.2,p.1)) k=some v→o≤k∧xs[k-o]?=some v:=by
    intro xs
    induction xs with
    | nil => intro o h; simp [vf] at h
    | cons x xs ih =>
      intro o h;simp only[List.zipIdx_cons,i6,vf]at h;cases hb:Nat.beq o k with
      | true =>
        rw[hb]at h;have:o=k:=Nat.eq_of_beq_eq_true hb;subst this;simp only[cond_true,Option.some.injEq]at h;simp[h]
      | false =>
        rw[hb]at h;have hne:o≠k:=fun e=>(by rw[e,Nat.beq_refl]at hb; cases hb);simp only[cond_false]at h;obtain⟨h1,h2⟩:=ih _ h;refine⟨by omega,?_⟩;have:k-o=(k-(o+1))+1:=(by omega);rw[this,List.getElem?_cons_succ];exact h2
  have h:=(key args 0 hk).2;simp only[Nat.sub_zero]at h;have hlt:k<args.length:=(List.getElem?_eq_some_iff.1 h).1;rw[Array.getElem?_append_left (by simpa using hlt)];simpa using h
def AllIn(l:List (Nat×Value)):List (Nat×Value)→Prop
  | [] => True
  | p :: t => vf l p.1 = some p.2 ∧ AllIn l t
theorem Sl.keep(h:Sl a n l)(l':List (Nat×Value))(hs:AllIn l l'):Sl a n l':=by
  refine⟨h.size,?_,h.none_⟩
  induction l' with
  | nil => intro k v hk; simp [vf] at hk
  | cons p t ih =>
    intro k v hk;obtain⟨d,u⟩:=p;unfold vf at hk;cases hb:Nat.beq d k with
    | true =>
      rw[hb]at hk;have:d=k:=Nat.eq_of_beq_eq_true hb;subst this;simp only[cond_true,Option.some.injEq]at hk;subst hk;exact h.holds _ _ hs.1
    | false =>
      rw[hb]at hk;exact ih hs.2 k v hk
theorem Sl.cut(h:Sl a n l)(l':List (Nat×Value))(hl:∀k v,vf l' k=some v→vf l k=some v):Sl a n l':=⟨h.size,fun k v hk=>h.holds k v (hl k v hk),h.none_⟩
end

def Does(P:Program)(l:List (Nat×Value))(o:Oper)(w:World)(v:Value)(w':World):Prop:=
  ∀ρ:Operand→Value,(∀x u,ev l x=some u→ρ x=u)→(execOp ρ o).run P w=.ok (.value v) w'
def Sets(P:Program)(l:List (Nat×Value))(o:Oper)(w:World)(w':World):Prop:=
  ∀ρ:Operand→Value,(∀x u,ev l x=some u→ρ x=u)→(execOp ρ o).run P w=.ok .skip w'
def Enters(P:Program)(l:List (Nat×Value))(o:Oper)(w:World)(f:FuncId)(vs:List Value):Prop:=
  ∀ρ:Operand→Value,(∀x u,ev l x=some u→ρ x=u)→(execOp ρ o).run P w=.ok (.enter f vs.toArray) w
def zf(l:List (Nat×Value))(ops:List Oper)(o:Oper):Bool:=
  match o.guard with
  | none => true
  | some (j, b) => match ops[j]? with
    | some oj => match oj.dst with
      | some d => match vf l d with
        | some (.bool b') => b' == b
        | _ => false
      | none => false
    | none => false
def qoa(l:List (Nat×Value))(ops:List Oper)(o:Oper):Bool:=
  match o.guard with
  | none => false
  | some (j, b) => match ops[j]? with
    | some oj => match oj.dst with
      | some d => match vf l d with
        | some (.bool b') => b' != b
        | _ => false
      | none => false
    | none => false
section
variable {P:Program} {ops:List Oper} {Q:Exit→Act→World→Prop} {a:Act} {w w':World} {n:Nat} {l:List (Nat×Value)} {o:Oper} {v:Value} {rest:List Oper}
theorem Sl.wanted(h:Sl a n l)(hp:zf l ops o=true):Region.wanted o (yielded ops.toArray a.tmps)=true:=by
  unfold Region.wanted;unfold zf at hp
  split at hp
  · rename_i hg; rw[hg]
  · rename_i j b hg;rw[hg]
    split at hp
    · rename_i oj hj
      split at hp
      · rename_i d hd
        split at hp
        · rename_i b' hb;have:=h.holds d _ hb;simp only[beq_iff_eq]at hp;simp[yielded,hj,hd,this,hp]
        · cases hp
      · cases hp
    · cases hp
theorem Sl.unwanted(h:Sl a n l)(hp:qoa l ops o=true):Region.wanted o (yielded ops.toArray a.tmps)=false:=by
  unfold Region.wanted;unfold qoa at hp
  split at hp
  · cases hp
  · rename_i j b hg;rw[hg]
    split at hp
    · rename_i oj hj
      split at hp
      · rename_i d hd
        split at hp
        · rename_i b' hb;have:=h.holds d _ hb;simp only[iy,ne_eq]at hp;simp[yielded,hj,hd,this,hp]
        · cases hp
      · cases hp
    · cases hp
theorem kh(hA:Sl a n l)(hg:zf l ops o=true){d:Nat}(hdst:o.dst=some d)(hd:Nat.blt d n=true)(he:Does P l o w v w')
    (hk:∀a',Sl a' n ((d,v)::l)→wpList P ops.toArray Q rest a' w'):wpList P ops.toArray Q (o::rest) a w:=by
  unfold wpList;rw[gj (hA.wanted hg)];refine .inl ?_;unfold Oper.wp;rw[he a.eval (fun x u hx=>hA.ev hx),Oper.upon_value,hdst];exact hk _ (hA.put hd v)
theorem qob(hA:Sl a n l)(hg:zf l ops o=true)(hdst:o.dst=none)(he:Sets P l o w w')
    (hk:wpList P ops.toArray Q rest a w'):wpList P ops.toArray Q (o::rest) a w:=by
  unfold wpList;rw[gj (hA.wanted hg)];refine .inl ?_;unfold Oper.wp;rw[he a.eval (fun x u hx=>hA.ev hx),Oper.upon_skip,hdst];exact hk
theorem qwb(hA:Sl a n l)(hg:qoa l ops o=true){d:Nat}(hdst:o.dst=some d)(hd:Nat.blt d n=true)
    (hk:∀a',Sl a' n ((d,undef)::l)→wpList P ops.toArray Q rest a' w):wpList P ops.toArray Q (o::rest) a w:=by
  unfold wpList;rw[hA.unwanted hg,f7 (by simp),hdst];exact hk _ (hA.put hd undef)
theorem yp(hA:Sl a n l)(hg:zf l ops o=true){d:Nat}(hdst:o.dst=some d)(hd:Nat.blt d n=true){f:FuncId}{vs:List Value}(he:Enters P l o w f vs)
    {R:Ending→World→Prop} (hc:Calls P f vs.toArray w R)
    (hk:∀e w',R e w'→∃v,e=.returned v∧∀a',Sl a' n ((d,v)::l)→wpList P ops.toArray Q rest a' w'):wpList P ops.toArray Q (o::rest) a w:=by
  unfold wpList;rw[gj (hA.wanted hg)];refine .inl ?_;unfold Oper.wp;rw[he a.eval (fun x u hx=>hA.ev hx),Oper.upon_enter];refine hc.mono ?_;intro e w' hR;obtain⟨v,rfl,h⟩:=hk e w' hR;simp only[hdst];exact h _ (hA.put hd v)
theorem qa(hk:Q .normal a w):wpList P ops.toArray Q [] a w:=hk
variable {S:World→Prop} {md:Region.Mode} {fuel:Nat} {listed:Array Bool}
theorem qwc(hA:Sl a n l)(i:Nat)(hi:ops[i]?=some o)(hg:zf l ops o=true){d:Nat}(hdst:o.dst=some d)(hd:Nat.blt d n=true)(hs:Region.noSelect ops.toArray=true)(hf:Region.free md ops.toArray listed i=true)
    (hr:(Region.ready md ops.toArray listed).contains i=true) (hQ:∀c a w,Q (.panic c) (a.put o.dst v) w→Q (.panic c) a w) (hS:S w) (he:∀w,S w→Does P l o w v w)
    (hk:∀a',Sl a' n ((d,v)::l)→wpAnyH P md ops.toArray Q S fuel (listed.setIfInBounds i true) a' w):wpAnyH P md ops.toArray Q S (fuel+1) listed a w:=by
  refine wpAnyH_take (i:=i) (oi:=o) (v:=v) (by simpa using hi) hs hf hr hQ (Or.inl ⟨hA.wanted hg,fun w hw=>he w hw a.eval (fun x u hx=>hA.ev hx)⟩) hS ?_;rw[hdst];exact hk _ (hA.put hd v)
theorem qwd(hA:Sl a n l)(i:Nat)(hi:ops[i]?=some o)(hg:zf l ops o=true){d:Nat}(hdst:o.dst=some d)(hd:Nat.blt d n=true)(hP:∀c a d v w,Q (.panic c) (Act.put a d v) w→Q (.panic c) a w)(hS:S w)(he:∀w,S w→Does P l o w v w)
    (hk:∀a',Sl a' n ((d,v)::l)→wpAnyH P md ops.toArray Q S fuel (listed.setIfInBounds i true) a' w) (hs:Region.noSelect ops.toArray=true:=by kernel_rfl) (hf:Region.free md ops.toArray listed i=true:=by kernel_rfl) (hr:(Region.ready md ops.toArray listed).contains i=true:=by kernel_rfl):wpAnyH P md ops.toArray Q S (fuel+1) listed a w:=
  qwc hA i hi hg hdst hd hs hf hr (fun c a w h=>hP c a _ _ w h) hS he hk
theorem zea(hA:Sl a n l)(i:Nat)(hi:ops[i]?=some o)(hg:zf l ops o=true){d:Nat}(hdst:o.dst=some d)(hd:Nat.blt d n=true)(he:Does P l o w v w')(hS:S w')
    (hk:∀a',Sl a' n ((d,v)::l)→wpAnyH P md ops.toArray Q S fuel (listed.setIfInBounds i true) a' w'):wpOp P ops.toArray Q i (fun a' w'=>S w'∧wpAnyH P md ops.toArray Q S fuel (listed.setIfInBounds i true) a' w') a w:=by
  unfold wpOp;simp only[List.getElem?_toArray,hi];rw[gj (hA.wanted hg)];refine .inl ?_;unfold Oper.wp;rw[he a.eval (fun x u hx=>hA.ev hx),Oper.upon_value,hdst];exact⟨hS,hk _ (hA.put hd v)⟩
theorem zui(hA:Sl a n l)(i:Nat)(hi:ops[i]?=some o)(hg:zf l ops o=true)(hdst:o.dst=none)(he:Sets P l o w w')(hS:S w')
    (hk:wpAnyH P md ops.toArray Q S fuel (listed.setIfInBounds i true) a w'):wpOp P ops.toArray Q i (fun a' w'=>S w'∧wpAnyH P md ops.toArray Q S fuel (listed.setIfInBounds i true) a' w') a w:=by
  unfold wpOp;simp only[List.getElem?_toArray,hi];rw[gj (hA.wanted hg)];refine .inl ?_;unfold Oper.wp;rw[he a.eval (fun x u hx=>hA.ev hx),Oper.upon_skip,hdst];exact⟨hS,hk⟩
theorem jc(hA:Sl a n l)(i:Nat)(hi:ops[i]?=some o)(hg:zf l ops o=true){d:Nat}(hdst:o.dst=some d)(hd:Nat.blt d n=true)
    {f:FuncId} {vs:List Value} (he:Enters P l o w f vs) {R:Ending→World→Prop} (hc:Calls P f vs.toArray w R)
    (hk:∀e w',R e w'→∃v,e=.returned v∧S w'∧∀a',Sl a' n ((d,v)::l)→wpAnyH P md ops.toArray Q S fuel (listed.setIfInBounds i true) a' w'):wpOp P ops.toArray Q i (fun a' w'=>S w'∧wpAnyH P md ops.toArray Q S fuel (listed.setIfInBounds i true) a' w') a w:=by
  unfold wpOp;simp only[List.getElem?_toArray,hi];rw[gj (hA.wanted hg)];refine .inl ?_;unfold Oper.wp;rw[he a.eval (fun x u hx=>hA.ev hx),Oper.upon_enter];refine hc.mono ?_;intro e w' hR;obtain⟨v,rfl,h1,h2⟩:=hk e w' hR;simp only[hdst];exact⟨h1,h2 _ (hA.put hd v)⟩
theorem zn{i:Nat}(hr:Region.ready md ops.toArray listed=[i])(h:wpOp P ops.toArray Q i (fun a' w'=>S w'∧wpAnyH P md ops.toArray Q S fuel (listed.setIfInBounds i true) a' w') a w):wpAnyH P md ops.toArray Q S (fuel+1) listed a w:=
  wpAnyH_all hr (by simp) (fun j hj=>by rw[iq]at hj; subst hj; exact h)
def AllOps(W:Nat→Prop):List Nat→Prop
  | [] => True
  | i :: t => W i ∧ AllOps W t
theorem AllOps.get{W:Nat→Prop}:∀{rs:List Nat},AllOps W rs→∀i∈rs,W i
  | _ :: _, h, i, hi => by
    rcases ik.1 hi with rfl|hi
    · exact h.1
    · exact AllOps.get h.2 i hi
theorem znf{rs:List Nat}(hr:Region.ready md ops.toArray listed=rs)(hne:rs≠[])(h:AllOps (fun i=>wpOp P ops.toArray Q i (fun a' w'=>S w'∧wpAnyH P md ops.toArray Q S fuel (listed.setIfInBounds i true) a' w') a w) rs):wpAnyH P md ops.toArray Q S (fuel+1) listed a w:=
  wpAnyH_all hr hne (fun i hi=>h.get i hi)
theorem jl(hr:Region.ready md ops.toArray listed=[])(hk:Q .normal a w):wpAnyH P md ops.toArray Q S fuel listed a w:=wpAnyH_done hr hk fuel
end
def qqc: Value→Bool
  | .int .u32 _ => false
  | _ => true
theorem zeb{v:Value}(h:qqc v=true):∀n,v≠.int .u32 n:=by
  intro n e;subst e;cases h
def Apart(x y:Option Addr):Prop:=∀a b,x=some a→y=some b→a.block≠b.block
def Off(x:Option Addr)(g:Nat):Prop:=∀a,x=some a→a.block≠g
structure St(w0 w:World)(L:List (Nat×List Value))(R:List (Option Addr×List Nat))(O:List (Option Addr×Nat×List Nat)):Prop where
  bel:Below w0.heap.size w0 w
  own:∀p∈L,w0.heap.size≤p.1∧Blk w p.1 p.2
  dis:L.Pairwise (fun p q=>p.1≠q.1)
  rds:∀r∈R,Rd w r.1 r.2
  rows:∀o∈O,Own w0.heap.size w o.1 o.2.1 o.2.2
  sepO:O.Pairwise (fun p q=>Apart p.1 q.1)
  sepL:∀o∈O,∀p∈L,Off o.1 p.1
  sepR:∀o∈O,∀r∈R,r.2≠[]→Apart o.1 r.1
section
variable {w0 w w':World} {L:List (Nat×List Value)} {R:List (Option Addr×List Nat)} {O:List (Option Addr×Nat×List Nat)}
theorem St.start(w:World):St w w [] [] []:=⟨Below.refl _ _,by simp,.nil,by simp,by simp,.nil,by simp,by simp⟩
theorem St.addR(h:St w0 w L R []){so:Option Addr}{l:List Nat}(hr:Rd w so l):St w0 w L ((so,l)::R) []:=
  ⟨h.bel,h.own,h.dis,fun r hm=>by rcases ik.1 hm with rfl|hm; exact hr; exact h.rds r hm,by simp,.nil,by simp,by simp⟩
theorem St.addRO(h:St w0 w L R O){so:Option Addr}{l:List Nat}(hr:Rd w so l)(hs:∀o∈O,Apart o.1 so):St w0 w L ((so,l)::R) O:=
  ⟨h.bel,h.own,h.dis,fun r hm=>by rcases ik.1 hm with rfl|hm; exact hr; exact h.rds r hm,h.rows,h.sepO,h.sepL,fun o ho r hm hne=>by rcases ik.1 hm with rfl|hm; exact hs o ho; exact h.sepR o ho r hm hne⟩
theorem St.rd(h:St w0 w L R O)(k:Nat){so:Option Addr}{l:List Nat}(hk:R[k]?=some (so,l)):Rd w so l:=h.rds _ (List.mem_of_getElem? hk)
theorem St.row(h:St w0 w L R O)(k:Nat){so:Option Addr}{c:Nat}{l:List Nat}(hk:O[k]?=some (so,c,l)):Own w0.heap.size w so c l:=h.rows _ (List.mem_of_getElem? hk)
theorem St.call(h:St w0 w L R O)(hb:Below w.heap.size w w'):St w0 w' L R O:=
  ⟨chain2 h.bel hb,fun p hp=>⟨(h.own p hp).1,(h.own p hp).2.below hb⟩,h.dis,fun r hr=>(h.rds r hr).below hb,fun o ho=>(h.rows o ho).below hb,h.sepO,h.sepL,h.sepR⟩
theorem St.drew(h:St w0 w L R O):St w0 w.drew L R O:=⟨h.bel.drew,fun p hp=>⟨(h.own p hp).1,(h.own p hp).2.drew⟩,h.dis,fun r hr=>(h.rds r hr).drew,fun o ho=>(h.rows o ho).drew,h.sepO,h.sepL,h.sepR⟩
theorem St.lt(h:St w0 w L R O):∀p∈L,p.1<w.heap.size:=fun p hp=>(h.own p hp).2.lt
theorem St.new(h:St w0 w L R O)(vs:List Value)(t:TypeId)(hno:vs.all qqc=true):St w0 (w.alloc (.cells vs.toArray t)) ((w.heap.size,vs)::L) R O:=by
  have hb:Below w.heap.size w (w.alloc (.cells vs.toArray t)):=(Below.refl _ _).alloc (gm _) _;have h':=h.call hb;refine⟨h'.bel,fun p hp=>?_,List.pairwise_cons.2 ⟨fun q hq=>Nat.ne_of_gt (h.lt q hq),h.dis⟩,h'.rds,h'.rows,h.sepO,fun o ho p hp=>?_,h.sepR⟩
  · rcases ik.1 hp with rfl|hp
    · exact⟨h.bel.size,Blk.new w vs t (fun v hv=>zeb (j3.1 hno v hv))⟩
    · exact h'.own p hp
  · rcases ik.1 hp with rfl|hp
    · exact fun a ha=>Nat.ne_of_lt ((h.rows o ho).lt a ha).2
    · exact h.sepL o ho p hp
theorem St.newU(h:St w0 w L R O)(l:List Nat)(t:TypeId)(hd:Dig l):St w0 (w.alloc (.cells (U l).toArray t)) L ((some ⟨w.heap.size,0,none⟩,l)::R) O:=by
  have hb:Below w.heap.size w (w.alloc (.cells (U l).toArray t)):=(Below.refl _ _).alloc (gm _) _;refine(h.call hb).addRO ⟨hd,fun _=>⟨w.heap.size,0,rfl,by simp,fun j hj=>?_⟩⟩ (fun o ho a b ha hb=>?_)
  · rw[World.cell?_alloc_at _ _ _ _ rfl];have:=U_get l j hj;simpa using this
  · cases hb
    exact Nat.ne_of_lt ((h.rows o ho).lt a ha).2
theorem St.blk(h:St w0 w L R O)(k:Nat){g:Nat}{vs:List Value}(hk:L[k]?=some (g,vs)):Blk w g vs:=(h.own _ (List.mem_of_getElem? hk)).2
theorem St.subL(h:St w0 w L R O)(L':List (Nat×List Value))(hs:L'.Sublist L):St w0 w L' R O:=⟨h.bel,fun p hp=>h.own p (hs.subset hp),h.dis.sublist hs,h.rds,h.rows,h.sepO,fun o ho p hp=>h.sepL o ho p (hs.subset hp),h.sepR⟩
theorem St.subO(h:St w0 w L R O)(O':List (Option Addr×Nat×List Nat))(hs:O'.Sublist O):St w0 w L R O':=⟨h.bel,h.own,h.dis,h.rds,fun o ho=>h.rows o (hs.subset ho),h.sepO.sublist hs,fun o ho=>h.sepL o (hs.subset ho),fun o ho=>h.sepR o (hs.subset ho)⟩
def AllR(R:List (Option Addr×List Nat)):List (Option Addr×List Nat)→Prop
  | [] => True
  | r :: t => (∃ k : Nat, R[k]? = some r) ∧ AllR R t
theorem AllR.mem: ∀{R':List (Option Addr×List Nat)},AllR R R'→∀r∈R',r∈R
  | r :: t, hs, x, hx => by
    rcases ik.1 hx with rfl|hx
    · obtain⟨⟨k,hk⟩,_⟩:=hs;exact List.mem_of_getElem? hk
    · exact AllR.mem hs.2 x hx
theorem St.pickR(h:St w0 w L R O)(R':List (Option Addr×List Nat))(hs:AllR R R'):St w0 w L R' O:=
  ⟨h.bel,h.own,h.dis,fun r hr=>h.rds r (hs.mem r hr),h.rows,h.sepO,h.sepL,fun o ho r hr=>h.sepR o ho r (hs.mem r hr)⟩
theorem St.part{L':List (Nat×List Value)}{R':List (Option Addr×List Nat)}{O':List (Option Addr×Nat×List Nat)}(h:St w0 w L R O)(hL:L'.Sublist L)(hR:AllR R R')(hO:O'.Sublist O):St w0 w L' R' O':=((h.pickR R' hR).subL L' hL).subO O' hO
theorem St.cell(h:St w0 w L R O)(k:Nat){g:Nat}{vs:List Value}(hk:L[k]?=some (g,vs))(i:Nat){v:Value}(hi:vs[i]?=some v):w.cell? ⟨g,i,none⟩=some v:=
  (h.own _ (List.mem_of_getElem? hk)).2.cell i v hi
theorem zhj{L:List (Nat×List Value)}(h:L.Pairwise (fun p q=>p.1≠q.1)){k g:Nat}{vs us:List Value}(hk:L[k]?=some (g,vs)):(L.set k (g,us)).Pairwise (fun p q=>p.1≠q.1):=by
  have e:(L.set k (g,us)).map Prod.fst=L.map Prod.fst:=by
    rw[List.map_set];apply List.ext_getElem?;intro i;by_cases hi:k=i
    · subst hi;have hlt:k<(L.map Prod.fst).length:=(by simpa using(List.getElem?_eq_some_iff.1 hk).1);rw[List.getElem?_set_self hlt];simp[hk]
    · rw[List.getElem?_set_ne hi]
  have h1:(L.map Prod.fst).Pairwise (· ≠ ·):=List.pairwise_map.2 h;rw[←e]at h1;exact List.pairwise_map.1 h1
theorem zng{L:List (Nat×List Value)}(h:L.Pairwise (fun p q=>p.1≠q.1)){k g:Nat}{vs us:List Value}(hk:L[k]?=some (g,vs)){p:Nat×List Value}(hp:p∈L.set k (g,us)):p=(g,us)∨(p∈L∧g≠p.1):=by
  obtain⟨i,hi⟩:=List.mem_iff_getElem?.1 hp;by_cases e:k=i
  · subst e;have hlt:k<L.length:=(List.getElem?_eq_some_iff.1 hk).1;rw[List.getElem?_set_self hlt]at hi;exact .inl (io hi).symm
  · rw[List.getElem?_set_ne e]at hi;refine .inr ⟨List.mem_of_getElem? hi,?_⟩;have h1:=List.pairwise_iff_getElem.1 h;obtain⟨aa,ab⟩:=List.getElem?_eq_some_iff.1 hk;obtain⟨ac,hi2⟩:=List.getElem?_eq_some_iff.1 hi;rcases Nat.lt_or_gt_of_ne e with hlt|hlt
    · have:=h1 k i aa ac hlt;rw[ab,hi2]at this;exact this
    · have:=h1 i k ac aa hlt;rw[ab,hi2]at this;exact fun e=>this e.symm
theorem jfe(w:World)(g i:Nat)(v:Value):w.grownBy (w.setCell ⟨g,i,none⟩ v) (some g):=
  ⟨rfl,rfl,rfl,by simp,fun k hk hne=>Below.heap_setCell w ⟨g,i,none⟩ v k (fun e=>hne (by rw[e]))⟩
theorem St.set(h:St w0 w L R O)(k:Nat){g:Nat}{vs:List Value}(hk:L[k]?=some (g,vs))(i:Nat)(hi:i<vs.length)(v:Value)(hv:qqc v=true):St w0 (w.setCell ⟨g,i,none⟩ v) (L.set k (g,vs.set i v)) R O:=by
  have hm:=List.mem_of_getElem? hk;have ho:=h.own _ hm;refine⟨h.bel.setCell (p:=⟨g,i,none⟩) ho.1 v,fun p hp=>?_,zhj h.dis hk,fun r hr=>ho.2.rd (h.rds r hr) i v hi,fun o hO=>(h.rows o hO).kept (jfe w g i v) (fun a ha e=>h.sepL o hO _ hm a ha (by simpa using e)),h.sepO,fun o hO p hp=>?_,h.sepR⟩
  · rcases zng h.dis hk hp with rfl|⟨hp,hne⟩
    · exact⟨ho.1,ho.2.set i v hi (zeb hv)⟩
    · exact⟨(h.own p hp).1,(h.own p hp).2.far hne i v⟩
  · rcases zng h.dis hk hp with rfl|⟨hp,hne⟩
    · exact(show Off o.1 g from h.sepL o hO _ hm)
    · exact h.sepL o hO p hp
def over: List Value→Nat→List Value→List Value
  | vs, _, [] => vs
  | vs, o, c :: cs => over (vs.set o c) (o + 1) cs
theorem St.sets{g:Nat}:∀(cs:List Value) (w:World) (L:List (Nat×List Value)) (vs:List Value) (o:Nat),St w0 w L R O→∀k,L[k]?=some (g,vs)→o+cs.length≤vs.length→cs.all qqc=true→St w0 (w.setCells g o cs) (L.set k (g,over vs o cs)) R O
  | [], w, L, vs, o, h, k, hk, _, _ => by
    have:L.set k (g,over vs o [])=L:=by
      apply List.ext_getElem?;intro i;by_cases hi:k=i
      · subst hi;rw[List.getElem?_set_self (List.getElem?_eq_some_iff.1 hk).1,hk];rfl
      · rw[List.getElem?_set_ne hi]
    rw[this];exact h
  | c :: cs, w, L, vs, o, h, k, hk, hl, hc => by
    simp only[List.all_cons,ig]at hc;simp only[fw]at hl;have h1:=h.set k hk o (by omega) c hc.1;have aa:(L.set k (g,vs.set o c))[k]?=some (g,vs.set o c):=List.getElem?_set_self (List.getElem?_eq_some_iff.1 hk).1;have h2:=St.sets cs _ _ (vs.set o c) (o+1) h1 k aa (by rw[List.length_set]; omega) hc.2;rw[List.set_set]at h2;exact h2
theorem Blk.grown{g:Nat}{vs:List Value}(h:Blk w g vs){row:Option Nat}(hg:w.grownBy w' row)(hne:some g≠row):Blk w' g vs:=by
  have e:=hg.block g h.lt hne;exact⟨j8 h.lt hg.size,fun i v hv=>(World.cell?_of_block (w:=w) (a:=⟨g,i,none⟩) e).trans (h.cell i v hv),fun i=>(World.frozen?_of_block (w:=w) (a:=⟨g,i,none⟩) e).trans (h.froz i),h.no⟩
theorem zia{k:Nat}{o u p:Option Addr×Nat×List Nat}(h:O.Pairwise (fun p q=>Apart p.1 q.1))(hk:O[k]?=some o)(hp:p∈O.set k u):p=u∨(p∈O∧Apart o.1 p.1):=by
  obtain⟨i,hi⟩:=List.mem_iff_getElem?.1 hp;by_cases e:k=i
  · subst e;rw[List.getElem?_set_self (List.getElem?_eq_some_iff.1 hk).1]at hi;exact .inl (io hi).symm
  · rw[List.getElem?_set_ne e]at hi;refine .inr ⟨List.mem_of_getElem? hi,?_⟩;have h1:=List.pairwise_iff_getElem.1 h;obtain⟨aa,ab⟩:=List.getElem?_eq_some_iff.1 hk;obtain⟨ac,hi2⟩:=List.getElem?_eq_some_iff.1 hi;rcases Nat.lt_or_gt_of_ne e with hlt|hlt
    · have:=h1 k i aa ac hlt;rw[ab,hi2]at this;exact this
    · have:=h1 i k ac aa hlt;rw[ab,hi2]at this;exact fun a b ha hb e=>this b a hb ha e.symm
theorem St.turn(h:St w0 w L R O)(k:Nat){ao:Option Addr}{c:Nat}{l:List Nat}(hk:O[k]?=some (ao,c,l)){bo:Option Addr}{c':Nat}{l':List Nat}(hg:w.grownBy w' (Value.slice ao l.length c).ownBlock)(ho:Own w0.heap.size w' bo c' l')(hat:∀b,bo=some b→(∃a,ao=some a∧a.block=b.block)∨b.block=w.heap.size):
    St w0 w' L R (O.set k (bo,c',l')):=by
  have hm:=List.mem_of_getElem? hk;have hrow:=h.rows _ hm;have blk:∀a,ao=some a→(Value.slice ao l.length c).ownBlock=some a.block:=fun a ha=>by rw[ha]; rfl
  have far:∀g,Off ao g→some g≠(Value.slice ao l.length c).ownBlock:=fun g hg e=>by
    cases hao:ao with
    | none => rw [hao] at e; simp [Value.ownBlock] at e
    | some a => rw [blk a hao] at e; exact hg a hao (by simpa using e.symm)
  -- what lies off the old row and is there lies off the new one
  have off:∀g,Off ao g→g<w.heap.size→Off bo g:=fun g hg hlt b hb e=>by
    rcases hat b hb with⟨a,ha,e1⟩|e1
    · exact hg a ha (e1.trans e)
    · omega
  refine⟨h.bel.grown hg h.bel.size (fun j hj=>?_),fun p hp=>⟨(h.own p hp).1,(h.own p hp).2.grown hg (far _ (h.sepL _ hm p hp))⟩,h.dis,fun r hr=>?_,fun o hO=>?_,?_,fun o hO p hp=>?_,fun o hO r hr hne=>?_⟩
  · cases hao:ao with
    | none => rw [hao] at hj; simp [Value.ownBlock] at hj
    | some a => rw [blk a hao] at hj; cases hj; exact (hrow.lt a hao).1
  · by_cases hne:r.2=[]
    · rw[hne]; exact Rd.nil _ _
    · exact(h.rds r hr).grown hg (fun a ha=>far _ (fun x hx e=>h.sepR _ hm r hr hne x a hx ha e))
  · rcases zia h.sepO hk hO with rfl|⟨hO,hap⟩
    · exact ho
    · exact(h.rows o hO).kept hg (fun a ha=>far _ (fun x hx e=>hap x a hx ha e))
  · have key:∀o∈O,Apart ao o.1→Apart bo o.1:=fun o hO hap b x hb hx e=>off x.block (fun y hy ey=>hap y x hy hx ey) ((h.rows o hO).lt x hx).2 b hb e;rw[List.pairwise_iff_getElem];intro i j hi hj hij;have hi':i<O.length:=(by simpa using hi);have hj':j<O.length:=(by simpa using hj);have h1:=List.pairwise_iff_getElem.1 h.sepO;obtain⟨_,aa⟩:=List.getElem?_eq_some_iff.1 hk;rw[List.getElem_set,List.getElem_set];by_cases e1:k=i
    · subst e1;rw[gj rfl,f7 (by omega)];have:=h1 k j hi' hj' hij;rw[aa]at this;exact key _ (ip hj') this
    · rw[f7 e1];by_cases e2:k=j
      · subst e2;rw[gj rfl];have:=h1 i k hi' hj' hij;rw[aa]at this;exact fun x b hx hb e=>key _ (ip hi') (fun p q hp hq e=>this q p hq hp e.symm) b x hb hx e.symm
      · rw[f7 e2];exact h1 i j hi' hj' hij
  · rcases zia h.sepO hk hO with rfl|⟨hO,_⟩
    · exact off _ (h.sepL _ hm p hp) (h.lt p hp)
    · exact h.sepL o hO p hp
  · rcases zia h.sepO hk hO with rfl|⟨hO,_⟩
    · intro b x hb hx e;obtain⟨bb,of_,e1,hlt,_⟩:=(h.rds r hr).pos hne;rw[e1]at hx;cases hx
      exact off bb (fun y hy ey=>h.sepR _ hm r hr hne y ⟨bb,of_,none⟩ hy e1 ey) hlt b hb e
    · exact h.sepR o hO r hr hne
structure IsS(P:Program)(t:TypeId)(n:Nat):Prop where
  und:∃fs,P.underlying t=some (.struct fs)
  size:(P.info? t).map (·.size)=some n
theorem vx{P:Program}{t:TypeId}{n:Nat}(h:(P.info? t).map (·.size)=some n):∃i,P.info? t=some i∧i.size=n:=by
  cases hi:P.info? t with
  | none => rw [hi] at h; cases h
  | some i => rw [hi] at h; exact ⟨i, rfl, by simpa using h⟩
structure Is1(P:Program)(t:TypeId):Prop where
  und:∃d,P.underlying t=some d∧(match d with | .struct _ | .array _ _=>false|_=>true)=true
  size:(P.info? t).map (·.size)=some 1
def FieldAt(P:Program)(s:TypeId)(f off:Nat):Prop:=∃fs fld,P.underlying s=some (.struct fs)∧fs[f]?=some fld∧fld.offset=off∧(P.info? fld.type).map (fun i=>Nat.beq i.size 0)=some false

variable {P:Program}
theorem jt(g o j:Nat):(⟨g,o,none⟩:Addr).add j=⟨g,o+j,none⟩:=by unfold Addr.add; split<;>simp_all
theorem vy{t:TypeId}{n:Nat}(ht:IsS P t n){g o:Nat}(cs:List Value)(hl:cs.length=n)(hc:∀j v,cs[j]?=some v→w.cell? ⟨g,o+j,none⟩=some v):(loadVar t ⟨g,o,none⟩).run P w=.ok (.agg cs.toArray) w:=by
  obtain⟨fs,hu⟩:=ht.und;obtain⟨i,hi,hn⟩:=vx ht.size;have h1:(isAgg t).run P w=.ok true w:=by simp[isAgg,run_underlying hu]
  have h2:(sizeOf t).run P w=.ok cs.length w:=by simp[sizeOf,typeInfo,hi,hn,hl]
  have h3:=run_loadCells_list (P:=P) w ⟨g,o,none⟩ cs (fun j v hj=>by rw[jt]; exact hc j v hj);simp only[loadVar,Sem.run_bind,h1,Result.andThen_ok,if_true,h2,h3,Sem.run_pure]
theorem vz{t:TypeId}(ht:Is1 P t){a:Addr}{v:Value}(hc:w.cell? a=some v):(loadVar t a).run P w=.ok v w:=by
  obtain⟨d,hu,hd⟩:=ht.und;have h1:(isAgg t).run P w=.ok false w:=by
    cases d<;>first|(simp at hd; done)|simp[isAgg,run_underlying hu]
  simp only[loadVar,Sem.run_bind,h1,Result.andThen_ok,if_false,Bool.false_eq_true];simp[hc]

variable {l:List (Nat×Value)} {dst:Option Tmp} {ty:TypeId} {pos:String} {after:Array Edge} {guard:Option (Nat×Bool)} {v:Value}
theorem zr{x:Operand}(hx:ev l x=some v):Does P l ⟨dst,.move x,ty,pos,after,guard⟩ w v w:=fun ρ h=>by
  simp only[execOp,h x v hx]; rfl
theorem ji{x:Operand}(hx:ev l x=some v):Does P l ⟨dst,.assign x,ty,pos,after,guard⟩ w v w:=fun ρ h=>by
  simp only[execOp,h x v hx]; rfl
theorem qbg{c x y:Operand}{b:Bool}{u u':Value}(hc:ev l c=some (.bool b))(hx:ev l x=some u)(hy:ev l y=some u')(hv:v=cond b u u'):Does P l ⟨dst,.pick c x y,ty,pos,after,guard⟩ w v w:=fun ρ h=>by
  subst hv;simp only[execOp,h c _ hc,h x _ hx,h y _ hy];cases b<;>rfl
theorem qgb{x:Operand}{vs:List Value}{i:Nat}(hx:ev l x=some (.tuple vs.toArray))(hi:vs[i]?=some v):Does P l ⟨dst,.extract x i,ty,pos,after,guard⟩ w v w:=fun ρ h=>by
  simp only[execOp,h x _ hx,Instr.extract,List.getElem?_toArray,hi]; rfl
theorem ju{t:TypeId}{x:Operand}{a:Addr}(hx:ev l x=some (.pointer (some a)))(hr:(loadVar t a).run P w=.ok v w):Does P l ⟨dst,.load t x,ty,pos,after,guard⟩ w v w:=fun ρ h=>by
  simp only[execOp,h x _ hx,Instr.loadAt,Instr.sureAddr,Sem.run_bind,Sem.run_pure,Result.andThen_ok,hr]
theorem zl(hS:St w0 w L R O){t:TypeId}{n:Nat}(ht:IsS P t n){x:Operand}{g o:Nat}(hx:ev l x=some (.pointer (some ⟨g,o,none⟩)))(k:Nat){vs cs:List Value}(hk:L[k]?=some (g,vs))(hcs:(vs.drop o).take n=cs)(hl:cs.length=n):
    Does P l ⟨dst,.load t x,ty,pos,after,guard⟩ w (.agg cs.toArray) w:=
  ju hx (vy ht cs hl (fun j v hj=>hS.cell k hk (o+j) (by
    have hjn:j<n:=(by rw[←hl]; exact(List.getElem?_eq_some_iff.1 hj).1);rw[←hcs,List.getElem?_take,gj hjn,List.getElem?_drop]at hj;exact hj)))
theorem qw(hS:St w0 w L R O){t:TypeId}(ht:Is1 P t){x:Operand}{g o:Nat}(hx:ev l x=some (.pointer (some ⟨g,o,none⟩)))(k:Nat){vs:List Value}(hk:L[k]?=some (g,vs))(hv:vs[o]?=some v):
    Does P l ⟨dst,.load t x,ty,pos,after,guard⟩ w v w:=ju hx (vz ht (hS.cell k hk o hv))
theorem Rd.addr{so:Option Addr}{l:List Nat}{i:Nat}(h:Rd w so l)(hi:i<l.length):∃b off,so=some ⟨b,off,none⟩:=by
  obtain⟨b,off,h1,_⟩:=h.pos (fun e=>by rw[e]at hi; simp at hi);exact⟨b,off,h1⟩
theorem Rd.at_{so:Option Addr}{l:List Nat}{i b off:Nat}(h:Rd w so l)(hso:so=some ⟨b,off,none⟩)(hi:i<l.length):w.cell? ⟨b,off+i,none⟩=some (.int .u32 ((l.getD i 0:Nat):Int)):=by
  obtain⟨b',off',h1,_,h3⟩:=h.pos (fun e=>by rw[e]at hi; simp at hi);rw[hso]at h1;cases h1
  exact h3 i hi
theorem qoc{so:Option Addr}{us:List Nat}{i b off:Nat}(h:Rd w so us)(hso:so=some ⟨b,off,none⟩)(hi:i<us.length){t:TypeId}(ht:Is1 P t){x:Operand}(hx:ev l x=some (.pointer (some ⟨b,off+i,none⟩))):
    Does P l ⟨dst,.load t x,ty,pos,after,guard⟩ w (.int .u32 ((us.getD i 0:Nat):Int)) w:=ju hx (vz ht (h.at_ hso hi))
theorem qp{s:TypeId}{x:Operand}{f g o off o':Nat}(hf:FieldAt P s f off)(hx:ev l x=some (.pointer (some ⟨g,o,none⟩)))(ho:o+off=o'):Does P l ⟨dst,.fieldAddr s x f,ty,pos,after,guard⟩ w (.pointer (some ⟨g,o',none⟩)) w:=fun ρ h=>by
  obtain⟨fs,fld,hu,hff,hoff,hm⟩:=hf;obtain⟨i,hi,hz⟩:∃i,P.info? fld.type=some i∧i.size≠0:=by
    cases hi:P.info? fld.type with
    | none => rw [hi] at hm; cases hm
    | some i =>
      rw[hi]at hm;refine⟨i,rfl,fun e=>?_⟩;simp[e]at hm
  subst ho;have h2:(sizeOf fld.type).run P w=.ok i.size w:=by simp[sizeOf,typeInfo,hi]
  simp only[execOp,h x _ hx,Instr.fieldAt,Sem.run_bind,run_underlying hu,Result.andThen_ok,hff,Instr.sureAddr,Sem.run_pure,fieldPlace,h2,f7 hz,jt,hoff]
theorem qx{t:TypeId}{x:Operand}{u:Value}(hx:ev l x=some u){vs:List Value}(hc:u.cells=vs.toArray):Does P l ⟨dst,.box t x,ty,pos,after,guard⟩ w (.pointer (some ⟨w.heap.size,0,none⟩)) (w.alloc (.cells vs.toArray t)):=fun ρ h=>by
  simp only[execOp,h x _ hx,←hc]; rfl
theorem qm{t:TypeId}{z:Value}(hz:(P.info? t).map (·.zero)=some (some z)){vs:List Value}(hc:z.cells=vs.toArray):Does P l ⟨dst,.alloc t,ty,pos,after,guard⟩ w (.pointer (some ⟨w.heap.size,0,none⟩)) (w.alloc (.cells vs.toArray t)):=fun ρ h=>by
  cases hi:P.info? t with
  | none => rw [hi] at hz; cases hz
  | some i =>
    rw[hi]at hz;simp only[Option.map_some,Option.some.injEq]at hz;have h1:(zeroValue t).run P w=.ok z w:=(by simp[zeroValue,typeInfo,hi,hz]);simp only[execOp,Instr.alloc,Sem.run_bind,h1,Result.andThen_ok,←hc];rfl
theorem qn{t:TypeId}{parts:List (Nat×Operand)}{pv:List (Nat×Value)}(hp:evp l parts=some pv)(hb:∀w,(Instr.build t pv.toArray).run P w=.ok v w):Does P l ⟨dst,.build t parts.toArray,ty,pos,after,guard⟩ w v w:=fun ρ h=>by
  have e:parts.toArray.map (fun p=>(p.1,ρ p.2))=pv.toArray:=by
    simp only[List.map_toArray]
    congr 1
    have:∀(xs:List (Nat×Operand)) (vs:List (Nat×Value)),evp l xs=some vs→xs.map (fun p=>(p.1,ρ p.2))=vs:=by
      intro xs
      induction xs with
      | nil => intro vs hx; simp [evp] at hx; simp [hx]
      | cons x xs ih =>
        intro vs hx;obtain⟨i,x⟩:=x;unfold evp at hx
        split at hx
        · rename_i v us h1 h2;cases hx
          simp[h _ _ h1,ih _ h2]
        · cases hx
    exact this parts pv hp
  have e':(parts.toArray.map fun(i,x)=>(i,ρ x))=pv.toArray:=e;simp only[execOp,e',Sem.run_bind,hb w,Result.andThen_ok,Sem.run_pure]
theorem qg{t:TypeId}{n:Nat}{parts:List (Nat×Operand)}{pv:List (Nat×Value)}(hp:evp l parts=some pv){w':World}(hb:(Instr.buildSlice t n pv.toArray).run P w=.ok v w'):Does P l ⟨dst,.buildSlice t n parts.toArray,ty,pos,after,guard⟩ w v w':=fun ρ h=>by
  have e:parts.toArray.map (fun p=>(p.1,ρ p.2))=pv.toArray:=by
    simp only[List.map_toArray]
    congr 1
    have:∀(xs:List (Nat×Operand)) (vs:List (Nat×Value)),evp l xs=some vs→xs.map (fun p=>(p.1,ρ p.2))=vs:=by
      intro xs
      induction xs with
      | nil => intro vs hx; simp [evp] at hx; simp [hx]
      | cons x xs ih =>
        intro vs hx;obtain⟨i,x⟩:=x;unfold evp at hx
        split at hx
        · rename_i v us h1 h2;cases hx
          simp[h _ _ h1,ih _ h2]
        · cases hx
    exact this parts pv hp
  have e':(parts.toArray.map fun(i,x)=>(i,ρ x))=pv.toArray:=e;simp only[execOp,e',Sem.run_bind,hb,Result.andThen_ok,Sem.run_pure]
theorem qr{x:Operand}{t e:TypeId}{so:Option Addr}{n c:Nat}(hu:P.underlying t=some (.slice e))(hx:ev l x=some (.slice so n c)):Does P l ⟨dst,.call ⟨.builtin .len,#[x],#[t]⟩,ty,pos,after,guard⟩ w (.int .i64 n) w:=fun ρ h=>by
  have:=h x _ hx;simp[go_sem,this,Builtin.len_,run_underlying hu,goInt]
theorem qb{b:BinOp}{t t':TypeId}{x y:Operand}{u u':Value}(hx:ev l x=some u)(hy:ev l y=some u')(hr:∀w,(do eqGuard b t x y u u'; binOp b t u u':Sem Value).run P w=.ok v w):Does P l ⟨dst,.binOp b t x y t',ty,pos,after,guard⟩ w v w:=fun ρ h=>by
  simp only[execOp,h x _ hx,h y _ hy];rw[Sem.run_bind,hr w];rfl
theorem ya{b:UnOp}{t:TypeId}{x:Operand}{u:Value}(hx:ev l x=some u)(hr:∀w,(Op.unary b u).run P w=.ok v w):Does P l ⟨dst,.unOp b t x,ty,pos,after,guard⟩ w v w:=fun ρ h=>by
  simp only[execOp,h x _ hx,Sem.run_bind,hr w,Result.andThen_ok,Sem.run_pure]
theorem qce{t:TypeId}{x y:Operand}{g o:Nat}{u:Value}{cs:List Value}(hx:ev l x=some (.pointer (some ⟨g,o,none⟩)))(hy:ev l y=some u)(hc:u.cells=cs.toArray)(hn:(P.info? t).map (·.size)=some cs.length)
    (hS:St w0 w L R O) (k:Nat) {vs:List Value} (hk:L[k]?=some (g,vs)) (hl:Nat.ble (o+cs.length) vs.length=true) (h1:cs.all Value.oneCell'=true):Sets P l ⟨dst,.store t x y,ty,pos,after,guard⟩ w (w.setCells g o cs):=fun ρ h=>by
  obtain⟨i,hi,hsz⟩:=vx hn;have hl':o+cs.length≤vs.length:=Nat.le_of_ble_eq_true hl;have hb:=(hS.own _ (List.mem_of_getElem? hk)).2;have h2:(sizeOf t).run P w=.ok cs.length w:=by simp[sizeOf,typeInfo,hi,hsz]
  have h3:=run_storeCells_cells (P:=P) g o cs 0 w (fun j hj=>by
      have hlt:o+0+j<vs.length:=(by omega);rw[hb.cell (o+0+j) vs[o+0+j] (List.getElem?_eq_getElem hlt)]; rfl) (fun j hj=>hb.froz _) (fun v hv=>j3.1 h1 v hv)
  rw[Nat.add_zero]at h3;have h4:u.cells.toList=cs:=by rw[hc]
  simp only[execOp,h x _ hx,h y _ hy,Instr.storeAt,Instr.sureAddr,Sem.run_bind,Sem.run_pure,Result.andThen_ok,storeVar,h2,hc,gg,ne_eq,not_true_eq_false,if_false,List.toList_toArray,h3]
theorem xj{x:Operand}{f:FuncId}{args:List Operand}{ts:Array TypeId}{vs:List Value}(hx:ev l x=some (.func (.func f) #[] #[]))(ha:evs l args=some vs)(hf:∀w,(invoke (.fn (.func f) #[]) vs.toArray).run P w=.ok (.enter f vs.toArray) w):
    Enters P l ⟨dst,.call ⟨.value x,args.toArray,ts⟩,ty,pos,after,guard⟩ w f vs:=fun ρ h=>by
  have e:args.map ρ=vs:=by
    have:∀(xs:List Operand) (vs:List Value),evs l xs=some vs→xs.map ρ=vs:=by
      intro xs
      induction xs with
      | nil => intro vs hx; simp [evs] at hx; simp [hx]
      | cons x xs ih =>
        intro vs hx;unfold evs at hx
        split at hx
        · rename_i v us h1 h2;cases hx
          simp[h _ _ h1,ih _ h2]
        · cases hx
    exact this args vs ha
  have:=hf w;simp[execOp,resolve,h x _ hx,Deferred.ofValue,e,this]

section
variable {ops:List Oper} {Q:Exit→Act→World→Prop} {a:Act} {n:Nat} {o:Oper} {rest:List Oper} {d:Nat}
theorem jy(hA:Sl a n l)(hS:St w0 w L R O)(hg:zf l ops o=true)(hdst:o.dst=some d)(hd:Nat.blt d n=true){vs:List Value}{t:TypeId}(val:Nat→Value)(he:Does P l o w (val w.heap.size) (w.alloc (.cells vs.toArray t)))(hno:vs.all qqc=true)
    (hk:∀g w',St w0 w' ((g,vs)::L) R O→∀a',Sl a' n ((d,val g)::l)→wpList P ops.toArray Q rest a' w'):wpList P ops.toArray Q (o::rest) a w:=
  kh hA hg hdst hd he (hk _ _ (hS.new vs t hno))
theorem yq(hA:Sl a n l)(hS:St w0 w L R O)(hg:zf l ops o=true)(hdst:o.dst=some d)(hd:Nat.blt d n=true){us:List Nat}{t:TypeId}{m:Nat}(he:Does P l o w (.slice (some ⟨w.heap.size,0,none⟩) m m) (w.alloc (.cells (U us).toArray t)))(hu:Dig us)
    (hk:∀g w',St w0 w' L ((some ⟨g,0,none⟩,us)::R) O→∀a',Sl a' n ((d,.slice (some ⟨g,0,none⟩) m m)::l)→wpList P ops.toArray Q rest a' w'):wpList P ops.toArray Q (o::rest) a w:=
  kh hA hg hdst hd he (hk _ _ (hS.newU us t hu))
theorem qee(hA:Sl a n l)(hS:St w0 w L R O)(hg:zf l ops o=true)(hdst:o.dst=none){g q:Nat}{cs vs us:List Value}(he:Sets P l o w (w.setCells g q cs))(k:Nat)(hk0:L[k]?=some (g,vs))(hl:Nat.ble (q+cs.length) vs.length=true)(hno:cs.all qqc=true)(hus:over vs q cs=us)
    (hk:∀w',St w0 w' (L.set k (g,us)) R O→wpList P ops.toArray Q rest a w'):wpList P ops.toArray Q (o::rest) a w:=
  qob hA hg hdst he (hk _ (by subst hus; exact St.sets cs w L vs q hS k hk0 (Nat.le_of_ble_eq_true hl) hno))
variable {S:World→Prop} {md:Region.Mode} {fuel:Nat} {listed:Array Bool}
theorem xg{id:Nat}(hm:P.follows .mixedOrders=true)(h:wpAnyH P .any ops.toArray Q S ops.length (Array.replicate ops.length false) a w.drew):(Code.region id ops.toArray true).wp P Q a w:=
  wp_region_held (S:=S) hm (by simpa using h)
end
def ki(P:Program)(l:List (Nat×Value))(w:World):ResultVar→Value→Prop
  | .tmp t, v => vf l t = some v
  | .cell c t, v => ∃ p, vf l c = some (.pointer (some p)) ∧ (loadVar t p).run P w = .ok v w
def AllRes(P:Program)(l:List (Nat×Value))(w:World):List ResultVar→List Value→Prop
  | [], [] => True
  | r :: rs, v :: vs => ki P l w r v ∧ AllRes P l w rs vs
  | _, _ => False
theorem AllRes.nil: AllRes P l w [] []:=trivial
theorem AllRes.cons{r:ResultVar}{v:Value}{rs:List ResultVar}{vs:List Value}(h:ki P l w r v)(t:AllRes P l w rs vs):AllRes P l w (r::rs) (v::vs):=⟨h,t⟩
section
variable {a:Act} {n:Nat} {fn:Func} {Z:Ending→World→Prop}
theorem qf{t:Tmp}(h:vf l t=some v):ki P l w (.tmp t) v:=h
theorem qwe(hS:St w0 w L R O){c:Tmp}{t:TypeId}{m:Nat}(ht:IsS P t m){g o:Nat}(hx:vf l c=some (.pointer (some ⟨g,o,none⟩)))(k:Nat){vs cs:List Value}(hk:L[k]?=some (g,vs))(hcs:(vs.drop o).take m=cs)(hl:cs.length=m):ki P l w (.cell c t) (.agg cs.toArray):=
  ⟨_,hx,vy ht cs hl (fun j v hj=>hS.cell k hk (o+j) (by
    have hjn:j<m:=(by rw[←hl]; exact(List.getElem?_eq_some_iff.1 hj).1);rw[←hcs,List.getElem?_take,gj hjn,List.getElem?_drop]at hj;exact hj))⟩
def yb(tmps:Array Value):ResultVar→Sem Value
  | .tmp t => pure (tmps.getD t undef)
  | .cell c t => do loadVar t (← asAddr (tmps.getD c undef))
def qgc: List Value→Value
  | [x] => x
  | xs => .tuple xs.toArray
theorem Sl.res(hA:Sl a n l){r:ResultVar}(h:ki P l w r v):(yb a.tmps r).run P w=.ok v w:=by
  cases r with
  | tmp t =>
    have:=hA.holds t v h;simp[yb,Array.getD_eq_getD_getElem?,this]
  | cell c t =>
    obtain⟨p,hp,hr⟩:=h;have:=hA.holds c _ hp;simp[yb,Array.getD_eq_getD_getElem?,this,asAddr,hr]
theorem yt(hA:Sl a n l):∀(rs:List ResultVar) (vs:List Value),AllRes P l w rs vs→Sem.run P (rs.mapM (yb a.tmps)) w=.ok vs w
  | [], [], _ => by simp
  | [], _ :: _, h => h.elim
  | _ :: _, [], h => h.elim
  | r :: rs, v :: vs, h => by
    have e1:=hA.res h.1;have e2:=yt hA rs vs h.2;simp only[List.mapM_cons,Sem.run_bind,e1,Result.andThen_ok,e2,Sem.run_pure]
theorem jq(hA:Sl a n l){rs:List ResultVar}(hrs:fn.results=rs.toArray){vs:List Value}(hvs:AllRes P l w rs vs)(hv:qgc vs=v)(hz:Z (.returned v) w):bodyPost P fn Z .ret a w:=by
  refine⟨hA.none_,v,?_,hz⟩;have e:=yt hA rs vs hvs;subst hv;have e':results fn a.tmps=(do let us ← fn.results.mapM (yb a.tmps); pure (if h:us.size=1 then us[0]else .tuple us)):=by
    unfold results
    congr 1
  have e2:Sem.run P (List.toArray <$> rs.mapM (yb a.tmps)) w=.ok vs.toArray w:=by
    show Sem.run P (rs.mapM (yb a.tmps) >>= fun us=>pure us.toArray) w=_;rw[Sem.run_bind,e];rfl
  rw[e',hrs,List.mapM_toArray,Sem.run_bind,e2,Result.andThen_ok]
  match vs with
  | [] => simp [qgc]
  | [x] => simp [qgc]
  | x :: y :: r => simp [qgc]
end
theorem zib{f:FuncId}{fn:Func}{c:Code}{args:List Value}{n:Nat}{Z:Ending→World→Prop}(hf:P.funcs[f]?=some fn)(hb:fn.body=some c)(hn:fn.ntmps=n)(hl:Nat.ble args.length n=true)(hs:(args.zipIdx.map fun p=>(p.2,p.1))=l)
    (h:∀Q:Exit→Act→World→Prop,(∀a w,bodyPost P fn Z .ret a w→Q .ret a w)→(∀a w,bodyPost P fn Z .ret a w→Q .normal a w)→(∀c a d v w,Q (.panic c) (Act.put a d v) w→Q (.panic c) a w)→∀a,Sl a n l→c.wp P Q a w):Calls P f args.toArray w Z:=by
  subst hs;refine calls_of_wp hf hb (h _ (fun _ _ h=>h) (fun _ _ h=>h) (fun c a d v w h=>?_) _ ?_)
  · cases d<;>exact h
  · rw[hn];exact Sl.enter (Nat.le_of_ble_eq_true hl)
section
variable {Q:Exit→Act→World→Prop} {a:Act} {c:Code}
theorem uy{m:Nat}(h:∀K:Act→World→Prop,(∀a w,Code.rounds P c Q m a w→K a w)→c.wp P (Exit.then K Q) a w):Code.rounds P c Q (m+1) a w:=h _ (fun _ _ h=>h)
theorem uz: ∀n m,n≤m→∀a w,Code.rounds P c Q n a w→Code.rounds P c Q m a w
  | 0, _, _, _, _, h => h.elim
  | n + 1, 0, hl, _, _, _ => by omega
  | n + 1, m + 1, hl, a, w, h => Code.wp_mono (fun e a w q => by
      cases e<;>first|exact uz n m (by omega) _ _ q|exact q) h
theorem zg(I:Nat→Act→World→Prop)(N:Nat)(h0:I N a w)(round:∀m a w,I m a w→∀K:Act→World→Prop,(∀m' a' w',m'<m→I m' a' w'→K a' w')→c.wp P (Exit.then K Q) a w):(Code.loop c).wp P Q a w:=by
  have key:∀m a w,I m a w→Code.rounds P c Q (m+1) a w:=by
    intro m
    induction m using Nat.strongRecOn with
    | _ m ih =>
      intro a w h;exact round m a w h _ (fun m' a' w' hm h'=>uz (m'+1) m (by omega) _ _ (ih m' hm a' w' h'))
  exact wp_loop_rounds (N+1) (key N a w h0)
end
theorem jj{t:TypeId}{x i:Operand}{u u':Value}(hx:ev l x=some u)(hi:ev l i=some u')(hr:∀w,(Instr.indexAt t u u').run P w=.ok v w):Does P l ⟨dst,.indexAddr t x i,ty,pos,after,guard⟩ w v w:=fun ρ h=>by
  simp only[execOp,h x _ hx,h i _ hi,Sem.run_bind,hr w,Result.andThen_ok,Sem.run_pure]
theorem qlh{t e:TypeId}(hu:P.underlying t=some (.slice e))(he:(P.info? e).map (·.size)=some 1){g o n c k:Nat}(hk:k<n):∀w,(Instr.indexAt t (.slice (some ⟨g,o,none⟩) n c) (.int .i64 (k:Nat))).run P w=.ok (.pointer (some ⟨g,o+k,none⟩)) w:=fun w=>by
  obtain⟨i,hi,hs⟩:=vx he;have h2:(sizeOf e).run P w=.ok 1 w:=by simp[sizeOf,typeInfo,hi,hs]
  have h3:(0:Int)≤(k:Nat)∧((k:Nat):Int)<(n:Nat):=⟨by omega,by omega⟩;simp[Instr.indexAt,asIntOf,run_underlying hu,h2,h3,jt];intro h;omega
theorem ja{t e:TypeId}(hu:P.underlying t=some (.slice e))(he:(P.info? e).map (·.size)=some 1){x i:Operand}{so:Option Addr}{b off n c k:Nat}{z:Int}(hx:ev l x=some (.slice so n c))(hi:ev l i=some (.int .i64 z))(hz:z=(k:Nat))(hso:so=some ⟨b,off,none⟩)(hk:k<n):
    Does P l ⟨dst,.indexAddr t x i,ty,pos,after,guard⟩ w (.pointer (some ⟨b,off+k,none⟩)) w:=by
  subst hso hz;exact jj hx hi (qlh hu he hk)
theorem zk{s d:TypeId}{x:Operand}{u:Value}(hx:ev l x=some u)(hr:∀w,(convert s d u).run P w=.ok v w):Does P l ⟨dst,.convert s d x,ty,pos,after,guard⟩ w v w:=fun ρ h=>by
  simp only[execOp,h x _ hx,Sem.run_bind,hr w,Result.andThen_ok,Sem.run_pure]
theorem qgd{b:Builtin}{xs:List Operand}{ts:Array TypeId}{vs:List Value}(hx:evs l xs=some vs)(hr:∀w cs,(builtin b ts ty cs vs.toArray).run P w=.ok (.value v) w):Does P l ⟨dst,.call ⟨.builtin b,xs.toArray,ts⟩,ty,pos,after,guard⟩ w v w:=fun ρ h=>by
  have e:xs.map ρ=vs:=by
    have:∀(xs:List Operand) (vs:List Value),evs l xs=some vs→xs.map ρ=vs:=by
      intro xs
      induction xs with
      | nil => intro vs hx; simp [evs] at hx; simp [hx]
      | cons x xs ih =>
        intro vs hx;unfold evs at hx
        split at hx
        · rename_i v us h1 h2;cases hx
          simp[h _ _ h1,ih _ h2]
        · cases hx
    exact this xs vs hx
  rw[BigFrame.execOp_builtin];simp only[List.map_toArray,e,hr]

section
variable {t:TypeId} {x y:Operand} {k:IntKind} {a b:Int}
theorem qy: ∀w,(do eqGuard .lss t x y (.int k a) (.int k b); binOp .lss t (.int k a) (.int k b):Sem Value).run P w=.ok (.bool (decide (a<b))) w:=fun w=>by simp[go_sem]
theorem xi: ∀w,(do eqGuard .leq t x y (.int k a) (.int k b); binOp .leq t (.int k a) (.int k b):Sem Value).run P w=.ok (.bool (decide (a≤b))) w:=fun w=>by simp[go_sem]
theorem jh: ∀w,(do eqGuard .gtr t x y (.int k a) (.int k b); binOp .gtr t (.int k a) (.int k b):Sem Value).run P w=.ok (.bool (decide (b<a))) w:=fun w=>by simp[go_sem]
theorem zt: ∀w,(do eqGuard .geq t x y (.int k a) (.int k b); binOp .geq t (.int k a) (.int k b):Sem Value).run P w=.ok (.bool (decide (b≤a))) w:=fun w=>by simp[go_sem]
theorem qe: ∀w,(do eqGuard .eql t x y (.int k a) (.int k b); binOp .eql t (.int k a) (.int k b):Sem Value).run P w=.ok (.bool (a==b)) w:=fun w=>by simp[go_sem]
theorem zh: ∀w,(do eqGuard .neq t x y (.int k a) (.int k b); binOp .neq t (.int k a) (.int k b):Sem Value).run P w=.ok (.bool (a != b)) w:=fun w=>by simp[go_sem]
theorem jk{a:Int}(h0:-9223372036854775808≤a)(h1:a≤9223372036854775807):IntKind.i64.wrap a=a:=IntWalk.i64_in a ⟨h0,h1⟩
theorem zq(h:k.wrap (a+b)=a+b):∀w,(do eqGuard .add t x y (.int k a) (.int k b); binOp .add t (.int k a) (.int k b):Sem Value).run P w=.ok (.int k (a+b)) w:=fun w=>by simp[go_sem,h]
theorem jbi(h:k.wrap (a-b)=a-b):∀w,(do eqGuard .sub t x y (.int k a) (.int k b); binOp .sub t (.int k a) (.int k b):Sem Value).run P w=.ok (.int k (a-b)) w:=fun w=>by simp[go_sem,h]
theorem znh(hu:P.underlying t=some .bool){c d:Bool}:∀w,(do eqGuard .eql t x y (.bool c) (.bool d); binOp .eql t (.bool c) (.bool d):Sem Value).run P w=.ok (.bool (c==d)) w:=fun w=>by
  simp[go_sem,hu,run_underlying hu]
theorem qaf{c:Bool}:∀w,(Op.unary .not (.bool c)).run P w=.ok (.bool (!c)) w:=fun w=>by simp[go_sem]
end
end
section
variable {P:Program} {ops:List Oper} {Q:Exit→Act→World→Prop} {a:Act} {w w':World} {n:Nat} {l:List (Nat×Value)} {o:Oper} {v:Value} {rest:List Oper} {d:Nat}
theorem sdo(hA:Sl a n l)(he:Does P l o w v w')(hk:∀{a'},Sl a' n ((d,v)::l)→wpList P ops.toArray Q rest a' w')(hg:zf l ops o=true:=by rfl)(hdst:o.dst=some d:=by rfl)(hd:Nat.blt d n=true:=by rfl):wpList P ops.toArray Q (o::rest) a w:=kh hA hg hdst hd he (fun _ A=>hk A)
theorem sdm{x:Operand}{ty:TypeId}{pos:String}{after:Array Edge}{guard:Option (Nat×Bool)}(hA:Sl a n l)(hk:∀{a'},Sl a' n ((d,v)::l)→wpList P ops.toArray Q rest a' w)(hx:ev l x=some v:=by rfl)(hg:zf l ops ⟨some d,.move x,ty,pos,after,guard⟩=true:=by rfl)(hd:Nat.blt d n=true:=by rfl):wpList P ops.toArray Q (⟨some d,.move x,ty,pos,after,guard⟩::rest) a w:=sdo hA (zr hx) hk hg rfl hd
theorem sda{x:Operand}{ty:TypeId}{pos:String}{after:Array Edge}{guard:Option (Nat×Bool)}(hA:Sl a n l)(hk:∀{a'},Sl a' n ((d,v)::l)→wpList P ops.toArray Q rest a' w)(hx:ev l x=some v:=by rfl)(hg:zf l ops ⟨some d,.assign x,ty,pos,after,guard⟩=true:=by rfl)(hd:Nat.blt d n=true:=by rfl):wpList P ops.toArray Q (⟨some d,.assign x,ty,pos,after,guard⟩::rest) a w:=sdo hA (ji hx) hk hg rfl hd
theorem sdk{c x y:Operand}{b:Bool}{u u':Value}{ty:TypeId}{pos:String}{after:Array Edge}{guard:Option (Nat×Bool)}(hA:Sl a n l)(hk:∀{a'},Sl a' n ((d,v)::l)→wpList P ops.toArray Q rest a' w)(hc:ev l c=some (.bool b):=by rfl)(hx:ev l x=some u:=by rfl)(hy:ev l y=some u':=by rfl)(hv:v=cond b u u':=by rfl)(hg:zf l ops ⟨some d,.pick c x y,ty,pos,after,guard⟩=true:=by rfl)(hd:Nat.blt d n=true:=by rfl):wpList P ops.toArray Q (⟨some d,.pick c x y,ty,pos,after,guard⟩::rest) a w:=sdo hA (qbg hc hx hy hv) hk hg rfl hd
abbrev pg(g:Nat):Value:=.pointer (some ⟨g,0,none⟩)
theorem wsk{x y:Code}(h:∀K:Act→World→Prop,(∀a w,y.wp P Q a w→K a w)→x.wp P (Exit.then K Q) a w):(Code.seq x y).wp P Q a w:=wp_seq_k h
theorem wrl{id:Nat}{l:List Oper}(h:wpList P l.toArray Q l a w):(Code.region id l.toArray false).wp P Q a w:=wp_region_lit h
theorem tf(b:Bool):b=true∨b=false:=Bool.eq_false_or_eq_true b
theorem ef{x:Operand}{f:FuncId}{args:List Operand}{ts:Array TypeId}{vs:List Value}{dst:Option Tmp}{ty:TypeId}{pos:String}{after:Array Edge}{guard:Option (Nat×Bool)}(hx:ev l x=some (.func (.func f) #[] #[]))(ha:evs l args=some vs)(hf:∀w,(invoke (.fn (.func f) #[]) vs.toArray).run P w=.ok (.enter f vs.toArray) w:=by exact fun w=>by kernel_rfl):Enters P l ⟨dst,.call ⟨.value x,args.toArray,ts⟩,ty,pos,after,guard⟩ w f vs:=xj hx ha hf
theorem sct{f:FuncId}{vs:List Value}(hA:Sl a n l)(he:Enters P l o w f vs){R:Ending→World→Prop}(hc:Calls P f vs.toArray w R)(hk:∀e w',R e w'→∃v,e=.returned v∧∀a',Sl a' n ((d,v)::l)→wpList P ops.toArray Q rest a' w')(hg:zf l ops o=true:=by rfl)(hdst:o.dst=some d:=by rfl)(hd:Nat.blt d n=true:=by rfl):wpList P ops.toArray Q (o::rest) a w:=yp hA hg hdst hd he hc hk
theorem sdc{b:BinOp}{t t' ty:TypeId}{x y:Operand}{u u':Value}{c e:Bool}{pos:String}{after:Array Edge}{guard:Option (Nat×Bool)}(hA:Sl a n l)(hr:∀w,(do eqGuard b t x y u u'; binOp b t u u':Sem Value).run P w=.ok (.bool c) w)(h:c=e)(hk:∀{a'},Sl a' n ((d,.bool e)::l)→wpList P ops.toArray Q rest a' w)(hx:ev l x=some u:=by rfl)(hy:ev l y=some u':=by rfl)(hg:zf l ops ⟨some d,.binOp b t x y t',ty,pos,after,guard⟩=true:=by rfl)(hd:Nat.blt d n=true:=by rfl):wpList P ops.toArray Q (⟨some d,.binOp b t x y t',ty,pos,after,guard⟩::rest) a w:=sdo hA (qb hx hy (h▸hr)) hk hg rfl hd
variable {fn:Func} {Z:Ending→World→Prop} {r1 r2 r3:ResultVar} {v1 v2 v3:Value}
theorem en1(hA:Sl a n l)(hrs:fn.results=#[r1])(h1:ki P l w r1 v1)(hz:Z (.returned v1) w):bodyPost P fn Z .ret a w:=jq hA (rs:=[r1]) hrs (.cons h1 .nil) rfl hz
theorem en2(hA:Sl a n l)(hrs:fn.results=#[r1,r2])(h1:ki P l w r1 v1)(h2:ki P l w r2 v2)(hz:Z (.returned (.tuple #[v1,v2])) w):bodyPost P fn Z .ret a w:=jq hA (rs:=[r1,r2]) hrs (.cons h1 (.cons h2 .nil)) rfl hz
theorem en3(hA:Sl a n l)(hrs:fn.results=#[r1,r2,r3])(h1:ki P l w r1 v1)(h2:ki P l w r2 v2)(h3:ki P l w r3 v3)(hz:Z (.returned (.tuple #[v1,v2,v3])) w):bodyPost P fn Z .ret a w:=jq hA (rs:=[r1,r2,r3]) hrs (.cons h1 (.cons h2 (.cons h3 .nil))) rfl hz
end
section
variable {P:Program} {ops:List Oper} {Q:Exit→Act→World→Prop} {a:Act} {w w':World} {n:Nat} {l:List (Nat×Value)} {o:Oper} {v:Value} {d:Nat} {S:World→Prop} {md:Region.Mode} {fuel:Nat} {listed:Array Bool}
theorem ct{c:Operand}{x y:Code}(hA:Sl a n l)(h:x.wp P Q a w)(hx:ev l c=some (.bool true):=by rfl):(Code.cond c x y).wp P Q a w:=wp_cond_true (hA.ev hx) h
theorem cf{c:Operand}{x y:Code}(hA:Sl a n l)(h:y.wp P Q a w)(hx:ev l c=some (.bool false):=by rfl):(Code.cond c x y).wp P Q a w:=wp_cond_false (hA.ev hx) h
theorem atk(hA:Sl a n l)(i:Nat)(hi:ops[i]?=some o)(hP:∀c a d v w,Q (.panic c) (Act.put a d v) w→Q (.panic c) a w)(hS:S w)(he:∀w,S w→Does P l o w v w)(hk:∀{a'},Sl a' n ((d,v)::l)→wpAnyH P md ops.toArray Q S fuel (listed.setIfInBounds i true) a' w)(hg:zf l ops o=true:=by rfl)(hdst:o.dst=some d:=by rfl)(hd:Nat.blt d n=true:=by rfl)(hs:Region.noSelect ops.toArray=true:=by kernel_rfl)(hf:Region.free md ops.toArray listed i=true:=by kernel_rfl)(hr:(Region.ready md ops.toArray listed).contains i=true:=by kernel_rfl):wpAnyH P md ops.toArray Q S (fuel+1) listed a w:=qwd hA i hi hg hdst hd hP hS he (fun _ A=>hk A) hs hf hr
theorem amv{x:Operand}{ty:TypeId}{pos:String}{after:Array Edge}{guard:Option (Nat×Bool)}(hA:Sl a n l)(i:Nat)(hi:ops[i]?=some ⟨some d,.move x,ty,pos,after,guard⟩)(hP:∀c a d v w,Q (.panic c) (Act.put a d v) w→Q (.panic c) a w)(hS:S w)(hk:∀{a'},Sl a' n ((d,v)::l)→wpAnyH P md ops.toArray Q S fuel (listed.setIfInBounds i true) a' w)(hx:ev l x=some v:=by rfl)(hg:zf l ops ⟨some d,.move x,ty,pos,after,guard⟩=true:=by rfl)(hd:Nat.blt d n=true:=by rfl)(hs:Region.noSelect ops.toArray=true:=by kernel_rfl)(hf:Region.free md ops.toArray listed i=true:=by kernel_rfl)(hr:(Region.ready md ops.toArray listed).contains i=true:=by kernel_rfl):wpAnyH P md ops.toArray Q S (fuel+1) listed a w:=qwd hA i hi hg rfl hd hP hS (fun w _=>zr hx) (fun _ A=>hk A) hs hf hr
theorem dbK{b:BinOp}{t t' ty:TypeId}{x y:Operand}{u u':Value}{dst:Option Tmp}{pos:String}{after:Array Edge}{guard:Option (Nat×Bool)}(hx:ev l x=some u:=by rfl)(hy:ev l y=some u':=by rfl)(hr:∀w,(do eqGuard b t x y u u'; binOp b t u u':Sem Value).run P w=.ok v w:=by exact fun w=>by kernel_rfl):Does P l ⟨dst,.binOp b t x y t',ty,pos,after,guard⟩ w v w:=qb hx hy hr
variable {fn:Func} {Z:Ending→World→Prop} {r1:ResultVar} {v1:Value} {t:Tmp}
theorem wr1(hret:∀a w,bodyPost P fn Z .ret a w→Q .ret a w)(hA:Sl a n l)(hz:Z (.returned v1) w)(hrs:fn.results=#[.tmp t]:=by rfl)(h1:vf l t=some v1:=by rfl):Code.ret.wp P Q a w:=wp_ret (hret _ _ (jq hA (rs:=[.tmp t]) hrs (.cons (qf h1) .nil) rfl hz))
end
section
variable {P:Program} {ops:List Oper} {Q:Exit→Act→World→Prop} {a:Act} {w0 w w2:World} {n:Nat} {l:List (Nat×Value)} {v:Value} {d:Nat} {rest:List Oper} {ty:TypeId} {pos:String} {after:Array Edge} {guard:Option (Nat×Bool)} {x:Operand} {t:TypeId}
theorem sde{vs:List Value}{i:Nat}(hA:Sl a n l)(hk:∀{a'},Sl a' n ((d,v)::l)→wpList P ops.toArray Q rest a' w)(hx:ev l x=some (.tuple vs.toArray):=by rfl)(hi:vs[i]?=some v:=by rfl)(hg:zf l ops ⟨some d,.extract x i,ty,pos,after,guard⟩=true:=by rfl)(hd:Nat.blt d n=true:=by rfl):wpList P ops.toArray Q (⟨some d,.extract x i,ty,pos,after,guard⟩::rest) a w:=sdo hA (qgb hx hi) hk hg rfl hd
theorem sdu{c:Bool}(hA:Sl a n l)(hk:∀{a'},Sl a' n ((d,.bool (!c))::l)→wpList P ops.toArray Q rest a' w)(hx:ev l x=some (.bool c):=by rfl)(hg:zf l ops ⟨some d,.unOp .not t x,ty,pos,after,guard⟩=true:=by rfl)(hd:Nat.blt d n=true:=by rfl):wpList P ops.toArray Q (⟨some d,.unOp .not t x,ty,pos,after,guard⟩::rest) a w:=sdo hA (ya hx qaf) hk hg rfl hd
end
section
variable {P:Program} {ops:List Oper} {Q:Exit→Act→World→Prop} {a:Act} {w w':World} {n:Nat} {l:List (Nat×Value)} {o:Oper} {v:Value} {d:Nat} {rest:List Oper} {K:Act→World→Prop} {x y:Code} {c:Operand} {id:Nat} {ol:List Oper}
theorem wsr(h:∀K:Act→World→Prop,(∀a w,y.wp P Q a w→K a w)→wpList P ol.toArray (Exit.then K Q) ol a w):(Code.seq (Code.region id ol.toArray false) y).wp P Q a w:=wp_seq_k fun K hK=>wp_region_lit (h K hK)
theorem qwk(hK:∀a w,(Code.seq x y).wp P Q a w→K a w)(h:∀K:Act→World→Prop,(∀a w,y.wp P Q a w→K a w)→x.wp P (Exit.then K Q) a w):wpList P ops.toArray (Exit.then K Q) [] a w:=qa (hK a w (wp_seq_k h))
theorem qwr(hK:∀a w,(Code.seq (Code.region id ol.toArray false) y).wp P Q a w→K a w)(h:∀K:Act→World→Prop,(∀a w,y.wp P Q a w→K a w)→wpList P ol.toArray (Exit.then K Q) ol a w):wpList P ops.toArray (Exit.then K Q) [] a w:=qa (hK a w (wsr h))
theorem qct(hK:∀a w,(Code.cond c x y).wp P Q a w→K a w)(hA:Sl a n l)(h:x.wp P Q a w)(hx:ev l c=some (.bool true):=by rfl):wpList P ops.toArray (Exit.then K Q) [] a w:=qa (hK a w (ct hA h hx))
theorem qcf(hK:∀a w,(Code.cond c x y).wp P Q a w→K a w)(hA:Sl a n l)(h:y.wp P Q a w)(hx:ev l c=some (.bool false):=by rfl):wpList P ops.toArray (Exit.then K Q) [] a w:=qa (hK a w (cf hA h hx))
theorem qrl(hK:∀a w,(Code.region id ol.toArray false).wp P Q a w→K a w)(h:wpList P ol.toArray Q ol a w):wpList P ops.toArray (Exit.then K Q) [] a w:=qa (hK a w (wp_region_lit h))
theorem wof{f:FuncId}{fn:Func}{c:Code}{args:List Value}{n:Nat}{Z:Ending→World→Prop}(hf:P.funcs[f]?=some fn)(hn:fn.ntmps=n)(h:∀Q:Exit→Act→World→Prop,(∀a w,bodyPost P fn Z .ret a w→Q .ret a w)→(∀a w,bodyPost P fn Z .ret a w→Q .normal a w)→(∀c a d v w,Q (.panic c) (Act.put a d v) w→Q (.panic c) a w)→∀a,Sl a n (args.zipIdx.map fun p=>(p.2,p.1))→c.wp P Q a w)(hb:fn.body=some c:=by rfl)(hl:Nat.ble args.length n=true:=by rfl):Calls P f args.toArray w Z:=zib hf hb hn hl rfl h
theorem sks(hA:Sl a n l)(hk:∀{a'},Sl a' n ((d,undef)::l)→wpList P ops.toArray Q rest a' w)(hg:qoa l ops o=true:=by rfl)(hdst:o.dst=some d:=by rfl)(hd:Nat.blt d n=true:=by rfl):wpList P ops.toArray Q (o::rest) a w:=qwb hA hg hdst hd fun _ A=>hk A
theorem sdf{s:TypeId}{x:Operand}{f g o off:Nat}{ty:TypeId}{pos:String}{after:Array Edge}{guard:Option (Nat×Bool)}(hA:Sl a n l)(o':Nat)(hf:FieldAt P s f off)(hk:∀{a'},Sl a' n ((d,.pointer (some ⟨g,o',none⟩))::l)→wpList P ops.toArray Q rest a' w)(hx:ev l x=some (.pointer (some ⟨g,o,none⟩)):=by rfl)(ho:o+off=o':=by rfl)(hg:zf l ops ⟨some d,.fieldAddr s x f,ty,pos,after,guard⟩=true:=by rfl)(hd:Nat.blt d n=true:=by rfl):wpList P ops.toArray Q (⟨some d,.fieldAddr s x f,ty,pos,after,guard⟩::rest) a w:=sdo hA (qp hf hx ho) hk hg rfl hd
theorem ec{x:Operand}{f:FuncId}{args:List Operand}{ts:Array TypeId}{vs:List Value}{dst:Option Tmp}{ty:TypeId}{pos:String}{after:Array Edge}{guard:Option (Nat×Bool)}(hx:ev l x=some (.func (.func f) #[] #[]):=by rfl)(ha:evs l args=some vs:=by rfl)(hf:∀w,(invoke (.fn (.func f) #[]) vs.toArray).run P w=.ok (.enter f vs.toArray) w:=by exact fun w=>by kernel_rfl):Enters P l ⟨dst,.call ⟨.value x,args.toArray,ts⟩,ty,pos,after,guard⟩ w f vs:=ef hx ha hf
theorem vcl{w0:World}{L R O}{f:FuncId}{vs:List Value}(hA:Sl a n l)(hV:St w0 w L R O)(he:Enters P l o w f vs)(hc:Calls P f vs.toArray w (fun e w'=>e=.returned v∧Below w.heap.size w w'))(hk:∀w',Below w.heap.size w w'→St w0 w' L R O→∀a',Sl a' n ((d,v)::l)→wpList P ops.toArray Q rest a' w')(hg:zf l ops o=true:=by rfl)(hdst:o.dst=some d:=by rfl)(hd:Nat.blt d n=true:=by rfl):wpList P ops.toArray Q (o::rest) a w:=yp hA hg hdst hd he hc (by rintro _ w' ⟨rfl,hb⟩; exact⟨_,rfl,hk w' hb (hV.call hb)⟩)
section
variable {fn:Func} {Z:Ending→World→Prop} {r1:ResultVar} {v1:Value} {t:Tmp}
theorem qr1(hK:∀a w,Code.ret.wp P Q a w→K a w)(hret:∀a w,bodyPost P fn Z .ret a w→Q .ret a w)(hA:Sl a n l)(hz:Z (.returned v1) w)(hrs:fn.results=#[.tmp t]:=by rfl)(h1:vf l t=some v1:=by rfl):wpList P ops.toArray (Exit.then K Q) [] a w:=qa (hK a w (wr1 hret hA hz hrs h1))
end
end
theorem qwf{w:World}{b:Bool}{to_ bo:Option Addr}{top bot:List Nat}(tc bc:Nat)(ht:Rd w to_ top)(hb:Rd w bo bot)(lt:top.length≤9223372036854775807)(lb:bot.length≤9223372036854775807):
    Calls Tryz.prog 266 #[.agg #[.bool b,.slice to_ top.length tc,.slice bo bot.length bc]] w fun e w'=>e=.returned (.bool (sound top&&sound bot))∧Below w.heap.size w w':=by
  obtain⟨m,HM⟩:∃n,Hid (top.length=n):=⟨_,rfl⟩;obtain⟨n,HN⟩:∃n,Hid (bot.length=n):=⟨_,rfl⟩;rw[HM.out,HN.out];have hal:Below w.heap.size w (w.alloc (.cells #[.bool b,.slice to_ m tc,.slice bo n bc] 24)):=(Below.refl _ _).alloc (gm _) _;have c1:=sound_any tc (ht.below hal) lt;have c2:=sound_any bc (hb.below hal) lb;rw[HM.out]at c1;rw[HN.out]at c2;have aa:Hid _:=c1;have ab:Hid _:=c2;have HAL:Hid _:=hal;obtain⟨z,hz⟩:∃z,sound top=z:=⟨_,rfl⟩;rw[hz]at aa ⊢;clear c1 c2 ht hb lt lb hz hal;cases z with
  | false =>
    go_enter Tryz.func266,Tryz.ntmps266
    go_wp2_with fail
    refine Calls.mono aa.out ?_;rintro e w' ⟨rfl,hw'⟩;have hw':=hw'.symm;subst hw'
    go_wp2
    go_ret
    exact⟨rfl,HAL.out⟩
  | true =>
    rw[Bool.true_and]
    go_enter Tryz.func266,Tryz.ntmps266
    go_wp2_with fail
    refine Calls.mono aa.out ?_;rintro e w' ⟨rfl,hw'⟩;have hw':=hw'.symm;subst hw'
    go_wp2_with fail
    refine Calls.mono ab.out ?_;rintro e w' ⟨rfl,hw'⟩;have hw':=hw'.symm;subst hw'
    go_wp2
    go_ret
    exact⟨rfl,HAL.out⟩

theorem zva{w:World}{b1 b2:Bool}{o1 o2 o3 o4:Option Addr}{m1 m2 m3 m4 c1 c2 c3 c4:Nat}(h:m3≤9223372036854775807):
    Calls Tryz.prog 210 #[.agg #[.bool b1,.slice o1 m1 c1,.slice o2 m2 c2,.bool b2,.slice o3 m3 c3,.slice o4 m4 c4]] w fun e w'=>e=.returned (.bool (decide (m3=0)))∧Below w.heap.size w w':=by
  have HAL:Hid (∀o,Below w.heap.size w (w.alloc o)):=fun o=>(Below.refl _ _).alloc (gm _) o;by_cases hm:m3=0
  · subst hm
    go_enter Tryz.func210,Tryz.ntmps210
    go_wp2
    go_ret
    exact⟨rfl,HAL.out _⟩
  · have e:decide (m3=0)=false:=gn hm;rw[e];have hm1:((m3:Int)==0)=false:=(by simp; omega);clear e
    go_enter Tryz.func210,Tryz.ntmps210
    go_wp2
    go_ret
    exact⟨rfl,HAL.out _⟩
theorem vj{w w':World}(h:w'=w):Below w.heap.size w w':=h▸Below.refl _ _
structure Sc(w:World)(o:Option Addr)(c:Nat)(l:List Nat):Prop where
 rd:Rd w o l
 nil:o=none→c=0
 cap:l.length≤c
theorem Sc.below{w w':World}{o:Option Addr}{c:Nat}{l:List Nat}(h:Sc w o c l)(hb:Below w.heap.size w w'):Sc w' o c l:=⟨h.rd.below hb,h.nil,h.cap⟩
theorem Own.sc{B:Nat}{w:World}{o:Option Addr}{c:Nat}{l:List Nat}(h:Own B w o c l):Sc w o c l:=⟨h.rd,h.nocap,h.caps⟩
theorem Sc.none(w:World):Sc w none 0 []:=⟨Rd.nil _ _,fun _=>rfl,gm _⟩
structure Q6 where
 b1:Bool
 t1:List Nat
 q1:List Nat
 b2:Bool
 t2:List Nat
 q2:List Nat
def zic(q:Q6)(o1:Option Addr)(c1:Nat)(o2:Option Addr)(c2:Nat)(o3:Option Addr)(c3:Nat)(o4:Option Addr)(c4:Nat):Value:=
 .agg #[bV q.b1,.slice o1 q.t1.length c1,.slice o2 q.q1.length c2,bV q.b2,.slice o3 q.t2.length c3,.slice o4 q.q2.length c4]
structure Nm(w:World)(q:Q6)(o1:Option Addr)(c1:Nat)(o2:Option Addr)(c2:Nat)(o3:Option Addr)(c3:Nat)(o4:Option Addr)(c4:Nat):Prop where
 s1:Sc w o1 c1 q.t1
 s2:Sc w o2 c2 q.q1
 s3:Sc w o3 c3 q.t2
 s4:Sc w o4 c4 q.q2
def Q6.zero: Q6:=⟨false,[],[],false,[],[]⟩
def Q6.whole(b:Bool)(x:Nat):Q6:=⟨b,words x,[1],false,[],[1]⟩
theorem qqd: words 1=[1]:=by rw[words_pos (by omega)]; simp[words_zero]
theorem vk{x:Nat}(h:(words x).length≤512):sound (words x)=true:=(sound_iff _).2 ⟨h,words_top x⟩
structure LenQ(q:Q6):Prop where
 l1:q.t1.length≤9223372036854775807
 l2:q.q1.length≤9223372036854775807
 l3:q.t2.length≤9223372036854775807
 l4:q.q2.length≤9223372036854775807
def xt(q:Q6):Bool:=qli q.b1 q.t1 q.q1 q.b2 q.t2 q.q2
theorem qlj{w:World}{q:Q6}{o1 o2 o3 o4:Option Addr}{c1 c2 c3 c4:Nat}(h:Nm w q o1 c1 o2 c2 o3 c3 o4 c4)(hl:LenQ q){r:Bool}(hr:xt q=r):
  Calls Tryz.prog 187 #[zic q o1 c1 o2 c2 o3 c3 o4 c4] w fun e w'=>e=.returned (bV r)∧Below w.heap.size w w':=by
 subst hr;exact zuj c1 c2 c3 c4 h.s1.rd h.s2.rd h.s3.rd h.s4.rd hl.l1 hl.l2 hl.l3 hl.l4 h.s1.nil h.s2.nil h.s3.nil h.s4.nil
theorem qta{w:World}{q:Q6}{o1 o2 o3 o4:Option Addr}{c1 c2 c3 c4:Nat}(hl:LenQ q){r:Bool}(hr:decide (q.t2.length=0)=r):
  Calls Tryz.prog 210 #[zic q o1 c1 o2 c2 o3 c3 o4 c4] w fun e w'=>e=.returned (bV r)∧Below w.heap.size w w':=by
 subst hr;exact zva hl.l3
theorem uf{w:World}{ao:Option Addr}{l:List Nat}(ca:Nat)(ha:Rd w ao l)(hl:l.length≤9223372036854775807){r:Bool}(hr:decide (l=[1])=r):
  Calls Tryz.prog 211 #[.slice ao l.length ca] w fun e w'=>e=.returned (bV r)∧w'=w:=by
 subst hr;exact zdj ca ha hl
def rb(z:Int):Bool:=decide (z<0)
def AnsZ(w:World)(z:Int)(e:Ending)(w':World):Prop:=∃o c,e=.returned (.agg #[bV (rb z),.slice o (words z.natAbs).length c])∧Sc w' o c (words z.natAbs)∧Below w.heap.size w w'
theorem AnsZ.sgn{w w':World}{b b':Bool}{n:Nat}{z:Int}{o:Option Addr}{c:Nat}(hz:sgn b n=z)(hb:rb (sgn b n)=b')(hs:Sc w' o c (words n))(hbel:Below w.heap.size w w'):AnsZ w z (.returned (.agg #[bV b',.slice o (words n).length c])) w':=by
 subst hz hb;refine⟨o,c,?_,?_,hbel⟩
 ·rw[qnj]
 ·rw[qnj]; exact hs
theorem xz{b:Bool}{x y:Nat}(hx:(words x).length≤512)(hy:(words y).length≤512):qcg b (words x) (words y)=(!(decide ((words y).length=0)||(decide ((words x).length=0)&&b))&&decide (words (Nat.gcd x y)=[1])):=by
 unfold qcg zda;simp only[vk hx,vk hy,val_words,Bool.and_self,if_true,decide_true,Bool.true_and]

theorem BiB_is1_144: Is1 Tryz.prog 144:=⟨⟨_,Tryz.underlying144,rfl⟩,by kernel_rfl⟩
theorem qqh{w:World}{ao bo:Option Addr}{l1 l2:List Nat}(ca cb:Nat)(ha:Rd w ao l1)(hb:Rd w bo l2)(h1:l1.length≤9223372036854775807)(h2:l2.length≤9223372036854775807):Calls Tryz.prog 122 #[.slice ao l1.length ca,.slice bo l2.length cb] w fun e w'=>e=.returned (bV (decide (l1=l2)))∧Below w.heap.size w w':=by
 have V:St w w [] [(bo,l2),(ao,l1)] []:=((St.start w).addR ha).addR hb;refine wof Tryz.func122 Tryz.ntmps122 fun Q hret hnorm hP a A=>?_;refine wsr fun _ ar=>sda A λA=>?_;refine qwk ar fun _ au=>wsr fun _ aq=>sdm A λA=>?_;refine sdo A (qr im rfl) λA=>?_;refine sdm A λA=>?_;refine sdo A (qr im rfl) λA=>?_;rcases tf ((((l1.length:Nat):Int) != ((l2.length:Nat):Int)))with ae|ae
 ·have ae':=iy.1 ae;refine sdc A zh ae λA=>?_;refine qct aq A ?_;refine wsr fun _ av=>sda A λA=>?_;refine qr1 av hret A ?_;exact⟨by rw[gn (fun e=>by subst e; omega)],V.bel⟩
 ·have ae':=ie.1 ae;refine sdc A zh ae λA=>?_;refine qcf aq A ?_;refine wp_skip (au _ _ (wsk fun _ aw=>wsr fun _ ax=>sda A λA=>?_));refine qa (ax _ _ (wp_block (zg (fun m a w1=>∃(i:Nat),m=l1.length-i∧(i≤l1.length∧∀j,j<i→l1.getD j 0=l2.getD j 0)∧Sl a 26 [(0,.slice ao l1.length ca),(1,.slice bo l2.length cb),(5,iV (((i:Nat):Int))),(6,.slice ao l1.length ca),(7,iV (((l1.length:Nat):Int))),(8,.slice bo l2.length cb),(9,iV (((l2.length:Nat):Int))),(10,bV false)]∧St w w1 [] [(bo,l2),(ao,l1)] []) _ ⟨0,rfl,⟨by omega,fun j hj=>by omega⟩,A.keep _ (by repeat' constructor),V⟩ ?_)));clear V A;rintro m a _ ⟨i,rfl,aa,A,V⟩ _ ay;have hle:=aa.1;refine wsk fun _ aj=>wsr fun _ ah=>?_;iterate 2 refine sdm A λA=>?_
  refine sdo A (qr im rfl) λA=>?_;rcases tf (decide (((i:Nat):Int)<((l1.length:Nat):Int)))with ab|ab
  ·have ab':=f5 ab;refine sdc A qy ab λA=>?_;refine qct ah A ?_;refine wp_skip (aj _ _ (wsk fun _ ak=>wp_block (wsk fun _ ai=>xg (S:=fun w1=>St w w1 [] [(bo,l2),(ao,l1)] []) (by kernel_rfl) ?_)));replace V:=V.drew;refine atk A 0 rfl hP V (λ_ V=>zr rfl) λA=>?_;refine atk A 1 rfl hP V (λ_ V=>zr rfl) λA=>?_;have af:i<l1.length:=by first|omega|(simp only[List.length_set]; omega)
   obtain⟨b16,f17,hso18⟩:=Rd.addr (V.rd 1 rfl) af;refine atk (v:=pA b16 (f17+i)) A 2 rfl hP V (λ_ V=>ja (k:=i) im (by kernel_rfl) rfl rfl (by omega) hso18 af) λA=>?_;refine atk (v:=.int .u32 (((l1.getD i 0:Nat):Int))) A 3 rfl hP V (λ_ V=>qoc (V.rd 1 rfl) hso18 af BiB_is1_144 rfl) λA=>?_;refine atk A 4 rfl hP V (λ_ V=>zr rfl) λA=>?_;refine atk A 5 rfl hP V (λ_ V=>zr rfl) λA=>?_;have ag:i<l2.length:=by first|omega|(simp only[List.length_set]; omega)
   obtain⟨b20,f21,hso22⟩:=Rd.addr (V.rd 0 rfl) ag;refine atk (v:=pA b20 (f21+i)) A 6 rfl hP V (λ_ V=>ja (k:=i) im (by kernel_rfl) rfl rfl (by omega) hso22 ag) λA=>?_;refine atk (v:=.int .u32 (((l2.getD i 0:Nat):Int))) A 7 rfl hP V (λ_ V=>qoc (V.rd 0 rfl) hso22 ag BiB_is1_144 rfl) λA=>?_;rcases tf ((((l1.getD i 0:Nat):Int) != ((l2.getD i 0:Nat):Int)))with ac|ac
   ·have ac':=iy.1 ac;refine atk (v:=bV true) A 8 rfl hP V (λ_ V=>qb rfl rfl (fun w=>(zh w).trans (by rw[ac]))) λA=>?_;refine jl (by kernel_rfl) ?_;refine ai _ _ (ct A ?_);refine wsr fun _ am=>sda A λA=>?_;refine qr1 am hret A ?_;exact⟨by rw[gn (fun e=>by subst e; omega)],V.bel⟩
   ·have ac':=ie.1 ac;refine atk (v:=bV false) A 8 rfl hP V (λ_ V=>qb rfl rfl (fun w=>(zh w).trans (by rw[ac]))) λA=>?_;refine jl (by kernel_rfl) ?_;refine ai _ _ (cf A ?_);refine wp_skip (ak _ _ (wrl (sdm A λA=>?_)));refine sdo (v:=iV (((i+1:Nat):Int))) A (qb rfl rfl (fun w=>(zq (jk (by omega) (by omega)) w).trans (by rw[show(((i:Nat):Int)+1:Int)=((i+1:Nat):Int)from by omega]))) λA=>?_;refine sda A λA=>?_;refine qa ?_;refine ay _ _ _ (by omega) ⟨i+1,rfl,⟨by omega,fun j hj=>by rcases Nat.lt_succ_iff_lt_or_eq.1 hj with h|h; exact aa.2 j h; subst h; omega⟩,A.keep _ (by repeat' constructor),V⟩
  ·have ab':=fy ab;refine sdc A qy ab λA=>?_;refine qcf ah A ?_;refine wp_exit (aw _ _ (wsr fun _ ap=>sda A λA=>?_));refine qr1 ap hret A ?_;exact⟨by rw[gv (list_of_getD (by omega) (fun j hj=>aa.2 j (by omega)))],V.bel⟩
section
variable {P:Program}
end
def xn(b:Bool)(t q:List Nat)(b':Bool)(t' q':List Nat):Bool:=(b==b')&&(decide (t=t')&&decide (q=q'))
def zoe(u:Rat):Prop:=(words u.num.natAbs).length≤512∧(words u.den).length≤512
instance (u : Rat) : Decidable (zoe u) := inferInstanceAs (Decidable (_ ∧ _))
def Q6.rat(u v:Rat):Q6:=⟨rb u.num,words u.num.natAbs,words u.den,rb v.num,words v.num.natAbs,words v.den⟩
theorem zee{b:Bool}{t q:List Nat}(ht:Dig t)(hq:Dig q)(h:qcg b t q=true):∃u:Rat,zoe u∧b=rb u.num∧t=words u.num.natAbs∧q=words u.den:=by
 unfold qcg zda at h;by_cases hs:(sound t&&sound q)=true
 ·rw[gj hs]at h;rw[ig]at hs;obtain⟨e1,l1⟩:=sound_words ht hs.1;obtain⟨e2,l2⟩:=sound_words hq hs.2;simp only[ig,decide_eq_true_eq,Bool.not_eq_true',Bool.or_eq_false_iff,decide_eq_false_iff_not]at h;obtain⟨⟨h1,h2⟩,_,h3⟩:=h;have hd:val q≠0:=fun e=>h1 (by rw[e2,e,words_zero]; rfl);have hg:Nat.gcd (val t) (val q)=1:=by
   have:=j9 val h3;rw[val_words]at this;rw[this,←qqd,val_words]
  refine⟨⟨sgn b (val t),val q,hd,by rw[qnj]; exact hg⟩,⟨by simp only[qnj]; rw[←e1]; exact l1,by rw[←e2]; exact l2⟩,?_,by simp only[qnj]; exact e1,e2⟩;unfold rb;simp only[];rw[jvj];cases b with
  | false => rfl
  | true =>
   have:0<val t:=by
    apply Nat.pos_of_ne_zero;intro e;rw[e1,e,words_zero]at h2;simp at h2
   rw[gv this];rfl
 ·rw[f7 hs]at h;simp at h
theorem jff{q:Q6}(h1:Dig q.t1)(h2:Dig q.q1)(h3:Dig q.t2)(h4:Dig q.q2)(h:xt q=true):∃u v,q=Q6.rat u v∧zoe u∧zoe v:=by
 unfold xt qli at h;rw[ig]at h;obtain⟨u,hu,a1,a2,a3⟩:=zee h1 h2 h.1;obtain⟨v,hv,b1,b2,b3⟩:=zee h3 h4 h.2;refine⟨u,v,?_,hu,hv⟩;cases q
 simp only[Q6.rat]at *
 rw[a1,a2,a3,b1,b2,b3]
theorem zof{q:Q6}{w:World}{o1 o2 o3 o4:Option Addr}{c1 c2 c3 c4:Nat}(h:Nm w q o1 c1 o2 c2 o3 c3 o4 c4):xt q=false∨∃u v,q=Q6.rat u v∧zoe u∧zoe v:=by
 cases hs:xt q with
 | false => exact .inl rfl
 | true => exact .inr (jff h.s1.rd.dig h.s2.rd.dig h.s3.rd.dig h.s4.rd.dig hs)
section
variable {P:Program} {t:TypeId} {x y:Operand} {a b:ByteArray}
theorem je(hu:P.underlying t=some .string):∀w,(do eqGuard .eql t x y (.string a) (.string b); binOp .eql t (.string a) (.string b):Sem Value).run P w=.ok (bV (a.toList==b.toList)) w:=fun w=>by
 simp[go_sem,hu,run_underlying hu]
end
def qma(l:List (Nat×Value))(ops:List Oper)(o:Oper):Bool:=
 match o.guard with
 | none => false
 | some (j, b) => match ops[j]? with
  | some oj => match oj.dst with
   | some d => match vf l d with
    | some (.bool _) => false
    | some _ => true
    | none => false
   | none => false
  | none => false
section
variable {P:Program} {ops:List Oper} {Q:Exit→Act→World→Prop} {a:Act} {w w':World} {n:Nat} {l:List (Nat×Value)} {o:Oper} {v:Value} {rest:List Oper}
theorem Sl.unwantedU(h:Sl a n l)(hp:qma l ops o=true):Region.wanted o (yielded ops.toArray a.tmps)=false:=by
 unfold Region.wanted;unfold qma at hp
 split at hp
 ·cases hp
 ·rename_i j b hg;rw[hg]
  split at hp
  ·rename_i oj hj
   split at hp
   ·rename_i d hd
    split at hp
    ·cases hp
    ·rename_i v' hb hv;have:=h.holds d _ hv;cases v'<;>first|(exact absurd rfl (hb _))|simp[yielded,hj,hd,this]
    ·cases hp
   ·cases hp
  ·cases hp
theorem qbh(A:Sl a n l)(hg:qma l ops o=true){d:Nat}(hdst:o.dst=some d)(hd:Nat.blt d n=true)
  (hk:∀a',Sl a' n ((d,undef)::l)→wpList P ops.toArray Q rest a' w):wpList P ops.toArray Q (o::rest) a w:=by
 unfold wpList;rw[A.unwantedU hg,f7 (by simp),hdst];exact hk _ (A.put hd undef)
end




theorem kn{w:World}{ao:Option Addr}{l:List Nat}(cap:Nat)(h:Rd w ao l)(hl:l.length≤9223372036854775807){r:Bool}(hr:sound l=r):
  Calls Tryz.prog 223 #[.slice ao l.length cap] w fun e w'=>e=.returned (bV r)∧w'=w:=by
 subst hr;exact rsound_any cap h hl
theorem xa{w:World}{ao bo:Option Addr}{l1 l2:List Nat}(ca cb:Nat)(ha:Rd w ao l1)(hb:Rd w bo l2)(h1:l1.length≤9223372036854775807)(h2:l2.length≤9223372036854775807){r:Bool}(hr:decide (l1=l2)=r):
  Calls Tryz.prog 122 #[.slice ao l1.length ca,.slice bo l2.length cb] w fun e w'=>e=.returned (bV r)∧Below w.heap.size w w':=by
 subst hr;exact qqh ca cb ha hb h1 h2
theorem zgf{b:Bool}{t q:List Nat}(h:(sound t&&sound q)=false):qcg b t q=false:=by
 unfold qcg zda;rw[f7 (by rw[h]; simp)];simp
theorem BiC_is1_22: Is1 Tryz.prog 22:=⟨⟨_,im,rfl⟩,by kernel_rfl⟩
theorem BiC_is1_4: Is1 Tryz.prog 4:=⟨⟨_,lf,rfl⟩,by kernel_rfl⟩
theorem BiC_fld_24_0: FieldAt Tryz.prog 24 0 0:=⟨_,_,iv,rfl,rfl,by kernel_rfl⟩
theorem BiC_fld_24_1: FieldAt Tryz.prog 24 1 1:=⟨_,_,iv,rfl,rfl,by kernel_rfl⟩
theorem BiC_fld_24_2: FieldAt Tryz.prog 24 2 2:=⟨_,_,iv,rfl,rfl,by kernel_rfl⟩
theorem BiC_fld_26_0: FieldAt Tryz.prog 26 0 0:=⟨_,_,j7,rfl,rfl,by kernel_rfl⟩
theorem BiC_fld_26_1: FieldAt Tryz.prog 26 1 3:=⟨_,_,j7,rfl,rfl,by kernel_rfl⟩
theorem BiC_isS_24: IsS Tryz.prog 24 3:=⟨⟨_,iv⟩,by kernel_rfl⟩
theorem zdf{w:World}{b:Bool}{x y:Nat}{a1 a2:Option Addr}{ac1 ac2:Nat}(ha1:Sc w a1 ac1 (words x))(ha2:Sc w a2 ac2 (words y))(hx:(words x).length≤512)(hy:(words y).length≤512){r:Bool}(hr:qcg b (words x) (words y)=r):
  Calls Tryz.prog 171 #[.agg #[bV b,.slice a1 (words x).length ac1,.slice a2 (words y).length ac2]] w fun e w'=>e=.returned (bV r)∧Below w.heap.size w w':=by
 have hg9:(words (Nat.gcd x y)).length≤9223372036854775807:=by
  by_cases h:x=0
  ·subst h; rw[Nat.gcd_zero_left]; omega
  ·have:=words_mono (Nat.gcd_le_left y (Nat.pos_of_ne_zero h)); omega
 cases b
 ·have S:St w w [] [(a2,words y),(a1,words x)] []:=((St.start w).addR ha1.rd).addR ha2.rd;refine wof Tryz.func171 Tryz.ntmps171 fun Q hret hnorm hP a A=>?_;refine wsr fun K1 au=>jy A S rfl rfl rfl pg (qx rfl rfl) rfl ?_;intro g2 w3 S a A;refine sda A λA=>?_;refine qa (au _ _ (wsk fun K4 av=>wsr fun K5 ap=>sdf A 1 BiC_fld_24_1 λA=>?_));refine sdo A (qw S BiC_is1_22 rfl 0 rfl rfl) λA=>?_;refine sct A ec (kn _ (S.rd 1 rfl) (by omega) (vk hx)) ?_;rintro _ w7 ⟨rfl,aj⟩;replace aj:=vj aj;replace S:=S.call aj;refine⟨_,rfl,?_⟩;intro a A;refine sdu A λA=>?_;refine sdm A λA=>?_;refine sdf A 2 BiC_fld_24_2 λA=>?_;refine sdo A (qw S BiC_is1_22 rfl 0 rfl rfl) λA=>?_;refine sct A ec (kn _ (S.rd 0 rfl) (by omega) (vk hy)) ?_;rintro _ w9 ⟨rfl,ak⟩;replace ak:=vj ak;replace S:=S.call ak;refine⟨_,rfl,?_⟩;intro a A;refine sdu A λA=>?_;refine sdk (v:=bV false) A λA=>?_;refine sdm A λA=>?_;refine sdf A 2 BiC_fld_24_2 λA=>?_;refine sdo A (qw S BiC_is1_22 rfl 0 rfl rfl) λA=>?_;refine sdo A (qr im rfl) λA=>?_;rcases tf (((((words y).length:Nat):Int)==0))with aa|aa
  ·have aa':=gr aa;refine sdc A qe aa λA=>?_;refine sdk (v:=bV true) A λA=>?_;refine qct ap A ?_;refine wsr fun az am=>sda A λA=>?_;refine qr1 am hret A ?_;subst hr;have ey:decide ((words y).length=0)=true:=gv (by omega);exact⟨by rw[xz hx hy,ey]; simp,S.bel⟩
  ·have aa':=f6 aa;refine sdc A qe aa λA=>?_;refine sdk (v:=bV false) A λA=>?_;refine qcf ap A ?_;refine wp_skip (av _ _ (wsk fun bd ah=>wsr fun bf ag=>sdf A 1 BiC_fld_24_1 λA=>?_));refine sdo A (qw S BiC_is1_22 rfl 0 rfl rfl) λA=>?_;refine sdo A (qr im rfl) λA=>?_;rcases tf (((((words x).length:Nat):Int)==0))with ab|ab
   ·have ab':=gr ab;refine sdc A qe ab λA=>?_;refine sdm A λA=>?_;refine sdf A 0 BiC_fld_24_0 λA=>?_;refine sdo A (qw S BiC_is1_4 rfl 0 rfl rfl) λA=>?_;refine sdk (v:=bV false) A λA=>?_;refine qcf ag A ?_;refine wp_skip (ah _ _ (wsr fun bg ai=>sdf A 1 BiC_fld_24_1 λA=>?_));refine sdo A (qw S BiC_is1_22 rfl 0 rfl rfl) λA=>?_;refine sdf A 2 BiC_fld_24_2 λA=>?_;refine sdo A (qw S BiC_is1_22 rfl 0 rfl rfl) λA=>?_;refine sct A ec (qhd ac1 ac2 (S.rd 1 rfl) (S.rd 0 rfl) (by omega) (by omega) ha1.cap ha2.cap ha1.nil ha2.nil) ?_;rintro _ _ ⟨ro16,rc17,rfl,ho18,aw⟩;replace S:=S.call aw;replace S:=S.addR ho18.rd;refine⟨_,rfl,?_⟩;intro a A;refine yq (us:=[1]) (t:=144) (m:=1) A S rfl rfl rfl (qg rfl (by kernel_rfl)) (by simp[Dig]) ?_;intro g21 _ S a A;rcases tf (decide (words (Nat.gcd x y)=[1]))with ae|ae
    ·have ae':=f5 ae;refine vcl A S ec (xa _ _ (S.rd 1 rfl) (S.rd 0 rfl) (by first|assumption|exact hg9|decide) (by first|assumption|decide) ae) fun _ ac S a A=>?_;refine sda A λA=>?_;refine qr1 ai hret A ?_;subst hr;have ey:decide ((words y).length=0)=false:=gn (by omega);have ex:decide ((words x).length=0)=true:=gv (by omega);exact⟨by rw[xz hx hy,ey,ex,ae]; simp,S.bel⟩
    ·have ae':=fy ae;refine vcl A S ec (xa _ _ (S.rd 1 rfl) (S.rd 0 rfl) (by first|assumption|exact hg9|decide) (by first|assumption|decide) ae) fun _ _ S a A=>?_;refine sda A λA=>?_;refine qr1 ai hret A ?_;subst hr;have ey:decide ((words y).length=0)=false:=gn (by omega);have ex:decide ((words x).length=0)=true:=gv (by omega);exact⟨by rw[xz hx hy,ey,ex,ae]; simp,S.bel⟩
   ·have ab':=f6 ab;refine sdc A qe ab λA=>?_;refine sdm A λA=>?_;iterate 2 refine sks A λA=>?_
    refine sdk (v:=bV false) A λA=>?_;refine qcf ag A ?_;refine wp_skip (ah _ _ (wsr fun _ aq=>sdf A 1 BiC_fld_24_1 λA=>?_));refine sdo A (qw S BiC_is1_22 rfl 0 rfl rfl) λA=>?_;refine sdf A 2 BiC_fld_24_2 λA=>?_;refine sdo A (qw S BiC_is1_22 rfl 0 rfl rfl) λA=>?_;refine sct A ec (qhd ac1 ac2 (S.rd 1 rfl) (S.rd 0 rfl) (by omega) (by omega) ha1.cap ha2.cap ha1.nil ha2.nil) ?_;rintro _ _ ⟨ro29,rc30,rfl,ho31,ax⟩;replace S:=S.call ax;replace S:=S.addR ho31.rd;refine⟨_,rfl,?_⟩;intro a A;refine yq (us:=[1]) (t:=144) (m:=1) A S rfl rfl rfl (qg rfl (by kernel_rfl)) (by simp[Dig]) ?_;intro g34 _ S a A;rcases tf (decide (words (Nat.gcd x y)=[1]))with af|af
    ·have af':=f5 af;refine vcl A S ec (xa _ _ (S.rd 1 rfl) (S.rd 0 rfl) (by first|assumption|exact hg9|decide) (by first|assumption|decide) af) fun _ _ S a A=>?_;refine sda A λA=>?_;refine qr1 aq hret A ?_;subst hr;have ey:decide ((words y).length=0)=false:=gn (by omega);have ex:decide ((words x).length=0)=false:=gn (by omega);exact⟨by rw[xz hx hy,ey,ex,af]; simp,S.bel⟩
    ·have af':=fy af;refine vcl A S ec (xa _ _ (S.rd 1 rfl) (S.rd 0 rfl) (by first|assumption|exact hg9|decide) (by first|assumption|decide) af) fun _ _ S a A=>?_;refine sda A λA=>?_;refine qr1 aq hret A ?_;subst hr;have ey:decide ((words y).length=0)=false:=gn (by omega);have ex:decide ((words x).length=0)=false:=gn (by omega);exact⟨by rw[xz hx hy,ey,ex,af]; simp,S.bel⟩
 ·have S:St w w [] [(a2,words y),(a1,words x)] []:=((St.start w).addR ha1.rd).addR ha2.rd;refine wof Tryz.func171 Tryz.ntmps171 fun Q hret hnorm hP a A=>?_;refine wsr fun K1 au=>jy A S rfl rfl rfl pg (qx rfl rfl) rfl ?_;intro g2 w3 S a A;refine sda A λA=>?_;refine qa (au _ _ (wsk fun K4 av=>wsr fun K5 ap=>sdf A 1 BiC_fld_24_1 λA=>?_));refine sdo A (qw S BiC_is1_22 rfl 0 rfl rfl) λA=>?_;refine sct A ec (kn _ (S.rd 1 rfl) (by omega) (vk hx)) ?_;rintro _ w7 ⟨rfl,aj⟩;replace aj:=vj aj;replace S:=S.call aj;refine⟨_,rfl,?_⟩;intro a A;refine sdu A λA=>?_;refine sdm A λA=>?_;refine sdf A 2 BiC_fld_24_2 λA=>?_;refine sdo A (qw S BiC_is1_22 rfl 0 rfl rfl) λA=>?_;refine sct A ec (kn _ (S.rd 0 rfl) (by omega) (vk hy)) ?_;rintro _ w9 ⟨rfl,ak⟩;replace ak:=vj ak;replace S:=S.call ak;refine⟨_,rfl,?_⟩;intro a A;refine sdu A λA=>?_;refine sdk (v:=bV false) A λA=>?_;refine sdm A λA=>?_;refine sdf A 2 BiC_fld_24_2 λA=>?_;refine sdo A (qw S BiC_is1_22 rfl 0 rfl rfl) λA=>?_;refine sdo A (qr im rfl) λA=>?_;rcases tf (((((words y).length:Nat):Int)==0))with aa|aa
  ·have aa':=gr aa;refine sdc A qe aa λA=>?_;refine sdk (v:=bV true) A λA=>?_;refine qct ap A ?_;refine wsr fun az am=>sda A λA=>?_;refine qr1 am hret A ?_;subst hr;have ey:decide ((words y).length=0)=true:=gv (by omega);exact⟨by rw[xz hx hy,ey]; simp,S.bel⟩
  ·have aa':=f6 aa;refine sdc A qe aa λA=>?_;refine sdk (v:=bV false) A λA=>?_;refine qcf ap A ?_;refine wp_skip (av _ _ (wsk fun bd ah=>wsr fun bf ag=>sdf A 1 BiC_fld_24_1 λA=>?_));refine sdo A (qw S BiC_is1_22 rfl 0 rfl rfl) λA=>?_;refine sdo A (qr im rfl) λA=>?_;rcases tf (((((words x).length:Nat):Int)==0))with ab|ab
   ·have ab':=gr ab;refine sdc A qe ab λA=>?_;refine sdm A λA=>?_;refine sdf A 0 BiC_fld_24_0 λA=>?_;refine sdo A (qw S BiC_is1_4 rfl 0 rfl rfl) λA=>?_;refine sdk (v:=bV true) A λA=>?_;refine qct ag A ?_;refine wsr fun bg ai=>sda A λA=>?_;refine qr1 ai hret A ?_;subst hr;have ey:decide ((words y).length=0)=false:=gn (by omega);have ex:decide ((words x).length=0)=true:=gv (by omega);exact⟨by rw[xz hx hy,ey,ex]; simp,S.bel⟩
   ·have ab':=f6 ab;refine sdc A qe ab λA=>?_;refine sdm A λA=>?_;iterate 2 refine sks A λA=>?_
    refine sdk (v:=bV false) A λA=>?_;refine qcf ag A ?_;refine wp_skip (ah _ _ (wsr fun _ ar=>sdf A 1 BiC_fld_24_1 λA=>?_));refine sdo A (qw S BiC_is1_22 rfl 0 rfl rfl) λA=>?_;refine sdf A 2 BiC_fld_24_2 λA=>?_;refine sdo A (qw S BiC_is1_22 rfl 0 rfl rfl) λA=>?_;refine sct A ec (qhd ac1 ac2 (S.rd 1 rfl) (S.rd 0 rfl) (by omega) (by omega) ha1.cap ha2.cap ha1.nil ha2.nil) ?_;rintro _ _ ⟨ro17,rc18,rfl,ho19,ay⟩;replace S:=S.call ay;replace S:=S.addR ho19.rd;refine⟨_,rfl,?_⟩;intro a A;refine yq (us:=[1]) (t:=144) (m:=1) A S rfl rfl rfl (qg rfl (by kernel_rfl)) (by simp[Dig]) ?_;intro g22 _ S a A;rcases tf (decide (words (Nat.gcd x y)=[1]))with ac|ac
    ·have ac':=f5 ac;refine vcl A S ec (xa _ _ (S.rd 1 rfl) (S.rd 0 rfl) (by first|assumption|exact hg9|decide) (by first|assumption|decide) ac) fun _ _ S a A=>?_;refine sda A λA=>?_;refine qr1 ar hret A ?_;subst hr;have ey:decide ((words y).length=0)=false:=gn (by omega);have ex:decide ((words x).length=0)=false:=gn (by omega);exact⟨by rw[xz hx hy,ey,ex,ac]; simp,S.bel⟩
    ·have ac':=fy ac;refine vcl A S ec (xa _ _ (S.rd 1 rfl) (S.rd 0 rfl) (by first|assumption|exact hg9|decide) (by first|assumption|decide) ac) fun _ _ S a A=>?_;refine sda A λA=>?_;refine qr1 ar hret A ?_;subst hr;have ey:decide ((words y).length=0)=false:=gn (by omega);have ex:decide ((words x).length=0)=false:=gn (by omega);exact⟨by rw[xz hx hy,ey,ex,ac]; simp,S.bel⟩
theorem zdg{w:World}{b:Bool}{t q:List Nat}{a1 a2:Option Addr}{ac1 ac2:Nat}(ha1:Sc w a1 ac1 t)(ha2:Sc w a2 ac2 q)(l1:t.length≤9223372036854775807)(l2:q.length≤9223372036854775807)(ht:sound t=false):
  Calls Tryz.prog 171 #[.agg #[bV b,.slice a1 t.length ac1,.slice a2 q.length ac2]] w fun e w'=>e=.returned (bV false)∧Below w.heap.size w w':=by
 have S:St w w [] [(a2,q),(a1,t)] []:=((St.start w).addR ha1.rd).addR ha2.rd;refine wof Tryz.func171 Tryz.ntmps171 fun Q hret hnorm hP a A=>?_;refine wsr fun _ ab=>jy A S rfl rfl rfl pg (qx rfl rfl) rfl ?_;intro g2 _ S a A;refine sda A λA=>?_;refine qa (ab _ _ (wsk fun K4 _=>wsr fun _ ac=>sdf A 1 BiC_fld_24_1 λA=>?_));refine sdo A (qw S BiC_is1_22 rfl 0 rfl rfl) λA=>?_;refine sct A ec (kn _ (S.rd 1 rfl) l1 ht) ?_;rintro _ _ ⟨rfl,aa⟩;replace aa:=vj aa;replace S:=S.call aa;refine⟨_,rfl,?_⟩;intro a A;refine sdu A λA=>?_;refine sdm A λA=>?_;iterate 4 refine sks A λA=>?_
 refine sdk (v:=bV true) A λA=>?_;refine sdm A λA=>?_;iterate 4 refine sks A λA=>?_
 refine sdk (v:=bV true) A λA=>?_;refine qct ac A ?_;refine wsr fun _ ae=>sda A λA=>?_;refine qr1 ae hret A ?_;exact⟨rfl,S.bel⟩
theorem zdh{w:World}{b:Bool}{t q:List Nat}{a1 a2:Option Addr}{ac1 ac2:Nat}(ha1:Sc w a1 ac1 t)(ha2:Sc w a2 ac2 q)(l1:t.length≤9223372036854775807)(l2:q.length≤9223372036854775807)(ht:sound t=true)(hq:sound q=false):
  Calls Tryz.prog 171 #[.agg #[bV b,.slice a1 t.length ac1,.slice a2 q.length ac2]] w fun e w'=>e=.returned (bV false)∧Below w.heap.size w w':=by
 have S:St w w [] [(a2,q),(a1,t)] []:=((St.start w).addR ha1.rd).addR ha2.rd;refine wof Tryz.func171 Tryz.ntmps171 fun Q hret hnorm hP a A=>?_;refine wsr fun _ ae=>jy A S rfl rfl rfl pg (qx rfl rfl) rfl ?_;intro g2 _ S a A;refine sda A λA=>?_;refine qa (ae _ _ (wsk fun K4 _=>wsr fun _ af=>sdf A 1 BiC_fld_24_1 λA=>?_));refine sdo A (qw S BiC_is1_22 rfl 0 rfl rfl) λA=>?_;refine sct A ec (kn _ (S.rd 1 rfl) l1 ht) ?_;rintro _ _ ⟨rfl,aa⟩;replace aa:=vj aa;replace S:=S.call aa;refine⟨_,rfl,?_⟩;intro a A;refine sdu A λA=>?_;refine sdm A λA=>?_;refine sdf A 2 BiC_fld_24_2 λA=>?_;refine sdo A (qw S BiC_is1_22 rfl 0 rfl rfl) λA=>?_;refine sct A ec (kn _ (S.rd 0 rfl) l2 hq) ?_;rintro _ _ ⟨rfl,ab⟩;replace ab:=vj ab;replace S:=S.call ab;refine⟨_,rfl,?_⟩;intro a A;refine sdu A λA=>?_;refine sdk (v:=bV true) A λA=>?_;refine sdm A λA=>?_;iterate 4 refine sks A λA=>?_
 refine sdk (v:=bV true) A λA=>?_;refine qct af A ?_;refine wsr fun _ ac=>sda A λA=>?_;refine qr1 ac hret A ?_;exact⟨rfl,S.bel⟩
theorem qbe{w:World}{b:Bool}{t q:List Nat}{a1 a2:Option Addr}{ac1 ac2:Nat}(ha1:Sc w a1 ac1 t)(ha2:Sc w a2 ac2 q)(l1:t.length≤9223372036854775807)(l2:q.length≤9223372036854775807){r:Bool}(hr:qcg b t q=r):
  Calls Tryz.prog 171 #[.agg #[bV b,.slice a1 t.length ac1,.slice a2 q.length ac2]] w fun e w'=>e=.returned (bV r)∧Below w.heap.size w w':=by
 cases ht:sound t with
 | false =>
  rw[zgf (by rw[ht]; rfl)]at hr;subst hr;exact zdg ha1 ha2 l1 l2 ht
 | true =>
  cases hq:sound q with
  | false =>
   rw[zgf (by rw[ht,hq]; rfl)]at hr;subst hr;exact zdh ha1 ha2 l1 l2 ht hq
  | true =>
   obtain⟨e1,k1⟩:=sound_words ha1.rd.dig ht;obtain⟨e2,k2⟩:=sound_words ha2.rd.dig hq;generalize val t=x at e1;generalize val q=y at e2;subst e1 e2;exact zdf ha1 ha2 k1 k2 hr
theorem qjb{w:World}{q:Q6}{a1 a2 a3 a4:Option Addr}{ac1 ac2 ac3 ac4:Nat}(ha:Nm w q a1 ac1 a2 ac2 a3 ac3 a4 ac4)(hl:LenQ q){r:Bool}(hr:xt q=r):Calls Tryz.prog 120 #[zic q a1 ac1 a2 ac2 a3 ac3 a4 ac4] w fun e w'=>e=.returned (bV r)∧Below w.heap.size w w':=by
 have S:St w w [] [(a4,q.q2),(a3,q.t2),(a2,q.q1),(a1,q.t1)] []:=((((St.start w).addR ha.s1.rd).addR ha.s2.rd).addR ha.s3.rd).addR ha.s4.rd;refine wof Tryz.func120 Tryz.ntmps120 fun Q hret hnorm hP a A=>?_;refine wsr fun _ ae=>jy A S rfl rfl rfl pg (qx rfl rfl) rfl ?_;intro g2 _ S a A;refine sda A λA=>?_;refine qa (ae _ _ (wsr fun K4 ac=>sdf A 0 BiC_fld_26_0 λA=>?_));refine sdo A (zl S BiC_isS_24 rfl 0 rfl (cs:=[bV q.b1,.slice a1 q.t1.length ac1,.slice a2 q.q1.length ac2]) rfl rfl) λA=>?_;rcases tf (qcg q.b1 q.t1 q.q1)with aa|aa
 ·refine vcl A S ec (qbe ⟨(S.rd 3 rfl),ha.s1.nil,ha.s1.cap⟩ ⟨(S.rd 2 rfl),ha.s2.nil,ha.s2.cap⟩ hl.l1 hl.l2 aa) fun _ _ S a A=>?_;refine sdm A λA=>?_;refine sdf A 3 BiC_fld_26_1 λA=>?_;refine sdo A (zl S BiC_isS_24 rfl 0 rfl (cs:=[bV q.b2,.slice a3 q.t2.length ac3,.slice a4 q.q2.length ac4]) rfl rfl) λA=>?_;rcases tf (qcg q.b2 q.t2 q.q2)with ab|ab
  ·refine vcl A S ec (qbe ⟨(S.rd 1 rfl),ha.s3.nil,ha.s3.cap⟩ ⟨(S.rd 0 rfl),ha.s4.nil,ha.s4.cap⟩ hl.l3 hl.l4 ab) fun _ _ S a A=>?_;refine sdk (v:=bV true) A λA=>?_;refine sda A λA=>?_;refine qr1 ac hret A ?_;subst hr;exact⟨by unfold xt qli; rw[aa,ab]; try rfl,S.bel⟩
  ·refine vcl A S ec (qbe ⟨(S.rd 1 rfl),ha.s3.nil,ha.s3.cap⟩ ⟨(S.rd 0 rfl),ha.s4.nil,ha.s4.cap⟩ hl.l3 hl.l4 ab) fun _ _ S a A=>?_;refine sdk (v:=bV false) A λA=>?_;refine sda A λA=>?_;refine qr1 ac hret A ?_;subst hr;exact⟨by unfold xt qli; rw[aa,ab]; try rfl,S.bel⟩
 ·refine vcl A S ec (qbe ⟨(S.rd 3 rfl),ha.s1.nil,ha.s1.cap⟩ ⟨(S.rd 2 rfl),ha.s2.nil,ha.s2.cap⟩ hl.l1 hl.l2 aa) fun _ _ S a A=>?_;refine sdm A λA=>?_;iterate 3 refine sks A λA=>?_
  refine sdk (v:=bV false) A λA=>?_;refine sda A λA=>?_;refine qr1 ac hret A ?_;subst hr;exact⟨by unfold xt qli; rw[aa]; try rfl,S.bel⟩
theorem qzj{w:World}{q:Q6}{a1 a2 a3 a4:Option Addr}{ac1 ac2 ac3 ac4:Nat}(ha:Nm w q a1 ac1 a2 ac2 a3 ac3 a4 ac4)(hl:LenQ q){r:Bool}(hr:decide (q.t2.length=0)=r):Calls Tryz.prog 121 #[zic q a1 ac1 a2 ac2 a3 ac3 a4 ac4] w fun e w'=>e=.returned (bV r)∧Below w.heap.size w w':=by
 have S:St w w [] [(a4,q.q2),(a3,q.t2),(a2,q.q1),(a1,q.t1)] []:=((((St.start w).addR ha.s1.rd).addR ha.s2.rd).addR ha.s3.rd).addR ha.s4.rd;refine wof Tryz.func121 Tryz.ntmps121 fun Q hret hnorm hP a A=>?_;refine wsr fun _ ac=>jy A S rfl rfl rfl pg (qx rfl rfl) rfl ?_;intro g2 _ S a A;refine sda A λA=>?_;refine qa (ac _ _ (wsr fun K4 ab=>sdf A 3 BiC_fld_26_1 λA=>?_));refine sdf A 4 BiC_fld_24_1 λA=>?_;refine sdo A (qw S BiC_is1_22 rfl 0 rfl rfl) λA=>?_;refine sdo A (qr im rfl) λA=>?_;rcases tf ((((q.t2.length:Nat):Int)==0))with aa|aa
 ·have aa':=gr aa;refine sdc A qe aa λA=>?_;refine sda A λA=>?_;refine qr1 ab hret A ?_;subst hr;exact⟨by rw[show decide (q.t2.length=0)=true from gv (by omega)],S.bel⟩
 ·have aa':=f6 aa;refine sdc A qe aa λA=>?_;refine sda A λA=>?_;refine qr1 ab hret A ?_;subst hr;exact⟨by rw[show decide (q.t2.length=0)=false from gn (by omega)],S.bel⟩
theorem BiD_is1_22: Is1 Tryz.prog 22:=⟨⟨_,im,rfl⟩,by kernel_rfl⟩
theorem BiD_is1_4: Is1 Tryz.prog 4:=⟨⟨_,lf,rfl⟩,by kernel_rfl⟩
theorem BiD_fld_24_0: FieldAt Tryz.prog 24 0 0:=⟨_,_,iv,rfl,rfl,by kernel_rfl⟩
theorem BiD_fld_24_1: FieldAt Tryz.prog 24 1 1:=⟨_,_,iv,rfl,rfl,by kernel_rfl⟩
theorem BiD_fld_24_2: FieldAt Tryz.prog 24 2 2:=⟨_,_,iv,rfl,rfl,by kernel_rfl⟩
theorem BiD_isS_24: IsS Tryz.prog 24 3:=⟨⟨_,iv⟩,by kernel_rfl⟩
theorem zaa{w:World}{b:Bool}{n1 n2:Nat}{a1 a2:Option Addr}{ac1 ac2:Nat}{r:Bool}(hr:(!b&&decide (0<n1))=r):Calls Tryz.prog 151 #[.agg #[bV b,.slice a1 n1 ac1,.slice a2 n2 ac2]] w fun e w'=>e=.returned (.agg #[bV r,.slice a1 n1 ac1,.slice a2 n2 ac2])∧Below w.heap.size w w':=by
 cases b
 ·have S:St w w [] [] []:=St.start w;refine wof Tryz.func151 Tryz.ntmps151 fun Q hret hnorm hP a A=>?_;refine wsr fun K1 ac=>jy A S rfl rfl rfl pg (qx rfl rfl) rfl ?_;intro g2 w3 S a A;refine jy (vs:=[bV false,.slice none 0 0,.slice none 0 0]) (t:=24) A S rfl rfl rfl pg (qm (z:=.agg #[bV false,.slice none 0 0,.slice none 0 0]) (by kernel_rfl) rfl) rfl ?_;intro g4 w5 S a A;refine qa (ac _ _ (wsr fun K6 ab=>sdf A 0 BiD_fld_24_0 λA=>?_));refine sdo A (qw S BiD_is1_4 rfl 1 rfl rfl) λA=>?_;refine sdu A λA=>?_;refine sdm A λA=>?_;refine sdf A 1 BiD_fld_24_1 λA=>?_;refine sdo A (qw S BiD_is1_22 rfl 1 rfl rfl) λA=>?_;refine sdo A (qr im rfl) λA=>?_;rcases tf (decide (0<((n1:Nat):Int)))with aa|aa
  ·have aa':=f5 aa;refine sdc A jh aa λA=>?_;refine sdk (v:=bV true) A λA=>?_;refine sdf A 1 BiD_fld_24_1 λA=>?_;refine sdo A (qw S BiD_is1_22 rfl 1 rfl rfl) λA=>?_;refine sdf A 2 BiD_fld_24_2 λA=>?_;refine sdo A (qw S BiD_is1_22 rfl 1 rfl rfl) λA=>?_;refine sdo (v:=.agg #[bV true,.slice a1 n1 ac1,.slice a2 n2 ac2]) A (qn rfl (fun w=>by kernel_rfl)) λA=>?_;refine qee (us:=[bV true,.slice a1 n1 ac1,.slice a2 n2 ac2]) A S rfl rfl (qce rfl rfl rfl (by kernel_rfl) S 0 rfl rfl rfl) 0 rfl rfl rfl rfl ?_;intro _ S;refine qa (ab _ _ (wp_ret (hret _ _ (en1 A rfl (qwe S BiD_isS_24 rfl 0 rfl (cs:=[bV true,.slice a1 n1 ac1,.slice a2 n2 ac2]) rfl rfl) ?_))));subst hr;exact⟨by rw[show decide (0<n1)=true from gv (by omega)]; rfl,S.bel⟩
  ·have aa':=fy aa;refine sdc A jh aa λA=>?_;refine sdk (v:=bV false) A λA=>?_;refine sdf A 1 BiD_fld_24_1 λA=>?_;refine sdo A (qw S BiD_is1_22 rfl 1 rfl rfl) λA=>?_;refine sdf A 2 BiD_fld_24_2 λA=>?_;refine sdo A (qw S BiD_is1_22 rfl 1 rfl rfl) λA=>?_;refine sdo (v:=.agg #[bV false,.slice a1 n1 ac1,.slice a2 n2 ac2]) A (qn rfl (fun w=>by kernel_rfl)) λA=>?_;refine qee (us:=[bV false,.slice a1 n1 ac1,.slice a2 n2 ac2]) A S rfl rfl (qce rfl rfl rfl (by kernel_rfl) S 0 rfl rfl rfl) 0 rfl rfl rfl rfl ?_;intro _ S;refine qa (ab _ _ (wp_ret (hret _ _ (en1 A rfl (qwe S BiD_isS_24 rfl 0 rfl (cs:=[bV false,.slice a1 n1 ac1,.slice a2 n2 ac2]) rfl rfl) ?_))));subst hr;exact⟨by rw[show decide (0<n1)=false from gn (by omega)]; rfl,S.bel⟩
 ·have S:St w w [] [] []:=St.start w;refine wof Tryz.func151 Tryz.ntmps151 fun Q hret hnorm hP a A=>?_;refine wsr fun K1 ac=>jy A S rfl rfl rfl pg (qx rfl rfl) rfl ?_;intro g2 w3 S a A;refine jy (vs:=[bV false,.slice none 0 0,.slice none 0 0]) (t:=24) A S rfl rfl rfl pg (qm (z:=.agg #[bV false,.slice none 0 0,.slice none 0 0]) (by kernel_rfl) rfl) rfl ?_;intro g4 w5 S a A;refine qa (ac _ _ (wsr fun K6 ab=>sdf A 0 BiD_fld_24_0 λA=>?_));refine sdo A (qw S BiD_is1_4 rfl 1 rfl rfl) λA=>?_;refine sdu A λA=>?_;refine sdm A λA=>?_;iterate 4 refine sks A λA=>?_
  refine sdk (v:=bV false) A λA=>?_;refine sdf A 1 BiD_fld_24_1 λA=>?_;refine sdo A (qw S BiD_is1_22 rfl 1 rfl rfl) λA=>?_;refine sdf A 2 BiD_fld_24_2 λA=>?_;refine sdo A (qw S BiD_is1_22 rfl 1 rfl rfl) λA=>?_;refine sdo (v:=.agg #[bV false,.slice a1 n1 ac1,.slice a2 n2 ac2]) A (qn rfl (fun w=>by kernel_rfl)) λA=>?_;refine qee (us:=[bV false,.slice a1 n1 ac1,.slice a2 n2 ac2]) A S rfl rfl (qce rfl rfl rfl (by kernel_rfl) S 0 rfl rfl rfl) 0 rfl rfl rfl rfl ?_;intro _ S;refine qa (ab _ _ (wp_ret (hret _ _ (en1 A rfl (qwe S BiD_isS_24 rfl 0 rfl (cs:=[bV false,.slice a1 n1 ac1,.slice a2 n2 ac2]) rfl rfl) ?_))));subst hr;exact⟨rfl,S.bel⟩




section
variable {P:Program} {l:List (Nat×Value)} {dst:Option Tmp} {ty t:TypeId} {pos:String} {after:Array Edge} {guard:Option (Nat×Bool)} {w:World} {x y:Operand}
end

section
variable {fop:Nat→Nat→Nat} {fb:Bool→Bool→Bool} {b1 b2:Bool} {y1 y2:Nat}
end
section
variable {P:Program} {t:TypeId} {a b:Operand} {x y:Nat}
end





theorem BiK_is1_22: Is1 Tryz.prog 22:=⟨⟨_,im,rfl⟩,by kernel_rfl⟩
theorem BiK_is1_4: Is1 Tryz.prog 4:=⟨⟨_,lf,rfl⟩,by kernel_rfl⟩
theorem BiK_fld_24_0: FieldAt Tryz.prog 24 0 0:=⟨_,_,iv,rfl,rfl,by kernel_rfl⟩
theorem BiK_fld_24_1: FieldAt Tryz.prog 24 1 1:=⟨_,_,iv,rfl,rfl,by kernel_rfl⟩
theorem BiK_fld_24_2: FieldAt Tryz.prog 24 2 2:=⟨_,_,iv,rfl,rfl,by kernel_rfl⟩
theorem xf{w:World}{b b':Bool}{t q t' q':List Nat}{a1 a2:Option Addr}{ac1 ac2:Nat}(ha1:Sc w a1 ac1 t)(ha2:Sc w a2 ac2 q){u1 u2:Option Addr}{uc1 uc2:Nat}(hu1:Sc w u1 uc1 t')(hu2:Sc w u2 uc2 q')(l1:t.length≤9223372036854775807)(l2:q.length≤9223372036854775807)(l3:t'.length≤9223372036854775807)(l4:q'.length≤9223372036854775807){r:Bool}(hr:xn b t q b' t' q'=r):
  Calls Tryz.prog 87 #[.agg #[bV b,.slice a1 t.length ac1,.slice a2 q.length ac2],.agg #[bV b',.slice u1 t'.length uc1,.slice u2 q'.length uc2]] w fun e w'=>e=.returned (bV r)∧Below w.heap.size w w':=by
 have S:St w w [] [(u2,q'),(u1,t'),(a2,q),(a1,t)] []:=((((St.start w).addR ha1.rd).addR ha2.rd).addR hu1.rd).addR hu2.rd;refine wof Tryz.func87 Tryz.ntmps87 fun Q hret hnorm hP a A=>?_;refine wsr fun _ af=>jy A S rfl rfl rfl pg (qx rfl rfl) rfl ?_;intro g2 _ S a A;refine jy A S rfl rfl rfl pg (qx rfl rfl) rfl ?_;intro g4 _ S a A;refine sda A λA=>?_;refine qa (af _ _ (wsr fun _ ae=>sdf A 0 BiK_fld_24_0 λA=>?_));refine sdo A (qw S BiK_is1_4 rfl 1 rfl rfl) λA=>?_;refine sdf A 0 BiK_fld_24_0 λA=>?_;refine sdo A (qw S BiK_is1_4 rfl 0 rfl rfl) λA=>?_;rcases tf ((b==b'))with ab|ab
 ·have ab':=gr ab;refine sdo (v:=bV true) A (qb rfl rfl (fun w=>((znh lf) w).trans (by rw[ab]))) λA=>?_;refine sdm A λA=>?_;refine sdf A 1 BiK_fld_24_1 λA=>?_;refine sdo A (qw S BiK_is1_22 rfl 1 rfl rfl) λA=>?_;refine sdf A 1 BiK_fld_24_1 λA=>?_;refine sdo A (qw S BiK_is1_22 rfl 0 rfl rfl) λA=>?_;rcases tf (decide (t=t'))with ac|ac
  ·have ac':=f5 ac;refine vcl A S ec (xa _ _ (S.rd 3 rfl) (S.rd 1 rfl) l1 l3 ac) fun _ _ S a A=>?_;refine sdk (v:=bV true) A λA=>?_;refine sdm A λA=>?_;refine sdf A 2 BiK_fld_24_2 λA=>?_;refine sdo A (qw S BiK_is1_22 rfl 1 rfl rfl) λA=>?_;refine sdf A 2 BiK_fld_24_2 λA=>?_;refine sdo A (qw S BiK_is1_22 rfl 0 rfl rfl) λA=>?_;rcases tf (decide (q=q'))with aa|aa
   ·have aa':=f5 aa;refine vcl A S ec (xa _ _ (S.rd 2 rfl) (S.rd 0 rfl) l2 l4 aa) fun _ _ S a A=>?_;refine sdk (v:=bV true) A λA=>?_;refine sda A λA=>?_;refine qr1 ae hret A ?_;subst hr;exact⟨by unfold xn; rw[ab,ac,aa]; try rfl,S.bel⟩
   ·have aa':=fy aa;refine vcl A S ec (xa _ _ (S.rd 2 rfl) (S.rd 0 rfl) l2 l4 aa) fun _ _ S a A=>?_;refine sdk (v:=bV false) A λA=>?_;refine sda A λA=>?_;refine qr1 ae hret A ?_;subst hr;exact⟨by unfold xn; rw[ab,ac,aa]; try rfl,S.bel⟩
  ·have ac':=fy ac;refine vcl A S ec (xa _ _ (S.rd 3 rfl) (S.rd 1 rfl) l1 l3 ac) fun _ _ S a A=>?_;refine sdk (v:=bV false) A λA=>?_;refine sdm A λA=>?_;iterate 5 refine sks A λA=>?_
   refine sdk (v:=bV false) A λA=>?_;refine sda A λA=>?_;refine qr1 ae hret A ?_;subst hr;exact⟨by unfold xn; rw[ab,ac]; try rfl,S.bel⟩
 ·have ab':=f6 ab;refine sdo (v:=bV false) A (qb rfl rfl (fun w=>((znh lf) w).trans (by rw[ab]))) λA=>?_;refine sdm A λA=>?_;iterate 5 refine sks A λA=>?_
  refine sdk (v:=bV false) A λA=>?_;refine sdm A λA=>?_;iterate 5 refine sks A λA=>?_
  refine sdk (v:=bV false) A λA=>?_;refine sda A λA=>?_;refine qr1 ae hret A ?_;subst hr;exact⟨by unfold xn; rw[ab]; try rfl,S.bel⟩
def bsL(l:List UInt8):ByteArray:=⟨l.toArray⟩
theorem xie(s:ByteArray):bsL s.data.toList=s:=by unfold bsL; cases s; simp
theorem zbd(l:List UInt8):(bsL l).size=l.length:=by unfold bsL; simp[ByteArray.size]
theorem zzj(a b:List UInt8):bsL a++bsL b=bsL (a++b):=by
 apply ByteArray.ext;rw[ByteArray.data_append];simp[bsL]
def btL(l:List UInt8)(i:Nat):Nat:=(l.getD i 0).toNat
def xmd(r:Nat)(b:UInt8):Bool:=decide (dvn 36 b.toNat<r)
def nDg(r:Nat):List UInt8→Nat
 | [] => 0
 | b :: t => if xmd r b then nDg r t + 1 else 0
def xkj(l:List UInt8):Bool:=decide (btL l 0=43)||decide (btL l 0=45)
def xw(n:Int):Bool:=decide (n=2)||(decide (n=8)||(decide (n=10)||decide (n=16)))
def RadN(r:Nat):Prop:=r=2∨r=8∨r=10∨r=16
section
variable {P:Program} {l:List (Nat×Value)} {dst:Option Tmp} {ty t:TypeId} {pos:String} {after:Array Edge} {guard:Option (Nat×Bool)} {w:World} {x y z:Operand} {s:List UInt8}
variable {a b:List UInt8}
theorem ql(hm:a.length+b.length≤9223372036854775807):∀w,(do eqGuard .add t x y (.string (bsL a)) (.string (bsL b)); binOp .add t (.string (bsL a)) (.string (bsL b)):Sem Value).run P w=.ok (.string (bsL (a++b))) w:=fun w=>by
 rw[←zzj];have h1:(bsL a).size+(bsL b).size≤9223372036854775807:=by rw[zbd,zbd]; exact hm
 simp[go_sem];exact h1
end
theorem mv{P:Program}{w:World}{Q:Exit→Act→World→Prop}{a:Act}{n d:Nat}{l:List (Nat×Value)}{ops rest:List Oper}{x:Operand}{ty:TypeId}{pos:String}{after:Array Edge}{guard:Option (Nat×Bool)}{v:Value}(A:Sl a n l)(hg:zf l ops ⟨some d,.move x,ty,pos,after,guard⟩=true)(hd:Nat.blt d n=true)(hx:ev l x=some v)(hk:∀a',Sl a' n ((d,v)::l)→wpList P ops.toArray Q rest a' w):wpList P ops.toArray Q (⟨some d,.move x,ty,pos,after,guard⟩::rest) a w:=kh A hg rfl hd (zr hx) hk





theorem zme{w:World}{n:Int}{c:Bool}(hc:xw n=c):Calls Tryz.prog 278 #[iV n] w fun e w'=>e=.returned (bV c)∧Below w.heap.size w w':=by
 have S:St w w [] [] []:=St.start w;refine wof Tryz.func278 Tryz.ntmps278 fun Q hret hnorm hP a A=>?_;refine wsr fun _ aq=>sda A λA=>?_;refine qa (aq _ _ (wsk fun _ ar=>wsr fun _ au=>mv A rfl rfl rfl λa A=>?_));refine qa (au _ _ (wp_block (wsk fun K4 af=>wsr fun _ am=>?_)));rcases tf ((n==2))with ac|ac
 ·have ac':=gr ac;refine sdc A qe ac λA=>?_;refine sda A λA=>?_;refine qct am A ?_;refine wp_skip (af _ _ (ct A ?_));refine wsr fun _ av=>sda A λA=>?_;refine qr1 av hret A ?_;subst hc;exact⟨by rw[show xw n=true from by unfold xw; simp; omega],S.bel⟩
 ·have ac':=f6 ac;refine sdc A qe ac λA=>?_;refine sda A λA=>?_;refine qcf am A ?_;refine wsr fun _ ap=>?_;rcases tf ((n==8))with ae|ae
  ·have ae':=gr ae;refine sdc A qe ae λA=>?_;refine sda A λA=>?_;refine qct ap A ?_;refine wp_skip (af _ _ (ct A ?_));refine wsr fun _ ah=>sda A λA=>?_;refine qr1 ah hret A ?_;subst hc;exact⟨by rw[show xw n=true from by unfold xw; simp; omega],S.bel⟩
  ·have ae':=f6 ae;refine sdc A qe ae λA=>?_;refine sda A λA=>?_;refine qcf ap A ?_;refine wsr fun _ ag=>?_;rcases tf ((n==10))with aa|aa
   ·have aa':=gr aa;refine sdc A qe aa λA=>?_;refine sda A λA=>?_;refine qct ag A ?_;refine wp_skip (af _ _ (ct A ?_));refine wsr fun _ ai=>sda A λA=>?_;refine qr1 ai hret A ?_;subst hc;exact⟨by rw[show xw n=true from by unfold xw; simp; omega],S.bel⟩
   ·have aa':=f6 aa;refine sdc A qe aa λA=>?_;refine sda A λA=>?_;refine qcf ag A ?_;refine wrl ?_;rcases tf ((n==16))with ab|ab
    ·have ab':=gr ab;refine sdc A qe ab λA=>?_;refine sda A λA=>?_;refine qct af A ?_;refine wsr fun _ aj=>sda A λA=>?_;refine qr1 aj hret A ?_;subst hc;exact⟨by rw[show xw n=true from by unfold xw; simp; omega],S.bel⟩
    ·have ab':=f6 ab;refine sdc A qe ab λA=>?_;refine sda A λA=>?_;refine qcf af A ?_;refine wp_skip (ar _ _ (wsr fun _ ak=>sda A λA=>?_));refine qr1 ak hret A ?_;subst hc;exact⟨by rw[show xw n=false from by unfold xw; simp; omega],S.bel⟩
theorem zsg{w:World}{n:Int}{c:Bool}(hc:xw n=c):Calls Tryz.prog 149 #[iV n] w fun e w'=>e=.returned (bV c)∧Below w.heap.size w w':=by
 have S:St w w [] [] []:=St.start w;refine wof Tryz.func149 Tryz.ntmps149 fun Q hret hnorm hP a A=>?_;refine wsr fun _ ag=>sda A λA=>?_;refine qa (ag _ _ (wsr fun _ af=>mv A rfl rfl rfl λa A=>?_));rcases tf ((n==2))with aa|aa
 ·have aa':=gr aa;refine sdc A qe aa λA=>?_;refine sdm A λA=>?_;iterate 2 refine sks A λA=>?_
  refine sdk (v:=bV true) A λA=>?_;refine sdm A λA=>?_;iterate 2 refine sks A λA=>?_
  refine sdk (v:=bV true) A λA=>?_;refine sdm A λA=>?_;iterate 2 refine sks A λA=>?_
  refine sdk (v:=bV true) A λA=>?_;refine sda A λA=>?_;refine qr1 af hret A ?_;subst hc;exact⟨by rw[show xw n=true from by unfold xw; simp; omega],S.bel⟩
 ·have aa':=f6 aa;refine sdc A qe aa λA=>?_;iterate 2 refine sdm A λA=>?_
  rcases tf ((n==8))with ab|ab
  ·have ab':=gr ab;refine sdc A qe ab λA=>?_;refine sdk (v:=bV true) A λA=>?_;refine sdm A λA=>?_;iterate 2 refine sks A λA=>?_
   refine sdk (v:=bV true) A λA=>?_;refine sdm A λA=>?_;iterate 2 refine sks A λA=>?_
   refine sdk (v:=bV true) A λA=>?_;refine sda A λA=>?_;refine qr1 af hret A ?_;subst hc;exact⟨by rw[show xw n=true from by unfold xw; simp; omega],S.bel⟩
  ·have ab':=f6 ab;refine sdc A qe ab λA=>?_;refine sdk (v:=bV false) A λA=>?_;iterate 2 refine sdm A λA=>?_
   rcases tf ((n==10))with ac|ac
   ·have ac':=gr ac;refine sdc A qe ac λA=>?_;refine sdk (v:=bV true) A λA=>?_;refine sdm A λA=>?_;iterate 2 refine sks A λA=>?_
    refine sdk (v:=bV true) A λA=>?_;refine sda A λA=>?_;refine qr1 af hret A ?_;subst hc;exact⟨by rw[show xw n=true from by unfold xw; simp; omega],S.bel⟩
   ·have ac':=f6 ac;refine sdc A qe ac λA=>?_;refine sdk (v:=bV false) A λA=>?_;iterate 2 refine sdm A λA=>?_
    rcases tf ((n==16))with ae|ae
    ·have ae':=gr ae;refine sdc A qe ae λA=>?_;refine sdk (v:=bV true) A λA=>?_;refine sda A λA=>?_;refine qr1 af hret A ?_;subst hc;exact⟨by rw[show xw n=true from by unfold xw; simp; omega],S.bel⟩
    ·have ae':=f6 ae;refine sdc A qe ae λA=>?_;refine sdk (v:=bV false) A λA=>?_;refine sda A λA=>?_;refine qr1 af hret A ?_;subst hc;exact⟨by rw[show xw n=false from by unfold xw; simp; omega],S.bel⟩
def LenR(k:Nat)(r:Rat):Prop:=(words r.num.natAbs).length≤k∧(words r.den).length≤k
theorem LenR.mono{k m:Nat}{r:Rat}(h:LenR k r)(hk:k≤m):LenR m r:=⟨gz h.1 hk,gz h.2 hk⟩



theorem zbe{r:Nat}(hr:RadN r):xw ((r:Nat):Int)=true:=by rcases hr with h|h|h|h<;>subst h<;>decide
def pQ(r:Nat)(m:List UInt8):List UInt8:=m.drop (nDg r m)
def pS(r:Nat)(m:List UInt8):Bool:=decide (btL (pQ r m) 0=47)
def pB(r:Nat)(m:List UInt8):List UInt8:=(pQ r m).drop 1
def jsc(r:Nat)(m:List UInt8):Nat:=if pS r m then nDg r m+1+nDg r (pB r m)else nDg r m
def p0(l:List UInt8):Nat:=if xkj l then 1 else 0
def p1(r:Nat)(l:List UInt8):Nat:=p0 l+jsc r (l.drop (p0 l))

def tD(a:List Nat)(r:Nat):List UInt8:=(textS a (r:Int)).1.data.toList
def szL(r:Nat)(t q:List Nat):List UInt8:=tD t r++(if q=[1]then[]else 47::tD q r)
def zu(r:Nat)(b:Bool)(t q:List Nat):List UInt8:=(if b then[45]else[])++szL r t q
def imL(r:Nat)(b:Bool)(t q:List Nat):List UInt8:=(if b then[45]else[43])++(if t=[1]∧q=[1]then[]else szL r t q)
def jv(r:Nat)(q:Q6):List UInt8:=
 if q.t2.length=0 then zu r q.b1 q.t1 q.q1 else(if q.t1.length=0 then[]else zu r q.b1 q.t1 q.q1)++(imL r q.b2 q.t2 q.q2++[105])
theorem jsd(a:List Nat)(r:Nat):bsL (tD a r)=(textS a (r:Int)).1:=xie _
theorem jse(a:List Nat)(r:Nat):(tD a r).length=(textS a (r:Int)).1.size:=by rw[←jsd,zbd]
theorem zsi{r:Nat}(hr:2≤r):∀n x,x≤n→(digs r x).length≤bl x:=by
 intro n
 induction n with
 | zero =>
  intro x hx;have e:x=0:=by omega
  subst e;rw[digs_zero];simp
 | succ n ih =>
  intro x hx;by_cases h0:x=0
  ·subst h0; rw[digs_zero]; simp
  ·rw[digs_pos hr h0,fw];have h1:=ih (x / r) (by
    have:x / r<x:=Nat.div_lt_self (by omega) (by omega);omega)
   have h2:=xcd hr h0;omega
theorem qec{a:List Nat}{r:Nat}(hr:RadN r)(hd:Dig a):(tD a r).length≤16385:=by
 rw[jse];have h2:2≤r:=by rcases hr with h|h|h|h<;>omega
 have h36:r≤36:=by rcases hr with h|h|h|h<;>omega
 unfold textS;by_cases hs:sound a=true
 ·obtain⟨ea,na⟩:=sound_words hd hs;rw[hs,gv (show(2:Int)≤(r:Int)∧(r:Int)≤36 from by omega),Int.toNat_natCast];simp only[if_true]
  split
  ·decide
  ·show(txt r (val a)).size≤_;rw[zsh];have h3:=zsi h2 (val a) (val a) (gm _);have h4:bl (val a)≤32*a.length:=bl_le.2 (by rw[←pw_two]; exact words_length_iff.1 (by rw[←ea]; exact gm _));omega
 ·have hs:=lj.2 hs;rw[hs];show(0:Nat)≤16385;omega
theorem qse{r:Nat}(hr:RadN r){t q:List Nat}(ht:Dig t)(hq:Dig q):(szL r t q).length≤40000:=by
 have h1:=qec hr ht;have h2:=qec hr hq;unfold szL
 split
 ·simp only[gh]; omega
 ·simp only[fv,fw]; omega
open Go.ChangeShapes Go.WideShapes Go.ChangeAt Go.RowKit Go.Joins Go.Deep
section
variable {H:Type} {enc:TypeId×Value→H} {W:World}
theorem trod_bool{fuel:Nat}{v:Value}{x:DataW H×List MemPlace}(h:DataW.trod enc Tryz.prog W 0 (fun _=>true) true fuel 4 [v]=some x):∃b,v=.bool b:=by
  obtain⟨b,h,_⟩:=DataW.trod_bool lf h;exact⟨b,by simpa using h⟩
end

theorem RxI_is1_22: Is1 Tryz.prog 22:=⟨⟨_,im,rfl⟩,by kernel_rfl⟩
theorem RxI_is1_4: Is1 Tryz.prog 4:=⟨⟨_,lf,rfl⟩,by kernel_rfl⟩
theorem RxI_fld_24_0: FieldAt Tryz.prog 24 0 0:=⟨_,_,iv,rfl,rfl,by kernel_rfl⟩
theorem RxI_fld_24_1: FieldAt Tryz.prog 24 1 1:=⟨_,_,iv,rfl,rfl,by kernel_rfl⟩
theorem RxI_fld_24_2: FieldAt Tryz.prog 24 2 2:=⟨_,_,iv,rfl,rfl,by kernel_rfl⟩
theorem RxI_fld_26_0: FieldAt Tryz.prog 26 0 0:=⟨_,_,j7,rfl,rfl,by kernel_rfl⟩
theorem RxI_fld_26_1: FieldAt Tryz.prog 26 1 3:=⟨_,_,j7,rfl,rfl,by kernel_rfl⟩
theorem RxI_isS_24: IsS Tryz.prog 24 3:=⟨⟨_,iv⟩,by kernel_rfl⟩
theorem RxI_isS_26: IsS Tryz.prog 26 6:=⟨⟨_,j7⟩,by kernel_rfl⟩
def sgL(b:Bool):List UInt8:=if b then[45]else[43]
def unL(r:Nat)(t q:List Nat):List UInt8:=if t=[1]∧q=[1]then[]else szL r t q
theorem jtj(r:Nat)(b:Bool)(t q:List Nat):imL r b t q=sgL b++unL r t q:=rfl
theorem jfa(b:Bool):(sgL b).length=1:=by cases b<;>rfl
theorem jfb{r:Nat}(hr:RadN r){t q:List Nat}(ht:Dig t)(hq:Dig q):(unL r t q).length≤40000:=by
 unfold unL
 split
 ·simp
 ·exact qse hr ht hq
theorem qkj{r:Nat}(hr:RadN r){b:Bool}{t q:List Nat}(ht:Dig t)(hq:Dig q):(zu r b t q).length≤40001:=by
 have h:=qse hr ht hq;unfold zu;rw[fv];cases b<;>simp<;>omega
theorem zhb{w:World}{ao:Option Addr}{a:List Nat}{r:Nat}(ca:Nat)(ha:Rd w ao a)(la:a.length≤9223372036854775807)(hr:RadN r):Calls Tryz.prog 324 #[.slice ao a.length ca,iV ((r:Nat):Int)] w fun e w'=>e=.returned (.tuple #[.string (bsL (tD a r)),iV (textS a (r:Int)).2])∧Below w.heap.size w w':=by
 rw[jsd];exact text_any ca _ ha la (by omega) (by rcases hr with h|h|h|h<;>subst h<;>decide)
theorem qnh{w:World}{ao:Option Addr}{a:List Nat}{r:Nat}(ca:Nat)(ha:Sc w ao ca a)(la:a.length≤9223372036854775807)(hr:RadN r):Calls Tryz.prog 204 #[.slice ao a.length ca,iV ((r:Nat):Int)] w fun e w'=>e=.returned (.tuple #[.string (bsL (tD a r)),iV (textS a (r:Int)).2])∧Below w.heap.size w w':=by
 rw[jsd];exact jjd ca _ ha.rd la ha.cap ha.nil (by omega) (by rcases hr with h|h|h|h<;>subst h<;>decide)
theorem im1{r:Nat}{b:Bool}{t q:List Nat}(h:xn b t q false [1] [1]=true):imL r b t q=[43]:=by
 unfold xn at h;simp at h;obtain⟨rfl,rfl,rfl⟩:b=false∧t=[1]∧q=[1]:=by cases b<;>simp_all
 rfl
theorem im2{r:Nat}{b:Bool}{t q:List Nat}(h:xn b t q true [1] [1]=true):imL r b t q=[45]:=by
 unfold xn at h;simp at h;obtain⟨rfl,rfl,rfl⟩:b=true∧t=[1]∧q=[1]:=by cases b<;>simp_all
 rfl
theorem jua{b:Bool}{t q:List Nat}(h1:xn b t q false [1] [1]=false)(h2:xn b t q true [1] [1]=false):¬(t=[1]∧q=[1]):=by
 rintro⟨rfl,rfl⟩;cases b
 ·exact absurd h1 (by decide)
 ·exact absurd h2 (by decide)
theorem im3{r:Nat}{b:Bool}{t q:List Nat}(h1:xn b t q false [1] [1]=false)(h2:xn b t q true [1] [1]=false)(hb:b=true):imL r b t q=zu r b t q:=by
 unfold imL zu;rw[f7 (jua h1 h2),hb];rfl
theorem im4{r:Nat}{b:Bool}{t q:List Nat}(h1:xn b t q false [1] [1]=false)(h2:xn b t q true [1] [1]=false)(hb:b=false):imL r b t q=[43]++zu r b t q:=by
 unfold imL zu;rw[f7 (jua h1 h2),hb];rfl
theorem qla{w:World}{b:Bool}{t q:List Nat}{r:Nat}{a1 a2:Option Addr}{ac1 ac2:Nat}(ha1:Sc w a1 ac1 t)(ha2:Sc w a2 ac2 q)(hr:RadN r)(l1:t.length≤9223372036854775807)(l2:q.length≤9223372036854775807):Calls Tryz.prog 308 #[.agg #[bV b,.slice a1 t.length ac1,.slice a2 q.length ac2],iV (((r:Nat):Int))] w fun e w'=>e=.returned (.string (bsL (szL r t q)))∧Below w.heap.size w w':=by
 have d1:=qec hr ha1.rd.dig;have d2:=qec hr ha2.rd.dig;have d3:=qse hr ha1.rd.dig ha2.rd.dig;have V:St w w [] [(a2,q),(a1,t)] []:=((St.start w).addR ha1.rd).addR ha2.rd;refine wof Tryz.func308 Tryz.ntmps308 fun Q hret hnorm hP a A=>?_;refine wsr fun _ ai=>jy A V rfl rfl rfl pg (qx rfl rfl) rfl ?_;intro g2 _ V a A;refine sda A λA=>?_;refine qa (ai _ _ (wsr fun K4 aj=>sdf A 1 RxI_fld_24_1 λA=>?_));refine sdo A (qw V RxI_is1_22 rfl 0 rfl rfl) λA=>?_;refine sdm A λA=>?_;refine vcl A V ec (zhb ac1 (V.rd 1 rfl) l1 hr) fun _ _ V a A=>?_;refine sdm A λA=>?_;iterate 2 refine sde A λA=>?_
 iterate 2 refine sda A λA=>?_
 refine qa (aj _ _ (wsk fun _ ak=>wsr fun _ ah=>sdf A 2 RxI_fld_24_2 λA=>?_));refine sdo A (qw V RxI_is1_22 rfl 0 rfl rfl) λA=>?_;rcases tf (decide (q=[1]))with aa|aa
 ·have aa':=f5 aa;refine sct A ec (uf _ (V.rd 0 rfl) l2 aa) ?_;rintro _ _ ⟨rfl,ab⟩;replace ab:=vj ab;replace V:=V.call ab;refine⟨_,rfl,?_⟩;intro a A;refine qct ah A ?_;refine wsr fun _ ae=>mv A rfl rfl rfl λa A=>?_;refine sda A λA=>?_;refine qr1 ae hret A ?_;exact⟨by rw[show szL r t q=tD t r from by unfold szL; rw[gj aa']; simp]<;>rfl,V.bel⟩
 ·have aa':=fy aa;refine sct A ec (uf _ (V.rd 0 rfl) l2 aa) ?_;rintro _ _ ⟨rfl,ac⟩;replace ac:=vj ac;replace V:=V.call ac;refine⟨_,rfl,?_⟩;intro a A;refine qcf ah A ?_;refine wp_skip (ak _ _ (wsr fun _ af=>sdf A 2 RxI_fld_24_2 λA=>?_));refine sdo A (qw V RxI_is1_22 rfl 0 rfl rfl) λA=>?_;refine sdm A λA=>?_;refine vcl A V ec (zhb ac2 (V.rd 0 rfl) l2 hr) fun _ _ V a A=>?_;refine sdm A λA=>?_;iterate 2 refine sde A λA=>?_
  iterate 2 refine sda A λA=>?_
  refine qa (af _ _ (wsr fun _ ag=>mv A rfl rfl rfl λa A=>?_));refine sdo (v:=.string (bsL (tD t r++([47])))) A (qb rfl rfl (ql (a:=tD t r) (b:=[47]) (by first|omega|(simp only[fv,fw,fx]; omega)))) λA=>?_;refine sdm A λA=>?_;refine sdo (v:=.string (bsL (tD t r++([47])++(tD q r)))) A (qb rfl rfl (ql (a:=tD t r++([47])) (b:=tD q r) (by first|omega|(simp only[fv,fw,fx]; omega)))) λA=>?_;refine sda A λA=>?_;refine qr1 ag hret A ?_;exact⟨by rw[show szL r t q=tD t r++([47])++(tD q r)from by unfold szL; rw[f7 aa']; simp]<;>rfl,V.bel⟩
theorem zhc{w:World}{b:Bool}{t q:List Nat}{r:Nat}{a1 a2:Option Addr}{ac1 ac2:Nat}(ha1:Sc w a1 ac1 t)(ha2:Sc w a2 ac2 q)(hr:RadN r)(l1:t.length≤9223372036854775807)(l2:q.length≤9223372036854775807):Calls Tryz.prog 279 #[.agg #[bV b,.slice a1 t.length ac1,.slice a2 q.length ac2],iV (((r:Nat):Int))] w fun e w'=>e=.returned (.string (bsL (zu r b t q)))∧Below w.heap.size w w':=by
 have d1:=qec hr ha1.rd.dig;have d2:=qec hr ha2.rd.dig;have d3:=qse hr ha1.rd.dig ha2.rd.dig;have V:St w w [] [(a2,q),(a1,t)] []:=((St.start w).addR ha1.rd).addR ha2.rd;refine wof Tryz.func279 Tryz.ntmps279 fun Q hret hnorm hP a A=>?_;refine wsr fun _ ac=>jy A V rfl rfl rfl pg (qx rfl rfl) rfl ?_;intro g2 _ V a A;refine sda A λA=>?_;refine qa (ac _ _ (wsk fun K4 ae=>wsr fun _ af=>sdf A 0 RxI_fld_24_0 λA=>?_));refine sdo A (qw V RxI_is1_4 rfl 0 rfl rfl) λA=>?_;refine qa (af _ _ ?_);refine wp_cond_split (t:=b) (A.ev rfl) (fun aa=>?_) (fun aa=>?_)
 ·refine wsr fun _ ag=>sdo A (zl V RxI_isS_24 rfl 0 rfl (cs:=[bV b,.slice a1 t.length ac1,.slice a2 q.length ac2]) rfl rfl) λA=>?_;refine sdm A λA=>?_;refine vcl A V ec (qla ⟨(V.rd 1 rfl),ha1.nil,ha1.cap⟩ ⟨(V.rd 0 rfl),ha2.nil,ha2.cap⟩ hr l1 l2) fun _ _ V a A=>?_;refine sdo (v:=.string (bsL ([45]++(szL r t q)))) A (qb rfl rfl (ql (a:=[45]) (b:=szL r t q) (by first|omega|(simp only[fv,fw,fx]; omega)))) λA=>?_;refine sda A λA=>?_;refine qr1 ag hret A ?_;exact⟨by rw[show zu r b t q=[45]++(szL r t q)from by unfold zu; rw[aa]; rfl]<;>rfl,V.bel⟩
 ·refine wp_skip (ae _ _ (wsr fun _ ab=>sdo A (zl V RxI_isS_24 rfl 0 rfl (cs:=[bV b,.slice a1 t.length ac1,.slice a2 q.length ac2]) rfl rfl) λA=>?_));refine sdm A λA=>?_;refine vcl A V ec (qla ⟨(V.rd 1 rfl),ha1.nil,ha1.cap⟩ ⟨(V.rd 0 rfl),ha2.nil,ha2.cap⟩ hr l1 l2) fun _ _ V a A=>?_;refine sda A λA=>?_;refine qr1 ab hret A ?_;exact⟨by rw[show zu r b t q=szL r t q from by unfold zu; rw[aa]; rfl]<;>rfl,V.bel⟩
theorem jae{w:World}{b:Bool}{t q:List Nat}{r:Nat}{a1 a2:Option Addr}{ac1 ac2:Nat}(ha1:Sc w a1 ac1 t)(ha2:Sc w a2 ac2 q)(hr:RadN r)(l1:t.length≤9223372036854775807)(l2:q.length≤9223372036854775807):Calls Tryz.prog 280 #[.agg #[bV b,.slice a1 t.length ac1,.slice a2 q.length ac2]] w fun e w'=>e=.returned (.string (bsL (sgL b)))∧Below w.heap.size w w':=by
 have V:St w w [] [(a2,q),(a1,t)] []:=((St.start w).addR ha1.rd).addR ha2.rd;refine wof Tryz.func280 Tryz.ntmps280 fun Q hret hnorm hP a A=>?_;refine wsr fun _ ab=>jy A V rfl rfl rfl pg (qx rfl rfl) rfl ?_;intro g2 _ V a A;refine sda A λA=>?_;refine qa (ab _ _ (wsk fun K4 ac=>wsr fun _ ae=>sdf A 0 RxI_fld_24_0 λA=>?_));refine sdo A (qw V RxI_is1_4 rfl 0 rfl rfl) λA=>?_;refine qa (ae _ _ ?_);refine wp_cond_split (t:=b) (A.ev rfl) (fun aa=>?_) (fun aa=>?_)
 ·refine wsr fun _ af=>sda A λA=>?_;refine qr1 af hret A ?_;exact⟨by rw[show sgL b=[45]from by unfold sgL; rw[aa]; rfl]<;>rfl,V.bel⟩
 ·refine wp_skip (ac _ _ (wsr fun _ ag=>sda A λA=>?_));refine qr1 ag hret A ?_;exact⟨by rw[show sgL b=[43]from by unfold sgL; rw[aa]; rfl]<;>rfl,V.bel⟩
theorem jaf{w:World}{b:Bool}{t q:List Nat}{r:Nat}{a1 a2:Option Addr}{ac1 ac2:Nat}(ha1:Sc w a1 ac1 t)(ha2:Sc w a2 ac2 q)(hr:RadN r)(l1:t.length≤9223372036854775807)(l2:q.length≤9223372036854775807):Calls Tryz.prog 281 #[.agg #[bV b,.slice a1 t.length ac1,.slice a2 q.length ac2],iV (((r:Nat):Int))] w fun e w'=>e=.returned (.string (bsL (unL r t q)))∧Below w.heap.size w w':=by
 have d1:=qec hr ha1.rd.dig;have d2:=qec hr ha2.rd.dig;have d3:=qse hr ha1.rd.dig ha2.rd.dig;have V:St w w [] [(a2,q),(a1,t)] []:=((St.start w).addR ha1.rd).addR ha2.rd;refine wof Tryz.func281 Tryz.ntmps281 fun Q hret hnorm hP a A=>?_;refine wsr fun _ ap=>jy A V rfl rfl rfl pg (qx rfl rfl) rfl ?_;intro g2 _ V a A;refine sda A λA=>?_;refine qa (ap _ _ (wsk fun K4 am=>wsr fun _ ag=>sdf A 1 RxI_fld_24_1 λA=>?_));refine sdo A (qw V RxI_is1_22 rfl 0 rfl rfl) λA=>?_;rcases tf (decide (t=[1]))with aa|aa
 ·have aa':=f5 aa;refine sct A ec (uf _ (V.rd 1 rfl) l1 aa) ?_;rintro _ _ ⟨rfl,ah⟩;replace ah:=vj ah;replace V:=V.call ah;refine⟨_,rfl,?_⟩;intro a A;refine sdm A λA=>?_;refine sdf A 2 RxI_fld_24_2 λA=>?_;refine sdo A (qw V RxI_is1_22 rfl 0 rfl rfl) λA=>?_;rcases tf (decide (q=[1]))with ab|ab
  ·have ab':=f5 ab;refine sct A ec (uf _ (V.rd 0 rfl) l2 ab) ?_;rintro _ _ ⟨rfl,ac⟩;replace ac:=vj ac;replace V:=V.call ac;refine⟨_,rfl,?_⟩;intro a A;refine sdk (v:=bV true) A λA=>?_;refine qct ag A ?_;refine wsr fun _ ai=>sda A λA=>?_;refine qr1 ai hret A ?_;exact⟨by rw[show unL r t q=[]from by unfold unL; simp[aa',ab']]<;>rfl,V.bel⟩
  ·have ab':=fy ab;refine sct A ec (uf _ (V.rd 0 rfl) l2 ab) ?_;rintro _ _ ⟨rfl,ae⟩;replace ae:=vj ae;replace V:=V.call ae;refine⟨_,rfl,?_⟩;intro a A;refine sdk (v:=bV false) A λA=>?_;refine qcf ag A ?_;refine wp_skip (am _ _ (wsr fun _ aj=>sdo A (zl V RxI_isS_24 rfl 0 rfl (cs:=[bV b,.slice a1 t.length ac1,.slice a2 q.length ac2]) rfl rfl) λA=>?_));refine sdm A λA=>?_;refine vcl A V ec (qla ⟨(V.rd 1 rfl),ha1.nil,ha1.cap⟩ ⟨(V.rd 0 rfl),ha2.nil,ha2.cap⟩ hr l1 l2) fun _ _ V a A=>?_;refine sda A λA=>?_;refine qr1 aj hret A ?_;exact⟨by rw[show unL r t q=szL r t q from by unfold unL; simp[aa',ab']]<;>rfl,V.bel⟩
 ·have aa':=fy aa;refine sct A ec (uf _ (V.rd 1 rfl) l1 aa) ?_;rintro _ _ ⟨rfl,af⟩;replace af:=vj af;replace V:=V.call af;refine⟨_,rfl,?_⟩;intro a A;refine sdm A λA=>?_;iterate 3 refine sks A λA=>?_
  refine sdk (v:=bV false) A λA=>?_;refine qcf ag A ?_;refine wp_skip (am _ _ (wsr fun _ ak=>sdo A (zl V RxI_isS_24 rfl 0 rfl (cs:=[bV b,.slice a1 t.length ac1,.slice a2 q.length ac2]) rfl rfl) λA=>?_));refine sdm A λA=>?_;refine vcl A V ec (qla ⟨(V.rd 1 rfl),ha1.nil,ha1.cap⟩ ⟨(V.rd 0 rfl),ha2.nil,ha2.cap⟩ hr l1 l2) fun _ _ V a A=>?_;refine sda A λA=>?_;refine qr1 ak hret A ?_;exact⟨by rw[show unL r t q=szL r t q from by unfold unL; simp[aa']]<;>rfl,V.bel⟩
theorem jjj{w:World}{q:Q6}{a1 a2 a3 a4:Option Addr}{ac1 ac2 ac3 ac4:Nat}(ha:Nm w q a1 ac1 a2 ac2 a3 ac3 a4 ac4)(hl:LenQ q){r:Nat}(hr:RadN r)(hs:xt q=true):Calls Tryz.prog 241 #[zic q a1 ac1 a2 ac2 a3 ac3 a4 ac4,iV (((r:Nat):Int))] w fun e w'=>e=.returned (.tuple #[.string (bsL (jv r q)),iV 0])∧Below w.heap.size w w':=by
 have d1:=qkj hr (b:=q.b1) ha.s1.rd.dig ha.s2.rd.dig;have d2:=qkj hr (b:=q.b2) ha.s3.rd.dig ha.s4.rd.dig;have d3:=jfa q.b2;have d4:=jfb hr ha.s3.rd.dig ha.s4.rd.dig;have V:St w w [] [(a4,q.q2),(a3,q.t2),(a2,q.q1),(a1,q.t1)] []:=((((St.start w).addR ha.s1.rd).addR ha.s2.rd).addR ha.s3.rd).addR ha.s4.rd;refine wof Tryz.func241 Tryz.ntmps241 fun Q hret hnorm hP a A=>?_;refine wsr fun _ aq=>jy A V rfl rfl rfl pg (qx rfl rfl) rfl ?_;intro g2 _ V a A;iterate 2 refine sda A λA=>?_
 refine qa (aq _ _ (wsk fun K4 ar=>wsr fun _ au=>sdo A (zl V RxI_isS_26 rfl 0 rfl (cs:=[bV q.b1,.slice a1 q.t1.length ac1,.slice a2 q.q1.length ac2,bV q.b2,.slice a3 q.t2.length ac3,.slice a4 q.q2.length ac4]) rfl rfl) λA=>?_));refine vcl A V ec (qlj (show Nm _ _ a1 ac1 a2 ac2 a3 ac3 a4 ac4 from⟨⟨(V.rd 3 rfl),ha.s1.nil,ha.s1.cap⟩,⟨(V.rd 2 rfl),ha.s2.nil,ha.s2.cap⟩,⟨(V.rd 1 rfl),ha.s3.nil,ha.s3.cap⟩,⟨(V.rd 0 rfl),ha.s4.nil,ha.s4.cap⟩⟩) hl hs) fun _ _ V a A=>?_;refine sdu A λA=>?_;refine qcf au A ?_;refine wp_skip (ar _ _ (wsk fun _ av=>wsr fun _ aw=>mv A rfl rfl rfl λa A=>?_));refine vcl A V ec (zme (zbe hr)) fun _ _ V a A=>?_;refine sdu A λA=>?_;refine qcf aw A ?_;refine wp_skip (av _ _ (wsk fun _ af=>wsr fun _ ac=>sdo A (zl V RxI_isS_26 rfl 0 rfl (cs:=[bV q.b1,.slice a1 q.t1.length ac1,.slice a2 q.q1.length ac2,bV q.b2,.slice a3 q.t2.length ac3,.slice a4 q.q2.length ac4]) rfl rfl) λA=>?_));rcases tf (decide (q.t2.length=0))with aa|aa
 ·have aa':=f5 aa;refine vcl A V ec (qta hl aa) fun _ _ V a A=>?_;refine qct ac A ?_;refine wsr fun _ ag=>sdf A 0 RxI_fld_26_0 λA=>?_;refine sdo A (zl V RxI_isS_24 rfl 0 rfl (cs:=[bV q.b1,.slice a1 q.t1.length ac1,.slice a2 q.q1.length ac2]) rfl rfl) λA=>?_;refine sdm A λA=>?_;refine vcl A V ec (zhc (b:=q.b1) (t:=q.t1) (q:=q.q1) (r:=r) ⟨(V.rd 3 rfl),ha.s1.nil,ha.s1.cap⟩ ⟨(V.rd 2 rfl),ha.s2.nil,ha.s2.cap⟩ hr hl.l1 hl.l2) fun _ _ V a A=>?_;iterate 2 refine sda A λA=>?_
  refine qa (ag _ _ (wp_ret (hret _ _ (en2 A rfl (qf rfl) (qf rfl) ?_))));exact⟨by rw[show jv r q=zu r q.b1 q.t1 q.q1 from by unfold jv; rw[gj aa']]<;>rfl,V.bel⟩
 ·have aa':=fy aa;refine vcl A V ec (qta hl aa) fun _ _ V a A=>?_;refine qcf ac A ?_;refine wp_skip (af _ _ (wsk fun _ ah=>xg (S:=fun w1=>St w w1 [(g2,[bV q.b1,.slice a1 q.t1.length ac1,.slice a2 q.q1.length ac2,bV q.b2,.slice a3 q.t2.length ac3,.slice a4 q.q2.length ac4])] [(a4,q.q2),(a3,q.t2),(a2,q.q1),(a1,q.t1)] []) (by kernel_rfl) ?_));replace V:=V.drew;refine atk (v:=pA g2 3) A 0 rfl hP V (λ_ V=>qp RxI_fld_26_1 rfl rfl) λA=>?_;refine atk A 1 rfl hP V (λ_ V=>zl V RxI_isS_24 rfl 0 rfl (cs:=[bV q.b2,.slice a3 q.t2.length ac3,.slice a4 q.q2.length ac4]) rfl rfl) λA=>?_;refine atk (v:=pA g2 3) A 3 rfl hP V (λ_ V=>qp RxI_fld_26_1 rfl rfl) λA=>?_;refine atk A 4 rfl hP V (λ_ V=>zl V RxI_isS_24 rfl 0 rfl (cs:=[bV q.b2,.slice a3 q.t2.length ac3,.slice a4 q.q2.length ac4]) rfl rfl) λA=>?_;refine atk A 5 rfl hP V (λ_ V=>zr rfl) λA=>?_;refine zn (by kernel_rfl) (jc A 2 rfl rfl rfl rfl (xj  rfl rfl (fun w=>by kernel_rfl)) (jae (b:=q.b2) (t:=q.t2) (q:=q.q2) (r:=r) ⟨(V.rd 1 rfl),ha.s3.nil,ha.s3.cap⟩ ⟨(V.rd 0 rfl),ha.s4.nil,ha.s4.cap⟩ hr hl.l3 hl.l4) ?_);rintro _ _ ⟨rfl,ai⟩;replace V:=V.call ai;refine⟨_,rfl,V,?_⟩;intro a A;refine zn (by kernel_rfl) (jc A 6 rfl rfl rfl rfl (xj  rfl rfl (fun w=>by kernel_rfl)) (jaf (b:=q.b2) (t:=q.t2) (q:=q.q2) (r:=r) ⟨(V.rd 1 rfl),ha.s3.nil,ha.s3.cap⟩ ⟨(V.rd 0 rfl),ha.s4.nil,ha.s4.cap⟩ hr hl.l3 hl.l4) ?_);rintro _ _ ⟨rfl,aj⟩;replace V:=V.call aj;refine⟨_,rfl,V,?_⟩;intro a A;refine atk (v:=.string (bsL (sgL q.b2++(unL r q.t2 q.q2)))) A 7 rfl hP V (λ_ V=>qb rfl rfl (ql (a:=sgL q.b2) (b:=unL r q.t2 q.q2) (by first|omega|(simp only[fv,fw,fx]; omega)))) λA=>?_
  refine atk (v:=.string (bsL (sgL q.b2++(unL r q.t2 q.q2)++([105])))) A 8 rfl hP V (λ_ V=>qb rfl rfl (ql (a:=sgL q.b2++(unL r q.t2 q.q2)) (b:=[105]) (by first|omega|(simp only[fv,fw,fx]; omega)))) λA=>?_;refine atk A 9 rfl hP V (λ_ V=>ji rfl) λA=>?_;refine jl (by kernel_rfl) ?_;refine ah _ _ (wsk fun _ ak=>wsr fun _ ae=>sdf A 0 RxI_fld_26_0 λA=>?_);refine sdf A 1 RxI_fld_24_1 λA=>?_;refine sdo A (qw V RxI_is1_22 rfl 0 rfl rfl) λA=>?_;refine sdo A (qr im rfl) λA=>?_;rcases tf ((((q.t1.length:Nat):Int)==0))with ab|ab
  ·have ab':=gr ab;refine sdc A qe ab λA=>?_;refine qct ae A ?_;refine wsr fun _ am=>mv A rfl rfl rfl λa A=>?_;iterate 2 refine sda A λA=>?_
   refine qa (am _ _ (wp_ret (hret _ _ (en2 A rfl (qf rfl) (qf rfl) ?_))));exact⟨by rw[show jv r q=sgL q.b2++(unL r q.t2 q.q2)++([105])from by unfold jv; rw[f7 aa',gj (show q.t1.length=0 from by omega)]; first|rfl|simp only[f8,jtj]]<;>rfl,V.bel⟩
  ·have ab':=f6 ab;refine sdc A qe ab λA=>?_;refine qcf ae A ?_;refine wp_skip (ak _ _ (wsr fun _ ap=>sdf A 0 RxI_fld_26_0 λA=>?_));refine sdo A (zl V RxI_isS_24 rfl 0 rfl (cs:=[bV q.b1,.slice a1 q.t1.length ac1,.slice a2 q.q1.length ac2]) rfl rfl) λA=>?_;refine sdm A λA=>?_;refine vcl A V ec (zhc (b:=q.b1) (t:=q.t1) (q:=q.q1) (r:=r) ⟨(V.rd 3 rfl),ha.s1.nil,ha.s1.cap⟩ ⟨(V.rd 2 rfl),ha.s2.nil,ha.s2.cap⟩ hr hl.l1 hl.l2) fun _ _ V a A=>?_;refine sdm A λA=>?_;refine sdo (v:=.string (bsL (zu r q.b1 q.t1 q.q1++(sgL q.b2++(unL r q.t2 q.q2)++([105]))))) A (qb rfl rfl (ql (a:=zu r q.b1 q.t1 q.q1) (b:=sgL q.b2++(unL r q.t2 q.q2)++([105])) (by first|omega|(simp only[fv,fw,fx]; omega)))) λA=>?_;iterate 2 refine sda A λA=>?_
   refine qa (ap _ _ (wp_ret (hret _ _ (en2 A rfl (qf rfl) (qf rfl) ?_))));exact⟨by rw[show jv r q=zu r q.b1 q.t1 q.q1++(sgL q.b2++(unL r q.t2 q.q2)++([105]))from by unfold jv; rw[f7 aa',f7 (show ¬q.t1.length=0 from by omega)]; first|rfl|simp only[f8,jtj]]<;>rfl,V.bel⟩
theorem qfj{w:World}{b:Bool}{t q:List Nat}{r:Nat}{a1 a2:Option Addr}{ac1 ac2:Nat}(ha1:Sc w a1 ac1 t)(ha2:Sc w a2 ac2 q)(hr:RadN r)(l1:t.length≤9223372036854775807)(l2:q.length≤9223372036854775807):Calls Tryz.prog 150 #[.agg #[bV b,.slice a1 t.length ac1,.slice a2 q.length ac2],iV (((r:Nat):Int))] w fun e w'=>e=.returned (.string (bsL (zu r b t q)))∧Below w.heap.size w w':=by
 have d1:=qec hr ha1.rd.dig;have d2:=qec hr ha2.rd.dig;have d3:=qse hr ha1.rd.dig ha2.rd.dig;have V:St w w [] [(a2,q),(a1,t)] []:=((St.start w).addR ha1.rd).addR ha2.rd;refine wof Tryz.func150 Tryz.ntmps150 fun Q hret hnorm hP a A=>?_;refine wsr fun _ au=>jy A V rfl rfl rfl pg (qx rfl rfl) rfl ?_;intro g2 _ V a A;refine sda A λA=>?_;refine qa (au _ _ (wsr fun K4 av=>sdf A 1 RxI_fld_24_1 λA=>?_));refine sdo A (qw V RxI_is1_22 rfl 0 rfl rfl) λA=>?_;refine sdm A λA=>?_;refine vcl A V ec (qnh ac1 ⟨(V.rd 1 rfl),ha1.nil,ha1.cap⟩ l1 hr) fun _ _ V a A=>?_;refine sdm A λA=>?_;iterate 2 refine sde A λA=>?_
 iterate 2 refine sda A λA=>?_
 refine qa (av _ _ (wsk fun _ ar=>wsr fun _ aw=>sdf A 0 RxI_fld_24_0 λA=>?_));refine sdo A (qw V RxI_is1_4 rfl 0 rfl rfl) λA=>?_;refine qa (aw _ _ ?_);refine wp_cond_split (t:=b) (A.ev rfl) (fun ac=>?_) (fun ac=>?_)
 ·refine wrl (mv A rfl rfl rfl λa A=>?_);refine sdo (v:=.string (bsL ([45]++(tD t r)))) A (qb rfl rfl (ql (a:=[45]) (b:=tD t r) (by first|omega|(simp only[fv,fw,fx]; omega)))) λA=>?_;refine sda A λA=>?_;refine qa (ar _ _ (wsk fun _ ae=>wsr fun _ af=>sdf A 2 RxI_fld_24_2 λA=>?_));refine sdo A (qw V RxI_is1_22 rfl 0 rfl rfl) λA=>?_;refine yq (us:=[1]) (t:=144) (m:=1) A V rfl rfl rfl (qg rfl (by kernel_rfl)) (by simp[Dig]) ?_;intro g12 _ V a A;rcases tf (decide (q=[1]))with aa|aa
  ·have aa':=f5 aa;refine vcl A V ec (xa _ _ (V.rd 1 rfl) (V.rd 0 rfl) l2 (by decide) aa) fun _ _ V a A=>?_;refine sdu A λA=>?_;refine qcf af A ?_;refine wp_skip (ae _ _ (wsr fun _ ai=>mv A rfl rfl rfl λa A=>?_));refine sda A λA=>?_;refine qr1 ai hret A ?_;exact⟨by rw[show zu r b t q=[45]++(tD t r)from by unfold zu szL; rw[ac,gj aa']; simp]<;>rfl,V.bel⟩
  ·have aa':=fy aa;refine vcl A V ec (xa _ _ (V.rd 1 rfl) (V.rd 0 rfl) l2 (by decide) aa) fun _ _ V a A=>?_;refine sdu A λA=>?_;refine qct af A ?_;refine wsr fun _ aj=>sdf A 2 RxI_fld_24_2 λA=>?_;refine sdo A (qw V RxI_is1_22 rfl 0 rfl rfl) λA=>?_;refine sdm A λA=>?_;refine vcl A V ec (qnh ac2 ⟨(V.rd 1 rfl),ha2.nil,ha2.cap⟩ l2 hr) fun _ _ V a A=>?_;refine sdm A λA=>?_;iterate 2 refine sde A λA=>?_
   iterate 2 refine sda A λA=>?_
   refine qa (aj _ _ (wrl ?_));iterate 2 refine sdm A λA=>?_
   refine sdo (v:=.string (bsL ([47]++(tD q r)))) A (qb rfl rfl (ql (a:=[47]) (b:=tD q r) (by first|omega|(simp only[fv,fw,fx]; omega)))) λA=>?_;refine sdo (v:=.string (bsL ([45]++(tD t r)++([47]++(tD q r))))) A (qb rfl rfl (ql (a:=[45]++(tD t r)) (b:=[47]++(tD q r)) (by first|omega|(simp only[fv,fw,fx]; omega)))) λA=>?_;refine sda A λA=>?_;refine qa (ae _ _ (wsr fun _ ak=>mv A rfl rfl rfl λa A=>?_));refine sda A λA=>?_;refine qr1 ak hret A ?_;exact⟨by rw[show zu r b t q=[45]++(tD t r)++([47]++(tD q r))from by unfold zu szL; rw[ac,f7 aa']; simp]<;>rfl,V.bel⟩
 ·refine wp_skip (ar _ _ (wsk fun _ ag=>wsr fun _ ah=>sdf A 2 RxI_fld_24_2 λA=>?_));refine sdo A (qw V RxI_is1_22 rfl 0 rfl rfl) λA=>?_;refine yq (us:=[1]) (t:=144) (m:=1) A V rfl rfl rfl (qg rfl (by kernel_rfl)) (by simp[Dig]) ?_;intro g26 _ V a A;rcases tf (decide (q=[1]))with ab|ab
  ·have ab':=f5 ab;refine vcl A V ec (xa _ _ (V.rd 1 rfl) (V.rd 0 rfl) l2 (by decide) ab) fun _ _ V a A=>?_;refine sdu A λA=>?_;refine qcf ah A ?_;refine wp_skip (ag _ _ (wsr fun _ am=>mv A rfl rfl rfl λa A=>?_));refine sda A λA=>?_;refine qr1 am hret A ?_;exact⟨by rw[show zu r b t q=tD t r from by unfold zu szL; rw[ac,gj ab']; simp]<;>rfl,V.bel⟩
  ·have ab':=fy ab;refine vcl A V ec (xa _ _ (V.rd 1 rfl) (V.rd 0 rfl) l2 (by decide) ab) fun _ _ V a A=>?_;refine sdu A λA=>?_;refine qct ah A ?_;refine wsr fun _ ap=>sdf A 2 RxI_fld_24_2 λA=>?_;refine sdo A (qw V RxI_is1_22 rfl 0 rfl rfl) λA=>?_;refine sdm A λA=>?_;refine vcl A V ec (qnh ac2 ⟨(V.rd 1 rfl),ha2.nil,ha2.cap⟩ l2 hr) fun _ _ V a A=>?_;refine sdm A λA=>?_;iterate 2 refine sde A λA=>?_
   iterate 2 refine sda A λA=>?_
   refine qa (ap _ _ (wrl ?_));iterate 2 refine sdm A λA=>?_
   refine sdo (v:=.string (bsL ([47]++(tD q r)))) A (qb rfl rfl (ql (a:=[47]) (b:=tD q r) (by first|omega|(simp only[fv,fw,fx]; omega)))) λA=>?_;refine sdo (v:=.string (bsL (tD t r++([47]++(tD q r))))) A (qb rfl rfl (ql (a:=tD t r) (b:=[47]++(tD q r)) (by first|omega|(simp only[fv,fw,fx]; omega)))) λA=>?_;refine sda A λA=>?_;refine qa (ag _ _ (wsr fun _ aq=>mv A rfl rfl rfl λa A=>?_));refine sda A λA=>?_;refine qr1 aq hret A ?_;exact⟨by rw[show zu r b t q=tD t r++([47]++(tD q r))from by unfold zu szL; rw[ac,f7 ab']; simp]<;>rfl,V.bel⟩
theorem jka{w:World}{q:Q6}{a1 a2 a3 a4:Option Addr}{ac1 ac2 ac3 ac4:Nat}(ha:Nm w q a1 ac1 a2 ac2 a3 ac3 a4 ac4)(hl:LenQ q){r:Nat}(hr:RadN r)(hs:xt q=true):Calls Tryz.prog 108 #[zic q a1 ac1 a2 ac2 a3 ac3 a4 ac4,iV (((r:Nat):Int))] w fun e w'=>e=.returned (.tuple #[.string (bsL (jv r q)),iV 0])∧Below w.heap.size w w':=by
 have d1:=qkj hr (b:=q.b1) ha.s1.rd.dig ha.s2.rd.dig;have d2:=qkj hr (b:=q.b2) ha.s3.rd.dig ha.s4.rd.dig;have d3:=jfa q.b2;have d4:=jfb hr ha.s3.rd.dig ha.s4.rd.dig;have V:St w w [] [(a4,q.q2),(a3,q.t2),(a2,q.q1),(a1,q.t1)] []:=((((St.start w).addR ha.s1.rd).addR ha.s2.rd).addR ha.s3.rd).addR ha.s4.rd;refine wof Tryz.func108 Tryz.ntmps108 fun Q hret hnorm hP a A=>?_;refine wsr fun _ cj=>jy A V rfl rfl rfl pg (qx rfl rfl) rfl ?_;intro g2 _ V a A;iterate 2 refine sda A λA=>?_
 refine qa (cj _ _ (wsk fun K4 ck=>wsr fun _ cl=>sdo A (zl V RxI_isS_26 rfl 0 rfl (cs:=[bV q.b1,.slice a1 q.t1.length ac1,.slice a2 q.q1.length ac2,bV q.b2,.slice a3 q.t2.length ac3,.slice a4 q.q2.length ac4]) rfl rfl) λA=>?_));refine vcl A V ec (qjb (show Nm _ _ a1 ac1 a2 ac2 a3 ac3 a4 ac4 from⟨⟨(V.rd 3 rfl),ha.s1.nil,ha.s1.cap⟩,⟨(V.rd 2 rfl),ha.s2.nil,ha.s2.cap⟩,⟨(V.rd 1 rfl),ha.s3.nil,ha.s3.cap⟩,⟨(V.rd 0 rfl),ha.s4.nil,ha.s4.cap⟩⟩) hl hs) fun _ _ V a A=>?_;refine sdu A λA=>?_;refine qcf cl A ?_;refine wp_skip (ck _ _ (wsk fun _ cm=>wsr fun _ cn=>mv A rfl rfl rfl λa A=>?_));refine vcl A V ec (zsg (zbe hr)) fun _ _ V a A=>?_;refine sdu A λA=>?_;refine qcf cn A ?_;refine wp_skip (cm _ _ (wsk fun _ ax=>wsr fun _ am=>sdo A (zl V RxI_isS_26 rfl 0 rfl (cs:=[bV q.b1,.slice a1 q.t1.length ac1,.slice a2 q.q1.length ac2,bV q.b2,.slice a3 q.t2.length ac3,.slice a4 q.q2.length ac4]) rfl rfl) λA=>?_));rcases tf (decide (q.t2.length=0))with aa|aa
 ·have aa':=f5 aa;refine vcl A V ec (qzj (show Nm _ _ a1 ac1 a2 ac2 a3 ac3 a4 ac4 from⟨⟨(V.rd 3 rfl),ha.s1.nil,ha.s1.cap⟩,⟨(V.rd 2 rfl),ha.s2.nil,ha.s2.cap⟩,⟨(V.rd 1 rfl),ha.s3.nil,ha.s3.cap⟩,⟨(V.rd 0 rfl),ha.s4.nil,ha.s4.cap⟩⟩) hl aa) fun _ _ V a A=>?_;refine qct am A ?_;refine wsr fun _ ay=>sdf A 0 RxI_fld_26_0 λA=>?_;refine sdo A (zl V RxI_isS_24 rfl 0 rfl (cs:=[bV q.b1,.slice a1 q.t1.length ac1,.slice a2 q.q1.length ac2]) rfl rfl) λA=>?_;refine sdm A λA=>?_;refine vcl A V ec (qfj (b:=q.b1) (t:=q.t1) (q:=q.q1) (r:=r) ⟨(V.rd 3 rfl),ha.s1.nil,ha.s1.cap⟩ ⟨(V.rd 2 rfl),ha.s2.nil,ha.s2.cap⟩ hr hl.l1 hl.l2) fun _ _ V a A=>?_;iterate 2 refine sda A λA=>?_
  refine qa (ay _ _ (wp_ret (hret _ _ (en2 A rfl (qf rfl) (qf rfl) ?_))));exact⟨by rw[show jv r q=zu r q.b1 q.t1 q.q1 from by unfold jv; rw[gj aa']]<;>rfl,V.bel⟩
 ·have aa':=fy aa;refine vcl A V ec (qzj (show Nm _ _ a1 ac1 a2 ac2 a3 ac3 a4 ac4 from⟨⟨(V.rd 3 rfl),ha.s1.nil,ha.s1.cap⟩,⟨(V.rd 2 rfl),ha.s2.nil,ha.s2.cap⟩,⟨(V.rd 1 rfl),ha.s3.nil,ha.s3.cap⟩,⟨(V.rd 0 rfl),ha.s4.nil,ha.s4.cap⟩⟩) hl aa) fun _ _ V a A=>?_;refine qcf am A ?_;refine wp_skip (ax _ _ (wsr fun _ az=>sda A λA=>?_));refine qa (az _ _ (wsk fun _ ap=>wsr fun _ aq=>sdf A 0 RxI_fld_26_0 λA=>?_));refine sdf A 1 RxI_fld_24_1 λA=>?_;refine sdo A (qw V RxI_is1_22 rfl 0 rfl rfl) λA=>?_;refine sdo A (qr im rfl) λA=>?_;rcases tf (decide (0<((q.t1.length:Nat):Int)))with ab|ab
  ·have ab':=f5 ab;refine sdc A jh ab λA=>?_;refine qct aq A ?_;refine wrl (sdf A 0 RxI_fld_26_0 λA=>?_);refine sdo A (zl V RxI_isS_24 rfl 0 rfl (cs:=[bV q.b1,.slice a1 q.t1.length ac1,.slice a2 q.q1.length ac2]) rfl rfl) λA=>?_;refine sdm A λA=>?_;refine vcl A V ec (qfj (b:=q.b1) (t:=q.t1) (q:=q.q1) (r:=r) ⟨(V.rd 3 rfl),ha.s1.nil,ha.s1.cap⟩ ⟨(V.rd 2 rfl),ha.s2.nil,ha.s2.cap⟩ hr hl.l1 hl.l2) fun _ _ V a A=>?_;refine sda A λA=>?_;refine qa (ap _ _ (wsr fun _ bd=>yq (us:=[1]) (t:=144) (m:=1) A V rfl rfl rfl (qg rfl (by kernel_rfl)) (by simp[Dig]) ?_));intro g29 _ V a A;refine yq (us:=[1]) (t:=144) (m:=1) A V rfl rfl rfl (qg rfl (by kernel_rfl)) (by simp[Dig]) ?_;intro g31 _ V a A;refine sdo (v:=.agg #[bV false,.slice (aO g29) 1 1,.slice (aO g31) 1 1]) A (qn rfl (fun w=>by kernel_rfl)) λA=>?_;refine jy (vs:=[bV false,.slice none 0 0,.slice none 0 0]) (t:=24) A V rfl rfl rfl pg (qm (z:=.agg #[bV false,.slice none 0 0,.slice none 0 0]) (by kernel_rfl) rfl) rfl ?_;intro g33 _ V a A;refine qee (us:=[bV false,.slice (aO g29) 1 1,.slice (aO g31) 1 1]) A V rfl rfl (qce rfl rfl rfl (by kernel_rfl) V 0 rfl rfl rfl) 0 rfl rfl rfl rfl ?_;intro _ V;refine qa (bd _ _ (wsk fun _ ah=>wp_block (wsr fun _ ar=>sdf A 3 RxI_fld_26_1 λA=>?_)));refine sdo A (zl V RxI_isS_24 rfl 1 rfl (cs:=[bV q.b2,.slice a3 q.t2.length ac3,.slice a4 q.q2.length ac4]) rfl rfl) λA=>?_;refine sdo A (zl V RxI_isS_24 rfl 0 rfl (cs:=[bV false,.slice (aO g29) 1 1,.slice (aO g31) 1 1]) rfl rfl) λA=>?_;rcases tf (xn q.b2 q.t2 q.q2 false [1] [1])with ac|ac
   ·refine vcl A V ec (xf ⟨(V.rd 3 rfl),ha.s3.nil,ha.s3.cap⟩ ⟨(V.rd 2 rfl),ha.s4.nil,ha.s4.cap⟩ ⟨(V.rd 1 rfl),(fun h=>by cases h),(gm _)⟩ ⟨(V.rd 0 rfl),(fun h=>by cases h),(gm _)⟩ hl.l3 hl.l4 (by decide) (by decide) ac) fun _ _ V a A=>?_;refine sda A λA=>?_;refine qct ar A ?_;refine wrl (mv A rfl rfl rfl λa A=>?_);refine sdo (v:=.string (bsL (zu r q.b1 q.t1 q.q1++([43])))) A (qb rfl rfl (ql (a:=zu r q.b1 q.t1 q.q1) (b:=[43]) (by first|omega|(simp only[fv,fw,fx]; omega)))) λA=>?_;refine sda A λA=>?_;refine qa (ah _ _ (wsr fun _ bf=>mv A rfl rfl rfl λa A=>?_));refine sdo (v:=.string (bsL (zu r q.b1 q.t1 q.q1++([43])++([105])))) A (qb rfl rfl (ql (a:=zu r q.b1 q.t1 q.q1++([43])) (b:=[105]) (by first|omega|(simp only[fv,fw,fx]; omega)))) λA=>?_;iterate 2 refine sda A λA=>?_
    refine qa (bf _ _ (wp_ret (hret _ _ (en2 A rfl (qf rfl) (qf rfl) ?_))));exact⟨by rw[show jv r q=zu r q.b1 q.t1 q.q1++([43])++([105])from by unfold jv; rw[f7 aa',f7 (show ¬q.t1.length=0 from by omega),im1 ac]; simp only[f4,f8]]<;>rfl,V.bel⟩
   ·refine vcl A V ec (xf ⟨(V.rd 3 rfl),ha.s3.nil,ha.s3.cap⟩ ⟨(V.rd 2 rfl),ha.s4.nil,ha.s4.cap⟩ ⟨(V.rd 1 rfl),(fun h=>by cases h),(gm _)⟩ ⟨(V.rd 0 rfl),(fun h=>by cases h),(gm _)⟩ hl.l3 hl.l4 (by decide) (by decide) ac) fun _ _ V a A=>?_;refine sda A λA=>?_;refine qcf ar A ?_;refine wsk fun _ au=>xg (S:=fun w1=>St w w1 [(g33,[bV false,.slice (aO g29) 1 1,.slice (aO g31) 1 1]),(g2,[bV q.b1,.slice a1 q.t1.length ac1,.slice a2 q.q1.length ac2,bV q.b2,.slice a3 q.t2.length ac3,.slice a4 q.q2.length ac4])] [(some ⟨g31,0,none⟩,[1]),(some ⟨g29,0,none⟩,[1]),(a4,q.q2),(a3,q.t2),(a2,q.q1),(a1,q.t1)] []) (by kernel_rfl) ?_;replace V:=V.drew;refine atk (v:=pA g2 3) A 0 rfl hP V (λ_ V=>qp RxI_fld_26_1 rfl rfl) λA=>?_;refine atk A 1 rfl hP V (λ_ V=>zl V RxI_isS_24 rfl 1 rfl (cs:=[bV q.b2,.slice a3 q.t2.length ac3,.slice a4 q.q2.length ac4]) rfl rfl) λA=>?_;refine atk A 2 rfl hP V (λ_ V=>zl V RxI_isS_24 rfl 0 rfl (cs:=[bV false,.slice (aO g29) 1 1,.slice (aO g31) 1 1]) rfl rfl) λA=>?_;refine zn (by kernel_rfl) (jc A 3 rfl rfl rfl rfl (xj  rfl rfl (fun w=>by kernel_rfl)) (zaa (r:=true) rfl) ?_);rintro _ _ ⟨rfl,bg⟩;replace V:=V.call bg;refine⟨_,rfl,V,?_⟩;intro a A;rcases tf (xn q.b2 q.t2 q.q2 true [1] [1])with ae|ae
    ·refine zn (by kernel_rfl) (jc A 4 rfl rfl rfl rfl (xj  rfl rfl (fun w=>by kernel_rfl)) (xf ⟨(V.rd 3 rfl),ha.s3.nil,ha.s3.cap⟩ ⟨(V.rd 2 rfl),ha.s4.nil,ha.s4.cap⟩ ⟨(V.rd 1 rfl),(fun h=>by cases h),(gm _)⟩ ⟨(V.rd 0 rfl),(fun h=>by cases h),(gm _)⟩ hl.l3 hl.l4 (by decide) (by decide) ae) ?_);rintro _ _ ⟨rfl,bh⟩;replace V:=V.call bh;refine⟨_,rfl,V,?_⟩;intro a A;refine atk A 5 rfl hP V (λ_ V=>ji rfl) λA=>?_;refine jl (by kernel_rfl) ?_;refine au _ _ (ct A ?_);refine wrl (mv A rfl rfl rfl λa A=>?_);refine sdo (v:=.string (bsL (zu r q.b1 q.t1 q.q1++([45])))) A (qb rfl rfl (ql (a:=zu r q.b1 q.t1 q.q1) (b:=[45]) (by first|omega|(simp only[fv,fw,fx]; omega)))) λA=>?_;refine sda A λA=>?_;refine qa (ah _ _ (wsr fun _ bi=>mv A rfl rfl rfl λa A=>?_));refine sdo (v:=.string (bsL (zu r q.b1 q.t1 q.q1++([45])++([105])))) A (qb rfl rfl (ql (a:=zu r q.b1 q.t1 q.q1++([45])) (b:=[105]) (by first|omega|(simp only[fv,fw,fx]; omega)))) λA=>?_;iterate 2 refine sda A λA=>?_
     refine qa (bi _ _ (wp_ret (hret _ _ (en2 A rfl (qf rfl) (qf rfl) ?_))));exact⟨by rw[show jv r q=zu r q.b1 q.t1 q.q1++([45])++([105])from by unfold jv; rw[f7 aa',f7 (show ¬q.t1.length=0 from by omega),im2 ae]; simp only[f4,f8]]<;>rfl,V.bel⟩
    ·refine zn (by kernel_rfl) (jc A 4 rfl rfl rfl rfl (xj  rfl rfl (fun w=>by kernel_rfl)) (xf ⟨(V.rd 3 rfl),ha.s3.nil,ha.s3.cap⟩ ⟨(V.rd 2 rfl),ha.s4.nil,ha.s4.cap⟩ ⟨(V.rd 1 rfl),(fun h=>by cases h),(gm _)⟩ ⟨(V.rd 0 rfl),(fun h=>by cases h),(gm _)⟩ hl.l3 hl.l4 (by decide) (by decide) ae) ?_);rintro _ _ ⟨rfl,bj⟩;replace V:=V.call bj;refine⟨_,rfl,V,?_⟩;intro a A;refine atk A 5 rfl hP V (λ_ V=>ji rfl) λA=>?_;refine jl (by kernel_rfl) ?_;refine au _ _ (cf A ?_);refine wsr fun _ bn=>sdf A 3 RxI_fld_26_1 λA=>?_;refine sdf A 3 RxI_fld_24_0 λA=>?_;refine sdo A (qw V RxI_is1_4 rfl 1 rfl rfl) λA=>?_;refine sda A λA=>?_;refine qa (bn _ _ ?_);refine wp_cond_split (t:=q.b2) (A.ev rfl) (fun aj=>?_) (fun aj=>?_)
     ·refine wrl (mv A rfl rfl rfl λa A=>?_);refine sdf A 3 RxI_fld_26_1 λA=>?_;refine sdo A (zl V RxI_isS_24 rfl 1 rfl (cs:=[bV q.b2,.slice a3 q.t2.length ac3,.slice a4 q.q2.length ac4]) rfl rfl) λA=>?_;refine sdm A λA=>?_;refine vcl A V ec (qfj (b:=q.b2) (t:=q.t2) (q:=q.q2) (r:=r) ⟨(V.rd 3 rfl),ha.s3.nil,ha.s3.cap⟩ ⟨(V.rd 2 rfl),ha.s4.nil,ha.s4.cap⟩ hr hl.l3 hl.l4) fun _ _ V a A=>?_;refine sdo (v:=.string (bsL (zu r q.b1 q.t1 q.q1++(zu r q.b2 q.t2 q.q2)))) A (qb rfl rfl (ql (a:=zu r q.b1 q.t1 q.q1) (b:=zu r q.b2 q.t2 q.q2) (by first|omega|(simp only[fv,fw,fx]; omega)))) λA=>?_;refine sda A λA=>?_;refine qa (ah _ _ (wsr fun _ bp=>mv A rfl rfl rfl λa A=>?_));refine sdo (v:=.string (bsL (zu r q.b1 q.t1 q.q1++(zu r q.b2 q.t2 q.q2)++([105])))) A (qb rfl rfl (ql (a:=zu r q.b1 q.t1 q.q1++(zu r q.b2 q.t2 q.q2)) (b:=[105]) (by first|omega|(simp only[fv,fw,fx]; omega)))) λA=>?_;iterate 2 refine sda A λA=>?_
      refine qa (bp _ _ (wp_ret (hret _ _ (en2 A rfl (qf rfl) (qf rfl) ?_))));exact⟨by rw[show jv r q=zu r q.b1 q.t1 q.q1++(zu r q.b2 q.t2 q.q2)++([105])from by unfold jv; rw[f7 aa',f7 (show ¬q.t1.length=0 from by omega),im3 ac ae aj]; simp only[f4,f8]]<;>rfl,V.bel⟩
     ·refine wrl (mv A rfl rfl rfl λa A=>?_);refine sdf A 3 RxI_fld_26_1 λA=>?_;refine sdo A (zl V RxI_isS_24 rfl 1 rfl (cs:=[bV q.b2,.slice a3 q.t2.length ac3,.slice a4 q.q2.length ac4]) rfl rfl) λA=>?_;refine sdm A λA=>?_;refine vcl A V ec (qfj (b:=q.b2) (t:=q.t2) (q:=q.q2) (r:=r) ⟨(V.rd 3 rfl),ha.s3.nil,ha.s3.cap⟩ ⟨(V.rd 2 rfl),ha.s4.nil,ha.s4.cap⟩ hr hl.l3 hl.l4) fun _ _ V a A=>?_;refine sdo (v:=.string (bsL ([43]++(zu r q.b2 q.t2 q.q2)))) A (qb rfl rfl (ql (a:=[43]) (b:=zu r q.b2 q.t2 q.q2) (by first|omega|(simp only[fv,fw,fx]; omega)))) λA=>?_;refine sdo (v:=.string (bsL (zu r q.b1 q.t1 q.q1++([43]++(zu r q.b2 q.t2 q.q2))))) A (qb rfl rfl (ql (a:=zu r q.b1 q.t1 q.q1) (b:=[43]++(zu r q.b2 q.t2 q.q2)) (by first|omega|(simp only[fv,fw,fx]; omega)))) λA=>?_;refine sda A λA=>?_;refine qa (ah _ _ (wsr fun _ bq=>mv A rfl rfl rfl λa A=>?_));refine sdo (v:=.string (bsL (zu r q.b1 q.t1 q.q1++([43]++(zu r q.b2 q.t2 q.q2))++([105])))) A (qb rfl rfl (ql (a:=zu r q.b1 q.t1 q.q1++([43]++(zu r q.b2 q.t2 q.q2))) (b:=[105]) (by first|omega|(simp only[fv,fw,fx]; omega)))) λA=>?_;iterate 2 refine sda A λA=>?_
      refine qa (bq _ _ (wp_ret (hret _ _ (en2 A rfl (qf rfl) (qf rfl) ?_))));exact⟨by rw[show jv r q=zu r q.b1 q.t1 q.q1++([43]++(zu r q.b2 q.t2 q.q2))++([105])from by unfold jv; rw[f7 aa',f7 (show ¬q.t1.length=0 from by omega),im4 ac ae aj]; simp only[f4,f8]]<;>rfl,V.bel⟩
  ·have ab':=fy ab;refine sdc A jh ab λA=>?_;refine qcf aq A ?_;refine wp_skip (ap _ _ (wsr fun _ br=>yq (us:=[1]) (t:=144) (m:=1) A V rfl rfl rfl (qg rfl (by kernel_rfl)) (by simp[Dig]) ?_));intro g62 _ V a A;refine yq (us:=[1]) (t:=144) (m:=1) A V rfl rfl rfl (qg rfl (by kernel_rfl)) (by simp[Dig]) ?_;intro g64 _ V a A;refine sdo (v:=.agg #[bV false,.slice (aO g62) 1 1,.slice (aO g64) 1 1]) A (qn rfl (fun w=>by kernel_rfl)) λA=>?_;refine jy (vs:=[bV false,.slice none 0 0,.slice none 0 0]) (t:=24) A V rfl rfl rfl pg (qm (z:=.agg #[bV false,.slice none 0 0,.slice none 0 0]) (by kernel_rfl) rfl) rfl ?_;intro g66 _ V a A;refine qee (us:=[bV false,.slice (aO g62) 1 1,.slice (aO g64) 1 1]) A V rfl rfl (qce rfl rfl rfl (by kernel_rfl) V 0 rfl rfl rfl) 0 rfl rfl rfl rfl ?_;intro _ V;refine qa (br _ _ (wsk fun _ ai=>wp_block (wsr fun _ av=>sdf A 3 RxI_fld_26_1 λA=>?_)));refine sdo A (zl V RxI_isS_24 rfl 1 rfl (cs:=[bV q.b2,.slice a3 q.t2.length ac3,.slice a4 q.q2.length ac4]) rfl rfl) λA=>?_;refine sdo A (zl V RxI_isS_24 rfl 0 rfl (cs:=[bV false,.slice (aO g62) 1 1,.slice (aO g64) 1 1]) rfl rfl) λA=>?_;rcases tf (xn q.b2 q.t2 q.q2 false [1] [1])with af|af
   ·refine vcl A V ec (xf ⟨(V.rd 3 rfl),ha.s3.nil,ha.s3.cap⟩ ⟨(V.rd 2 rfl),ha.s4.nil,ha.s4.cap⟩ ⟨(V.rd 1 rfl),(fun h=>by cases h),(gm _)⟩ ⟨(V.rd 0 rfl),(fun h=>by cases h),(gm _)⟩ hl.l3 hl.l4 (by decide) (by decide) af) fun _ _ V a A=>?_;refine sda A λA=>?_;refine qct av A ?_;refine wrl (mv A rfl rfl rfl λa A=>?_);refine sdo (v:=.string (bsL ([]++([43])))) A (qb rfl rfl (ql (a:=[]) (b:=[43]) (by first|omega|(simp only[fv,fw,fx]; omega)))) λA=>?_;refine sda A λA=>?_;refine qa (ai _ _ (wsr fun _ bw=>mv A rfl rfl rfl λa A=>?_));refine sdo (v:=.string (bsL ([]++([43])++([105])))) A (qb rfl rfl (ql (a:=[]++([43])) (b:=[105]) (by first|omega|(simp only[fv,fw,fx]; omega)))) λA=>?_;iterate 2 refine sda A λA=>?_
    refine qa (bw _ _ (wp_ret (hret _ _ (en2 A rfl (qf rfl) (qf rfl) ?_))));exact⟨by rw[show jv r q=[]++([43])++([105])from by unfold jv; rw[f7 aa',gj (show q.t1.length=0 from by omega),im1 af]; simp only[f4,f8]]<;>rfl,V.bel⟩
   ·refine vcl A V ec (xf ⟨(V.rd 3 rfl),ha.s3.nil,ha.s3.cap⟩ ⟨(V.rd 2 rfl),ha.s4.nil,ha.s4.cap⟩ ⟨(V.rd 1 rfl),(fun h=>by cases h),(gm _)⟩ ⟨(V.rd 0 rfl),(fun h=>by cases h),(gm _)⟩ hl.l3 hl.l4 (by decide) (by decide) af) fun _ _ V a A=>?_;refine sda A λA=>?_;refine qcf av A ?_;refine wsk fun _ aw=>xg (S:=fun w1=>St w w1 [(g66,[bV false,.slice (aO g62) 1 1,.slice (aO g64) 1 1]),(g2,[bV q.b1,.slice a1 q.t1.length ac1,.slice a2 q.q1.length ac2,bV q.b2,.slice a3 q.t2.length ac3,.slice a4 q.q2.length ac4])] [(some ⟨g64,0,none⟩,[1]),(some ⟨g62,0,none⟩,[1]),(a4,q.q2),(a3,q.t2),(a2,q.q1),(a1,q.t1)] []) (by kernel_rfl) ?_;replace V:=V.drew;refine atk (v:=pA g2 3) A 0 rfl hP V (λ_ V=>qp RxI_fld_26_1 rfl rfl) λA=>?_;refine atk A 1 rfl hP V (λ_ V=>zl V RxI_isS_24 rfl 1 rfl (cs:=[bV q.b2,.slice a3 q.t2.length ac3,.slice a4 q.q2.length ac4]) rfl rfl) λA=>?_;refine atk A 2 rfl hP V (λ_ V=>zl V RxI_isS_24 rfl 0 rfl (cs:=[bV false,.slice (aO g62) 1 1,.slice (aO g64) 1 1]) rfl rfl) λA=>?_;refine zn (by kernel_rfl) (jc A 3 rfl rfl rfl rfl (xj  rfl rfl (fun w=>by kernel_rfl)) (zaa (r:=true) rfl) ?_);rintro _ _ ⟨rfl,bz⟩;replace V:=V.call bz;refine⟨_,rfl,V,?_⟩;intro a A;rcases tf (xn q.b2 q.t2 q.q2 true [1] [1])with ag|ag
    ·refine zn (by kernel_rfl) (jc A 4 rfl rfl rfl rfl (xj  rfl rfl (fun w=>by kernel_rfl)) (xf ⟨(V.rd 3 rfl),ha.s3.nil,ha.s3.cap⟩ ⟨(V.rd 2 rfl),ha.s4.nil,ha.s4.cap⟩ ⟨(V.rd 1 rfl),(fun h=>by cases h),(gm _)⟩ ⟨(V.rd 0 rfl),(fun h=>by cases h),(gm _)⟩ hl.l3 hl.l4 (by decide) (by decide) ag) ?_);rintro _ _ ⟨rfl,cc⟩;replace V:=V.call cc;refine⟨_,rfl,V,?_⟩;intro a A;refine atk A 5 rfl hP V (λ_ V=>ji rfl) λA=>?_;refine jl (by kernel_rfl) ?_;refine aw _ _ (ct A ?_);refine wrl (mv A rfl rfl rfl λa A=>?_);refine sdo (v:=.string (bsL ([]++([45])))) A (qb rfl rfl (ql (a:=[]) (b:=[45]) (by first|omega|(simp only[fv,fw,fx]; omega)))) λA=>?_;refine sda A λA=>?_;refine qa (ai _ _ (wsr fun _ cd=>mv A rfl rfl rfl λa A=>?_));refine sdo (v:=.string (bsL ([]++([45])++([105])))) A (qb rfl rfl (ql (a:=[]++([45])) (b:=[105]) (by first|omega|(simp only[fv,fw,fx]; omega)))) λA=>?_;iterate 2 refine sda A λA=>?_
     refine qa (cd _ _ (wp_ret (hret _ _ (en2 A rfl (qf rfl) (qf rfl) ?_))));exact⟨by rw[show jv r q=[]++([45])++([105])from by unfold jv; rw[f7 aa',gj (show q.t1.length=0 from by omega),im2 ag]; simp only[f4,f8]]<;>rfl,V.bel⟩
    ·refine zn (by kernel_rfl) (jc A 4 rfl rfl rfl rfl (xj  rfl rfl (fun w=>by kernel_rfl)) (xf ⟨(V.rd 3 rfl),ha.s3.nil,ha.s3.cap⟩ ⟨(V.rd 2 rfl),ha.s4.nil,ha.s4.cap⟩ ⟨(V.rd 1 rfl),(fun h=>by cases h),(gm _)⟩ ⟨(V.rd 0 rfl),(fun h=>by cases h),(gm _)⟩ hl.l3 hl.l4 (by decide) (by decide) ag) ?_);rintro _ _ ⟨rfl,ce⟩;replace V:=V.call ce;refine⟨_,rfl,V,?_⟩;intro a A;refine atk A 5 rfl hP V (λ_ V=>ji rfl) λA=>?_;refine jl (by kernel_rfl) ?_;refine aw _ _ (cf A ?_);refine wsr fun _ cg=>sdf A 3 RxI_fld_26_1 λA=>?_;refine sdf A 3 RxI_fld_24_0 λA=>?_;refine sdo A (qw V RxI_is1_4 rfl 1 rfl rfl) λA=>?_;refine sda A λA=>?_;refine qa (cg _ _ ?_);refine wp_cond_split (t:=q.b2) (A.ev rfl) (fun ak=>?_) (fun ak=>?_)
     ·refine wrl (mv A rfl rfl rfl λa A=>?_);refine sdf A 3 RxI_fld_26_1 λA=>?_;refine sdo A (zl V RxI_isS_24 rfl 1 rfl (cs:=[bV q.b2,.slice a3 q.t2.length ac3,.slice a4 q.q2.length ac4]) rfl rfl) λA=>?_;refine sdm A λA=>?_;refine vcl A V ec (qfj (b:=q.b2) (t:=q.t2) (q:=q.q2) (r:=r) ⟨(V.rd 3 rfl),ha.s3.nil,ha.s3.cap⟩ ⟨(V.rd 2 rfl),ha.s4.nil,ha.s4.cap⟩ hr hl.l3 hl.l4) fun _ _ V a A=>?_;refine sdo (v:=.string (bsL ([]++(zu r q.b2 q.t2 q.q2)))) A (qb rfl rfl (ql (a:=[]) (b:=zu r q.b2 q.t2 q.q2) (by first|omega|(simp only[fv,fw,fx]; omega)))) λA=>?_;refine sda A λA=>?_;refine qa (ai _ _ (wsr fun _ ch=>mv A rfl rfl rfl λa A=>?_));refine sdo (v:=.string (bsL ([]++(zu r q.b2 q.t2 q.q2)++([105])))) A (qb rfl rfl (ql (a:=[]++(zu r q.b2 q.t2 q.q2)) (b:=[105]) (by first|omega|(simp only[fv,fw,fx]; omega)))) λA=>?_;iterate 2 refine sda A λA=>?_
      refine qa (ch _ _ (wp_ret (hret _ _ (en2 A rfl (qf rfl) (qf rfl) ?_))));exact⟨by rw[show jv r q=[]++(zu r q.b2 q.t2 q.q2)++([105])from by unfold jv; rw[f7 aa',gj (show q.t1.length=0 from by omega),im3 af ag ak]; simp only[f4,f8]]<;>rfl,V.bel⟩
     ·refine wrl (mv A rfl rfl rfl λa A=>?_);refine sdf A 3 RxI_fld_26_1 λA=>?_;refine sdo A (zl V RxI_isS_24 rfl 1 rfl (cs:=[bV q.b2,.slice a3 q.t2.length ac3,.slice a4 q.q2.length ac4]) rfl rfl) λA=>?_;refine sdm A λA=>?_;refine vcl A V ec (qfj (b:=q.b2) (t:=q.t2) (q:=q.q2) (r:=r) ⟨(V.rd 3 rfl),ha.s3.nil,ha.s3.cap⟩ ⟨(V.rd 2 rfl),ha.s4.nil,ha.s4.cap⟩ hr hl.l3 hl.l4) fun _ _ V a A=>?_;refine sdo (v:=.string (bsL ([43]++(zu r q.b2 q.t2 q.q2)))) A (qb rfl rfl (ql (a:=[43]) (b:=zu r q.b2 q.t2 q.q2) (by first|omega|(simp only[fv,fw,fx]; omega)))) λA=>?_;refine sdo (v:=.string (bsL ([]++([43]++(zu r q.b2 q.t2 q.q2))))) A (qb rfl rfl (ql (a:=[]) (b:=[43]++(zu r q.b2 q.t2 q.q2)) (by first|omega|(simp only[fv,fw,fx]; omega)))) λA=>?_;refine sda A λA=>?_;refine qa (ai _ _ (wsr fun _ ci=>mv A rfl rfl rfl λa A=>?_));refine sdo (v:=.string (bsL ([]++([43]++(zu r q.b2 q.t2 q.q2))++([105])))) A (qb rfl rfl (ql (a:=[]++([43]++(zu r q.b2 q.t2 q.q2))) (b:=[105]) (by first|omega|(simp only[fv,fw,fx]; omega)))) λA=>?_;iterate 2 refine sda A λA=>?_
      refine qa (ci _ _ (wp_ret (hret _ _ (en2 A rfl (qf rfl) (qf rfl) ?_))));exact⟨by rw[show jv r q=[]++([43]++(zu r q.b2 q.t2 q.q2))++([105])from by unfold jv; rw[f7 aa',gj (show q.t1.length=0 from by omega),im4 af ag ak]; simp only[f4,f8]]<;>rfl,V.bel⟩
end Go.Proofs.YtmnlfahgklnpeaaGreatDoor
