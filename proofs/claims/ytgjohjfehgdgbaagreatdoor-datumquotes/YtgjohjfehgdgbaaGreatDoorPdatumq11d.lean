/- St StOp ExH NumV NumW NumX BiA BiB NumD NumY NumS NumZ NumH NumI NumJ RxA NumR BiC BiD NumT BiE NumU BiF NumP RxB BiS ExI ExJ ExK ExL ExM BiG NumB BiH NumC BiJ NumG BiK RxC NumM NumN RxM RxD RxE ExN RfA RfB RfC RfD RfE RfF -/
import Derived.Test.YtgjohjfehgdgbaaGreatDoorPdatumq11b
import Derived.OrdersHeld
import Derived.Deep.RegionHeld3
import Derived.Laws.IdiomCopy
import Derived.ChangeKeysEq
import Derived.LoopN
import Derived.Deep.AppendLies
import Derived.Test.YtgjohjfehgdgbaaGreatDoorNatN
import Derived.Test.YtgjohjfehgdgbaaGreatDoorPdatumq11a
import Derived.Test.YtgjohjfehgdgbaaGreatDoorNatM
import Derived.Test.YtgjohjfehgdgbaaGreatDoorNatK
import Derived.Test.YtgjohjfehgdgbaaGreatDoorNatY
import Derived.Test.YtgjohjfehgdgbaaGreatDoorTxtD
import Derived.Test.YtgjohjfehgdgbaaGreatDoorPdatumq11c
import Derived.Test.YtgjohjfehgdgbaaGreatDoorNatH
import Derived.Test.YtgjohjfehgdgbaaGreatDoorNatL
import Derived.Test.YtgjohjfehgdgbaaGreatDoorBits
import Derived.Test.YtgjohjfehgdgbaaGreatDoorShelf
import Derived.Test.YtgjohjfehgdgbaaGreatDoorNatA
import Derived.Test.YtgjohjfehgdgbaaGreatDoorArith
set_option linter.unusedVariables false
set_option linter.unusedSimpArgs false
set_option maxHeartbeats 1000000
namespace Go.Proofs.YtgjohjfehgdgbaaGreatDoor
open Go.RowKit
abbrev pA(b o:Nat):Value:=.pointer (some ⟨b,o,none⟩)
abbrev iV(z:Int):Value:=.int .i64 z
abbrev bV(b:Bool):Value:=.bool b
abbrev aO(g:Nat):Option Addr:=some ⟨g,0,none⟩
theorem ns{α:Type}{l:List α}:List.Sublist [] l:=List.nil_sublist l
theorem cN{α:Type}{l m:List α}{a:α}(h:l.Sublist m):l.Sublist (a::m):=.cons _ h
theorem cC{α:Type}{l m:List α}{a:α}(h:l.Sublist m):(a::l).Sublist (a::m):=.cons_cons _ h

def vl: List (Nat×Value)→Nat→Option Value
  | [], _ => none
  | (k, v) :: t, n => cond (Nat.beq k n) (some v) (vl t n)
def ev(l:List (Nat×Value)):Operand→Option Value
  | .tmp k => vl l k
  | .const v => some v
  | .global g => some (.pointer (some ⟨g, 0, none⟩))
  | .func f => some (.func (.func f) #[] #[])
def evs(l:List (Nat×Value)):List Operand→Option (List Value)
  | [] => some []
  | x :: xs => match ev l x, evs l xs with | some v, some vs => some (v :: vs) | _, _ => none
def evp(l:List (Nat×Value)):List (Nat×Operand)→Option (List (Nat×Value))
  | [] => some []
  | (i, x) :: xs => match ev l x, evp l xs with | some v, some vs => some ((i, v) :: vs) | _, _ => none
structure Sl(a:Act)(n:Nat)(l:List (Nat×Value)):Prop where
  size:a.tmps.size=n
  holds:∀k v,vl l k=some v→a.tmps[k]?=some v
  none_:a.defers=[]
section
variable {a:Act} {n:Nat} {l:List (Nat×Value)}
theorem Sl.ev(h:Sl a n l){x:Operand}{v:Value}(hx:ev l x=some v):a.eval x=v:=by
  cases x with
  | tmp k =>
    have:=h.holds k v hx;simp[Act.eval,Array.getD_eq_getD_getElem?,this]
  | const u => simpa [YtgjohjfehgdgbaaGreatDoor.ev, Act.eval] using hx
  | global g => simpa [YtgjohjfehgdgbaaGreatDoor.ev, Act.eval] using hx
  | func f => simpa [YtgjohjfehgdgbaaGreatDoor.ev, Act.eval] using hx
theorem Sl.evs(h:Sl a n l):∀{xs:List Operand} {vs:List Value},evs l xs=some vs→xs.map a.eval=vs:=by
  intro xs
  induction xs with
  | nil => intro vs hx; simp [YtgjohjfehgdgbaaGreatDoor.evs] at hx; simp [hx]
  | cons x xs ih =>
    intro vs hx;unfold YtgjohjfehgdgbaaGreatDoor.evs at hx
    split at hx
    · rename_i v us h1 h2;cases hx
      simp[h.ev h1,ih h2]
    · cases hx
theorem Sl.evp(h:Sl a n l):∀{xs:List (Nat×Operand)} {vs:List (Nat×Value)},evp l xs=some vs→xs.map (fun p=>(p.1,a.eval p.2))=vs:=by
  intro xs
  induction xs with
  | nil => intro vs hx; simp [YtgjohjfehgdgbaaGreatDoor.evp] at hx; simp [hx]
  | cons x xs ih =>
    intro vs hx;obtain⟨i,x⟩:=x;unfold YtgjohjfehgdgbaaGreatDoor.evp at hx
    split at hx
    · rename_i v us h1 h2;cases hx
      simp[h.ev h1,ih h2]
    · cases hx
theorem Sl.put(h:Sl a n l){d:Nat}(hd:Nat.blt d n=true)(v:Value):Sl (a.put (some d) v) n ((d,v)::l):=by
  refine⟨by simp[Act.put,h.size],fun k u hk=>?_,by simp[Act.put,h.none_]⟩;have hd':d<a.tmps.size:=by rw[h.size]; exact Nat.le_of_ble_eq_true hd
  unfold vl at hk;cases hb:Nat.beq d k with
  | true =>
    rw[hb]at hk;have:d=k:=Nat.eq_of_beq_eq_true hb;subst this;simp only[cond_true,Option.some.injEq]at hk;subst hk;simp[Act.put,Array.getElem?_setIfInBounds,hd']
  | false =>
    rw[hb]at hk;have hne:d≠k:=fun e=>(by rw[e,Nat.beq_refl]at hb; cases hb);simp only[cond_false]at hk;simp[Act.put,Array.getElem?_setIfInBounds,hne,h.holds k u hk]
theorem Sl.enter{args:List Value}{m:Nat}(hl:args.length≤m):Sl { tmps:=args.toArray++Array.replicate (m-args.toArray.size) undef,defers:=[] } m (args.zipIdx.map fun p=>(p.2,p.1)):=by
  refine⟨by simp; omega,fun k v hk=>?_,rfl⟩;have key:∀(xs:List Value) (o:Nat),vl ((xs.zipIdx o).map fun p=>(p.2,p.1)) k=some v→o≤k∧xs[k-o]?=some v:=by
    intro xs
    induction xs with
    | nil => intro o h; simp [vl] at h
    | cons x xs ih =>
      intro o h;simp only[List.zipIdx_cons,List.map_cons,vl]at h;cases hb:Nat.beq o k with
      | true =>
        rw[hb]at h;have:o=k:=Nat.eq_of_beq_eq_true hb;subst this;simp only[cond_true,Option.some.injEq]at h;simp[h]
      | false =>
        rw[hb]at h;have hne:o≠k:=fun e=>(by rw[e,Nat.beq_refl]at hb; cases hb);simp only[cond_false]at h;obtain⟨h1,h2⟩:=ih _ h;refine⟨by omega,?_⟩;have:k-o=(k-(o+1))+1:=(by omega);rw[this,List.getElem?_cons_succ];exact h2
  have h:=(key args 0 hk).2;simp only[Nat.sub_zero]at h;have hlt:k<args.length:=(List.getElem?_eq_some_iff.1 h).1;rw[Array.getElem?_append_left (by simpa using hlt)];simpa using h
def AllIn(l:List (Nat×Value)):List (Nat×Value)→Prop
  | [] => True
  | p :: t => vl l p.1 = some p.2 ∧ AllIn l t
theorem Sl.keep(h:Sl a n l)(l':List (Nat×Value))(hs:AllIn l l'):Sl a n l':=by
  refine⟨h.size,?_,h.none_⟩
  induction l' with
  | nil => intro k v hk; simp [vl] at hk
  | cons p t ih =>
    intro k v hk;obtain⟨d,u⟩:=p;unfold vl at hk;cases hb:Nat.beq d k with
    | true =>
      rw[hb]at hk;have:d=k:=Nat.eq_of_beq_eq_true hb;subst this;simp only[cond_true,Option.some.injEq]at hk;subst hk;exact h.holds _ _ hs.1
    | false =>
      rw[hb]at hk;exact ih hs.2 k v hk
theorem Sl.cut(h:Sl a n l)(l':List (Nat×Value))(hl:∀k v,vl l' k=some v→vl l k=some v):Sl a n l':=⟨h.size,fun k v hk=>h.holds k v (hl k v hk),h.none_⟩
end

def Does(P:Program)(l:List (Nat×Value))(o:Oper)(w:World)(v:Value)(w':World):Prop:=
  ∀ρ:Operand→Value,(∀x u,ev l x=some u→ρ x=u)→(execOp ρ o).run P w=.ok (.value v) w'
def Sets(P:Program)(l:List (Nat×Value))(o:Oper)(w:World)(w':World):Prop:=
  ∀ρ:Operand→Value,(∀x u,ev l x=some u→ρ x=u)→(execOp ρ o).run P w=.ok .skip w'
def Enters(P:Program)(l:List (Nat×Value))(o:Oper)(w:World)(f:FuncId)(vs:List Value):Prop:=
  ∀ρ:Operand→Value,(∀x u,ev l x=some u→ρ x=u)→(execOp ρ o).run P w=.ok (.enter f vs.toArray) w
def zb(l:List (Nat×Value))(ops:List Oper)(o:Oper):Bool:=
  match o.guard with
  | none => true
  | some (j, b) => match ops[j]? with
    | some oj => match oj.dst with
      | some d => match vl l d with
        | some (.bool b') => b' == b
        | _ => false
      | none => false
    | none => false
def qgb(l:List (Nat×Value))(ops:List Oper)(o:Oper):Bool:=
  match o.guard with
  | none => false
  | some (j, b) => match ops[j]? with
    | some oj => match oj.dst with
      | some d => match vl l d with
        | some (.bool b') => b' != b
        | _ => false
      | none => false
    | none => false
section
variable {P:Program} {ops:List Oper} {Q:Exit→Act→World→Prop} {a:Act} {w w':World} {n:Nat} {l:List (Nat×Value)} {o:Oper} {v:Value} {rest:List Oper}
theorem Sl.wanted(h:Sl a n l)(hp:zb l ops o=true):Region.wanted o (yielded ops.toArray a.tmps)=true:=by
  unfold Region.wanted;unfold zb at hp
  split at hp
  · rename_i hg; rw[hg]
  · rename_i j b hg;rw[hg]
    split at hp
    · rename_i oj hj
      split at hp
      · rename_i d hd
        split at hp
        · rename_i b' hb;have:=h.holds d _ hb;simp only[beq_iff_eq]at hp;simp[yielded,hj,hd,this,hp]
        · cases hp
      · cases hp
    · cases hp
theorem Sl.unwanted(h:Sl a n l)(hp:qgb l ops o=true):Region.wanted o (yielded ops.toArray a.tmps)=false:=by
  unfold Region.wanted;unfold qgb at hp
  split at hp
  · cases hp
  · rename_i j b hg;rw[hg]
    split at hp
    · rename_i oj hj
      split at hp
      · rename_i d hd
        split at hp
        · rename_i b' hb;have:=h.holds d _ hb;simp only[bne_iff_ne,ne_eq]at hp;simp[yielded,hj,hd,this,hp]
        · cases hp
      · cases hp
    · cases hp
theorem yb(hA:Sl a n l)(hg:zb l ops o=true){d:Nat}(hdst:o.dst=some d)(hd:Nat.blt d n=true)(he:Does P l o w v w')
    (hk:∀a',Sl a' n ((d,v)::l)→wpList P ops.toArray Q rest a' w'):wpList P ops.toArray Q (o::rest) a w:=by
  unfold wpList;rw[if_pos (hA.wanted hg)];refine .inl ?_;unfold Oper.wp;rw[he a.eval (fun x u hx=>hA.ev hx),Oper.upon_value,hdst];exact hk _ (hA.put hd v)
theorem qra(hA:Sl a n l)(hg:zb l ops o=true)(hdst:o.dst=none)(he:Sets P l o w w')
    (hk:wpList P ops.toArray Q rest a w'):wpList P ops.toArray Q (o::rest) a w:=by
  unfold wpList;rw[if_pos (hA.wanted hg)];refine .inl ?_;unfold Oper.wp;rw[he a.eval (fun x u hx=>hA.ev hx),Oper.upon_skip,hdst];exact hk
theorem qf(hA:Sl a n l)(hg:qgb l ops o=true){d:Nat}(hdst:o.dst=some d)(hd:Nat.blt d n=true)
    (hk:∀a',Sl a' n ((d,undef)::l)→wpList P ops.toArray Q rest a' w):wpList P ops.toArray Q (o::rest) a w:=by
  unfold wpList;rw[hA.unwanted hg,if_neg (by simp),hdst];exact hk _ (hA.put hd undef)
theorem qlg(hA:Sl a n l)(hg:zb l ops o=true){d:Nat}(hdst:o.dst=some d)(hd:Nat.blt d n=true){f:FuncId}{vs:List Value}(he:Enters P l o w f vs)
    {R:Ending→World→Prop} (hc:Calls P f vs.toArray w R)
    (hk:∀e w',R e w'→∃v,e=.returned v∧∀a',Sl a' n ((d,v)::l)→wpList P ops.toArray Q rest a' w'):wpList P ops.toArray Q (o::rest) a w:=by
  unfold wpList;rw[if_pos (hA.wanted hg)];refine .inl ?_;unfold Oper.wp;rw[he a.eval (fun x u hx=>hA.ev hx),Oper.upon_enter];refine hc.mono ?_;intro e w' hR;obtain⟨v,rfl,h⟩:=hk e w' hR;simp only[hdst];exact h _ (hA.put hd v)
theorem qa(hk:Q .normal a w):wpList P ops.toArray Q [] a w:=hk
variable {S:World→Prop} {md:Region.Mode} {fuel:Nat} {listed:Array Bool}
theorem qsb(hA:Sl a n l)(i:Nat)(hi:ops[i]?=some o)(hg:zb l ops o=true){d:Nat}(hdst:o.dst=some d)(hd:Nat.blt d n=true)(hs:Region.noSelect ops.toArray=true)(hf:Region.free md ops.toArray listed i=true)
    (hr:(Region.ready md ops.toArray listed).contains i=true) (hQ:∀c a w,Q (.panic c) (a.put o.dst v) w→Q (.panic c) a w) (hS:S w) (he:∀w,S w→Does P l o w v w)
    (hk:∀a',Sl a' n ((d,v)::l)→wpAnyH P md ops.toArray Q S fuel (listed.setIfInBounds i true) a' w):wpAnyH P md ops.toArray Q S (fuel+1) listed a w:=by
  refine wpAnyH_take (i:=i) (oi:=o) (v:=v) (by simpa using hi) hs hf hr hQ (Or.inl ⟨hA.wanted hg,fun w hw=>he w hw a.eval (fun x u hx=>hA.ev hx)⟩) hS ?_;rw[hdst];exact hk _ (hA.put hd v)
theorem qsc(hA:Sl a n l)(i:Nat)(hi:ops[i]?=some o)(hg:zb l ops o=true){d:Nat}(hdst:o.dst=some d)(hd:Nat.blt d n=true)(hP:∀c a d v w,Q (.panic c) (Act.put a d v) w→Q (.panic c) a w)(hS:S w)(he:∀w,S w→Does P l o w v w)
    (hk:∀a',Sl a' n ((d,v)::l)→wpAnyH P md ops.toArray Q S fuel (listed.setIfInBounds i true) a' w) (hs:Region.noSelect ops.toArray=true:=by kernel_rfl) (hf:Region.free md ops.toArray listed i=true:=by kernel_rfl) (hr:(Region.ready md ops.toArray listed).contains i=true:=by kernel_rfl):wpAnyH P md ops.toArray Q S (fuel+1) listed a w:=
  qsb hA i hi hg hdst hd hs hf hr (fun c a w h=>hP c a _ _ w h) hS he hk
theorem jbc(hA:Sl a n l)(i:Nat)(hi:ops[i]?=some o)(hg:qgb l ops o=true){d:Nat}(hdst:o.dst=some d)(hd:Nat.blt d n=true)(hs:Region.noSelect ops.toArray=true)(hf:Region.free md ops.toArray listed i=true)
    (hr:(Region.ready md ops.toArray listed).contains i=true) (hQ:∀c a w,Q (.panic c) (a.put o.dst undef) w→Q (.panic c) a w) (hS:S w)
    (hk:∀a',Sl a' n ((d,undef)::l)→wpAnyH P md ops.toArray Q S fuel (listed.setIfInBounds i true) a' w):wpAnyH P md ops.toArray Q S (fuel+1) listed a w:=by
  refine wpAnyH_take (i:=i) (oi:=o) (v:=undef) (by simpa using hi) hs hf hr hQ (Or.inr ⟨hA.unwanted hg,rfl⟩) hS ?_;rw[hdst];exact hk _ (hA.put hd undef)
theorem qka(hA:Sl a n l)(i:Nat)(hi:ops[i]?=some o)(hg:qgb l ops o=true){d:Nat}(hdst:o.dst=some d)(hd:Nat.blt d n=true)(hP:∀c a d v w,Q (.panic c) (Act.put a d v) w→Q (.panic c) a w)(hS:S w)
    (hk:∀a',Sl a' n ((d,undef)::l)→wpAnyH P md ops.toArray Q S fuel (listed.setIfInBounds i true) a' w) (hs:Region.noSelect ops.toArray=true:=by kernel_rfl) (hf:Region.free md ops.toArray listed i=true:=by kernel_rfl) (hr:(Region.ready md ops.toArray listed).contains i=true:=by kernel_rfl):wpAnyH P md ops.toArray Q S (fuel+1) listed a w:=
  jbc hA i hi hg hdst hd hs hf hr (fun c a w h=>hP c a _ _ w h) hS hk
theorem jbd(hA:Sl a n l)(i:Nat)(hi:ops[i]?=some o)(hg:zb l ops o=true){d:Nat}(hdst:o.dst=some d)(hd:Nat.blt d n=true)(he:Does P l o w v w')(hS:S w')
    (hk:∀a',Sl a' n ((d,v)::l)→wpAnyH P md ops.toArray Q S fuel (listed.setIfInBounds i true) a' w'):wpOp P ops.toArray Q i (fun a' w'=>S w'∧wpAnyH P md ops.toArray Q S fuel (listed.setIfInBounds i true) a' w') a w:=by
  unfold wpOp;simp only[List.getElem?_toArray,hi];rw[if_pos (hA.wanted hg)];refine .inl ?_;unfold Oper.wp;rw[he a.eval (fun x u hx=>hA.ev hx),Oper.upon_value,hdst];exact⟨hS,hk _ (hA.put hd v)⟩
theorem zmb(hA:Sl a n l)(i:Nat)(hi:ops[i]?=some o)(hg:zb l ops o=true)(hdst:o.dst=none)(he:Sets P l o w w')(hS:S w')
    (hk:wpAnyH P md ops.toArray Q S fuel (listed.setIfInBounds i true) a w'):wpOp P ops.toArray Q i (fun a' w'=>S w'∧wpAnyH P md ops.toArray Q S fuel (listed.setIfInBounds i true) a' w') a w:=by
  unfold wpOp;simp only[List.getElem?_toArray,hi];rw[if_pos (hA.wanted hg)];refine .inl ?_;unfold Oper.wp;rw[he a.eval (fun x u hx=>hA.ev hx),Oper.upon_skip,hdst];exact⟨hS,hk⟩
theorem xk(hA:Sl a n l)(i:Nat)(hi:ops[i]?=some o)(hg:zb l ops o=true){d:Nat}(hdst:o.dst=some d)(hd:Nat.blt d n=true)
    {f:FuncId} {vs:List Value} (he:Enters P l o w f vs) {R:Ending→World→Prop} (hc:Calls P f vs.toArray w R)
    (hk:∀e w',R e w'→∃v,e=.returned v∧S w'∧∀a',Sl a' n ((d,v)::l)→wpAnyH P md ops.toArray Q S fuel (listed.setIfInBounds i true) a' w'):wpOp P ops.toArray Q i (fun a' w'=>S w'∧wpAnyH P md ops.toArray Q S fuel (listed.setIfInBounds i true) a' w') a w:=by
  unfold wpOp;simp only[List.getElem?_toArray,hi];rw[if_pos (hA.wanted hg)];refine .inl ?_;unfold Oper.wp;rw[he a.eval (fun x u hx=>hA.ev hx),Oper.upon_enter];refine hc.mono ?_;intro e w' hR;obtain⟨v,rfl,h1,h2⟩:=hk e w' hR;simp only[hdst];exact⟨h1,h2 _ (hA.put hd v)⟩
theorem zm{i:Nat}(hr:Region.ready md ops.toArray listed=[i])(h:wpOp P ops.toArray Q i (fun a' w'=>S w'∧wpAnyH P md ops.toArray Q S fuel (listed.setIfInBounds i true) a' w') a w):wpAnyH P md ops.toArray Q S (fuel+1) listed a w:=
  wpAnyH_all hr (by simp) (fun j hj=>by rw[List.mem_singleton]at hj; subst hj; exact h)
theorem zx(hr:Region.ready md ops.toArray listed=[])(hk:Q .normal a w):wpAnyH P md ops.toArray Q S fuel listed a w:=wpAnyH_done hr hk fuel
end
def qkb: Value→Bool
  | .int .u32 _ => false
  | _ => true
theorem qxe{v:Value}(h:qkb v=true):∀n,v≠.int .u32 n:=by
  intro n e;subst e;cases h
def Apart(x y:Option Addr):Prop:=∀a b,x=some a→y=some b→a.block≠b.block
def Off(x:Option Addr)(g:Nat):Prop:=∀a,x=some a→a.block≠g
structure St(w0 w:World)(L:List (Nat×List Value))(R:List (Option Addr×List Nat))(O:List (Option Addr×Nat×List Nat)):Prop where
  bel:Below w0.heap.size w0 w
  own:∀p∈L,w0.heap.size≤p.1∧Blk w p.1 p.2
  dis:L.Pairwise (fun p q=>p.1≠q.1)
  rds:∀r∈R,Rd w r.1 r.2
  rows:∀o∈O,Own w0.heap.size w o.1 o.2.1 o.2.2
  sepO:O.Pairwise (fun p q=>Apart p.1 q.1)
  sepL:∀o∈O,∀p∈L,Off o.1 p.1
  sepR:∀o∈O,∀r∈R,r.2≠[]→Apart o.1 r.1
section
variable {w0 w w':World} {L:List (Nat×List Value)} {R:List (Option Addr×List Nat)} {O:List (Option Addr×Nat×List Nat)}
theorem St.start(w:World):St w w [] [] []:=⟨Below.refl _ _,by simp,.nil,by simp,by simp,.nil,by simp,by simp⟩
theorem St.addR(h:St w0 w L R []){so:Option Addr}{l:List Nat}(hr:Rd w so l):St w0 w L ((so,l)::R) []:=
  ⟨h.bel,h.own,h.dis,fun r hm=>by rcases List.mem_cons.1 hm with rfl | hm; exact hr; exact h.rds r hm,by simp,.nil,by simp,by simp⟩
theorem St.addRO(h:St w0 w L R O){so:Option Addr}{l:List Nat}(hr:Rd w so l)(hs:∀o∈O,Apart o.1 so):St w0 w L ((so,l)::R) O:=
  ⟨h.bel,h.own,h.dis,fun r hm=>by rcases List.mem_cons.1 hm with rfl | hm; exact hr; exact h.rds r hm,h.rows,h.sepO,h.sepL,fun o ho r hm hne=>by rcases List.mem_cons.1 hm with rfl | hm; exact hs o ho; exact h.sepR o ho r hm hne⟩
theorem St.rd(h:St w0 w L R O)(k:Nat){so:Option Addr}{l:List Nat}(hk:R[k]?=some (so,l)):Rd w so l:=h.rds _ (List.mem_of_getElem? hk)
theorem St.row(h:St w0 w L R O)(k:Nat){so:Option Addr}{c:Nat}{l:List Nat}(hk:O[k]?=some (so,c,l)):Own w0.heap.size w so c l:=h.rows _ (List.mem_of_getElem? hk)
theorem St.call(h:St w0 w L R O)(hb:Below w.heap.size w w'):St w0 w' L R O:=
  ⟨chain2 h.bel hb,fun p hp=>⟨(h.own p hp).1,(h.own p hp).2.below hb⟩,h.dis,fun r hr=>(h.rds r hr).below hb,fun o ho=>(h.rows o ho).below hb,h.sepO,h.sepL,h.sepR⟩
theorem St.drew(h:St w0 w L R O):St w0 w.drew L R O:=⟨h.bel.drew,fun p hp=>⟨(h.own p hp).1,(h.own p hp).2.drew⟩,h.dis,fun r hr=>(h.rds r hr).drew,fun o ho=>(h.rows o ho).drew,h.sepO,h.sepL,h.sepR⟩
theorem St.lt(h:St w0 w L R O):∀p∈L,p.1<w.heap.size:=fun p hp=>(h.own p hp).2.lt
theorem St.new(h:St w0 w L R O)(vs:List Value)(t:TypeId)(hno:vs.all qkb=true):St w0 (w.alloc (.cells vs.toArray t)) ((w.heap.size,vs)::L) R O:=by
  have hb:Below w.heap.size w (w.alloc (.cells vs.toArray t)):=(Below.refl _ _).alloc (Nat.le_refl _) _;have h':=h.call hb;refine⟨h'.bel,fun p hp=>?_,List.pairwise_cons.2 ⟨fun q hq=>Nat.ne_of_gt (h.lt q hq),h.dis⟩,h'.rds,h'.rows,h.sepO,fun o ho p hp=>?_,h.sepR⟩
  · rcases List.mem_cons.1 hp with rfl | hp
    · exact⟨h.bel.size,Blk.new w vs t (fun v hv=>qxe (List.all_eq_true.1 hno v hv))⟩
    · exact h'.own p hp
  · rcases List.mem_cons.1 hp with rfl | hp
    · exact fun a ha=>Nat.ne_of_lt ((h.rows o ho).lt a ha).2
    · exact h.sepL o ho p hp
theorem St.newU(h:St w0 w L R O)(l:List Nat)(t:TypeId)(hd:Dig l):St w0 (w.alloc (.cells (U l).toArray t)) L ((some ⟨w.heap.size,0,none⟩,l)::R) O:=by
  have hb:Below w.heap.size w (w.alloc (.cells (U l).toArray t)):=(Below.refl _ _).alloc (Nat.le_refl _) _;refine(h.call hb).addRO ⟨hd,fun _=>⟨w.heap.size,0,rfl,by simp,fun j hj=>?_⟩⟩ (fun o ho a b ha hb=>?_)
  · rw[World.cell?_alloc_at _ _ _ _ rfl];have:=U_get l j hj;simpa using this
  · cases hb
    exact Nat.ne_of_lt ((h.rows o ho).lt a ha).2
theorem St.blk(h:St w0 w L R O)(k:Nat){g:Nat}{vs:List Value}(hk:L[k]?=some (g,vs)):Blk w g vs:=(h.own _ (List.mem_of_getElem? hk)).2
theorem St.subL(h:St w0 w L R O)(L':List (Nat×List Value))(hs:L'.Sublist L):St w0 w L' R O:=⟨h.bel,fun p hp=>h.own p (hs.subset hp),h.dis.sublist hs,h.rds,h.rows,h.sepO,fun o ho p hp=>h.sepL o ho p (hs.subset hp),h.sepR⟩
theorem St.subO(h:St w0 w L R O)(O':List (Option Addr×Nat×List Nat))(hs:O'.Sublist O):St w0 w L R O':=⟨h.bel,h.own,h.dis,h.rds,fun o ho=>h.rows o (hs.subset ho),h.sepO.sublist hs,fun o ho=>h.sepL o (hs.subset ho),fun o ho=>h.sepR o (hs.subset ho)⟩
theorem St.partD{L':List (Nat×List Value)}{R':List (Option Addr×List Nat)}{O':List (Option Addr×Nat×List Nat)}(h:St w0 w L R O)(hL:L'.Sublist L)(n:Nat)(hR:R.drop n=R')(hO:O'.Sublist O):St w0 w L' R' O':=by
  subst hR;refine St.subO (St.subL ⟨h.bel,h.own,h.dis,fun r hr=>h.rds r (List.mem_of_mem_drop hr),h.rows,h.sepO,h.sepL,fun o ho r hr=>h.sepR o ho r (List.mem_of_mem_drop hr)⟩ L' hL) O' hO
theorem St.cell(h:St w0 w L R O)(k:Nat){g:Nat}{vs:List Value}(hk:L[k]?=some (g,vs))(i:Nat){v:Value}(hi:vs[i]?=some v):w.cell? ⟨g,i,none⟩=some v:=
  (h.own _ (List.mem_of_getElem? hk)).2.cell i v hi
theorem zae{L:List (Nat×List Value)}(h:L.Pairwise (fun p q=>p.1≠q.1)){k g:Nat}{vs us:List Value}(hk:L[k]?=some (g,vs)):(L.set k (g,us)).Pairwise (fun p q=>p.1≠q.1):=by
  have e:(L.set k (g,us)).map Prod.fst=L.map Prod.fst:=by
    rw[List.map_set];apply List.ext_getElem?;intro i;by_cases hi:k=i
    · subst hi;have hlt:k<(L.map Prod.fst).length:=(by simpa using(List.getElem?_eq_some_iff.1 hk).1);rw[List.getElem?_set_self hlt];simp[hk]
    · rw[List.getElem?_set_ne hi]
  have h1:(L.map Prod.fst).Pairwise (· ≠ ·):=List.pairwise_map.2 h;rw[←e]at h1;exact List.pairwise_map.1 h1
theorem zfa{L:List (Nat×List Value)}(h:L.Pairwise (fun p q=>p.1≠q.1)){k g:Nat}{vs us:List Value}(hk:L[k]?=some (g,vs)){p:Nat×List Value}(hp:p∈L.set k (g,us)):p=(g,us)∨(p∈L∧g≠p.1):=by
  obtain⟨i,hi⟩:=List.mem_iff_getElem?.1 hp;by_cases e:k=i
  · subst e;have hlt:k<L.length:=(List.getElem?_eq_some_iff.1 hk).1;rw[List.getElem?_set_self hlt]at hi;exact .inl (Option.some.inj hi).symm
  · rw[List.getElem?_set_ne e]at hi;refine .inr ⟨List.mem_of_getElem? hi,?_⟩;have h1:=List.pairwise_iff_getElem.1 h;obtain⟨hk1,hk2⟩:=List.getElem?_eq_some_iff.1 hk;obtain⟨hi1,hi2⟩:=List.getElem?_eq_some_iff.1 hi;rcases Nat.lt_or_gt_of_ne e with hlt | hlt
    · have:=h1 k i hk1 hi1 hlt;rw[hk2,hi2]at this;exact this
    · have:=h1 i k hi1 hk1 hlt;rw[hk2,hi2]at this;exact fun e=>this e.symm
theorem zwg(w:World)(g i:Nat)(v:Value):w.grownBy (w.setCell ⟨g,i,none⟩ v) (some g):=
  ⟨rfl,rfl,rfl,by simp,fun k hk hne=>Below.heap_setCell w ⟨g,i,none⟩ v k (fun e=>hne (by rw[e]))⟩
theorem St.set(h:St w0 w L R O)(k:Nat){g:Nat}{vs:List Value}(hk:L[k]?=some (g,vs))(i:Nat)(hi:i<vs.length)(v:Value)(hv:qkb v=true):St w0 (w.setCell ⟨g,i,none⟩ v) (L.set k (g,vs.set i v)) R O:=by
  have hm:=List.mem_of_getElem? hk;have ho:=h.own _ hm;refine⟨h.bel.setCell (p:=⟨g,i,none⟩) ho.1 v,fun p hp=>?_,zae h.dis hk,fun r hr=>ho.2.rd (h.rds r hr) i v hi,fun o hO=>(h.rows o hO).kept (zwg w g i v) (fun a ha e=>h.sepL o hO _ hm a ha (by simpa using e)),h.sepO,fun o hO p hp=>?_,h.sepR⟩
  · rcases zfa h.dis hk hp with rfl | ⟨hp,hne⟩
    · exact⟨ho.1,ho.2.set i v hi (qxe hv)⟩
    · exact⟨(h.own p hp).1,(h.own p hp).2.far hne i v⟩
  · rcases zfa h.dis hk hp with rfl | ⟨hp,hne⟩
    · exact(show Off o.1 g from h.sepL o hO _ hm)
    · exact h.sepL o hO p hp
def over: List Value→Nat→List Value→List Value
  | vs, _, [] => vs
  | vs, o, c :: cs => over (vs.set o c) (o + 1) cs
theorem St.sets{g:Nat}:∀(cs:List Value) (w:World) (L:List (Nat×List Value)) (vs:List Value) (o:Nat),St w0 w L R O→∀k,L[k]?=some (g,vs)→o+cs.length≤vs.length→cs.all qkb=true→St w0 (w.setCells g o cs) (L.set k (g,over vs o cs)) R O
  | [], w, L, vs, o, h, k, hk, _, _ => by
    have:L.set k (g,over vs o [])=L:=by
      apply List.ext_getElem?;intro i;by_cases hi:k=i
      · subst hi;rw[List.getElem?_set_self (List.getElem?_eq_some_iff.1 hk).1,hk];rfl
      · rw[List.getElem?_set_ne hi]
    rw[this];exact h
  | c :: cs, w, L, vs, o, h, k, hk, hl, hc => by
    simp only[List.all_cons,Bool.and_eq_true]at hc;simp only[List.length_cons]at hl;have h1:=h.set k hk o (by omega) c hc.1;have hk1:(L.set k (g,vs.set o c))[k]?=some (g,vs.set o c):=List.getElem?_set_self (List.getElem?_eq_some_iff.1 hk).1;have h2:=St.sets cs _ _ (vs.set o c) (o+1) h1 k hk1 (by rw[List.length_set]; omega) hc.2;rw[List.set_set]at h2;exact h2
theorem Blk.grown{g:Nat}{vs:List Value}(h:Blk w g vs){row:Option Nat}(hg:w.grownBy w' row)(hne:some g≠row):Blk w' g vs:=by
  have e:=hg.block g h.lt hne;exact⟨Nat.lt_of_lt_of_le h.lt hg.size,fun i v hv=>(World.cell?_of_block (w:=w) (a:=⟨g,i,none⟩) e).trans (h.cell i v hv),fun i=>(World.frozen?_of_block (w:=w) (a:=⟨g,i,none⟩) e).trans (h.froz i),h.no⟩
theorem zaf{k:Nat}{o u p:Option Addr×Nat×List Nat}(h:O.Pairwise (fun p q=>Apart p.1 q.1))(hk:O[k]?=some o)(hp:p∈O.set k u):p=u∨(p∈O∧Apart o.1 p.1):=by
  obtain⟨i,hi⟩:=List.mem_iff_getElem?.1 hp;by_cases e:k=i
  · subst e;rw[List.getElem?_set_self (List.getElem?_eq_some_iff.1 hk).1]at hi;exact .inl (Option.some.inj hi).symm
  · rw[List.getElem?_set_ne e]at hi;refine .inr ⟨List.mem_of_getElem? hi,?_⟩;have h1:=List.pairwise_iff_getElem.1 h;obtain⟨hk1,hk2⟩:=List.getElem?_eq_some_iff.1 hk;obtain⟨hi1,hi2⟩:=List.getElem?_eq_some_iff.1 hi;rcases Nat.lt_or_gt_of_ne e with hlt | hlt
    · have:=h1 k i hk1 hi1 hlt;rw[hk2,hi2]at this;exact this
    · have:=h1 i k hi1 hk1 hlt;rw[hk2,hi2]at this;exact fun a b ha hb e=>this b a hb ha e.symm
theorem St.turn(h:St w0 w L R O)(k:Nat){ao:Option Addr}{c:Nat}{l:List Nat}(hk:O[k]?=some (ao,c,l)){bo:Option Addr}{c':Nat}{l':List Nat}(hg:w.grownBy w' (Value.slice ao l.length c).ownBlock)(ho:Own w0.heap.size w' bo c' l')(hat:∀b,bo=some b→(∃a,ao=some a∧a.block=b.block)∨b.block=w.heap.size):
    St w0 w' L R (O.set k (bo,c',l')):=by
  have hm:=List.mem_of_getElem? hk;have hrow:=h.rows _ hm;have blk:∀a,ao=some a→(Value.slice ao l.length c).ownBlock=some a.block:=fun a ha=>by rw[ha]; rfl
  have far:∀g,Off ao g→some g≠(Value.slice ao l.length c).ownBlock:=fun g hg e=>by
    cases hao:ao with
    | none => rw [hao] at e; simp [Value.ownBlock] at e
    | some a => rw [blk a hao] at e; exact hg a hao (by simpa using e.symm)
  -- what lies off the old row and is there lies off the new one
  have off:∀g,Off ao g→g<w.heap.size→Off bo g:=fun g hg hlt b hb e=>by
    rcases hat b hb with⟨a,ha,e1⟩ | e1
    · exact hg a ha (e1.trans e)
    · omega
  refine⟨h.bel.grown hg h.bel.size (fun j hj=>?_),fun p hp=>⟨(h.own p hp).1,(h.own p hp).2.grown hg (far _ (h.sepL _ hm p hp))⟩,h.dis,fun r hr=>?_,fun o hO=>?_,?_,fun o hO p hp=>?_,fun o hO r hr hne=>?_⟩
  · cases hao:ao with
    | none => rw [hao] at hj; simp [Value.ownBlock] at hj
    | some a => rw [blk a hao] at hj; cases hj; exact (hrow.lt a hao).1
  · by_cases hne:r.2=[]
    · rw[hne]; exact Rd.nil _ _
    · exact(h.rds r hr).grown hg (fun a ha=>far _ (fun x hx e=>h.sepR _ hm r hr hne x a hx ha e))
  · rcases zaf h.sepO hk hO with rfl | ⟨hO,hap⟩
    · exact ho
    · exact(h.rows o hO).kept hg (fun a ha=>far _ (fun x hx e=>hap x a hx ha e))
  · have key:∀o∈O,Apart ao o.1→Apart bo o.1:=fun o hO hap b x hb hx e=>off x.block (fun y hy ey=>hap y x hy hx ey) ((h.rows o hO).lt x hx).2 b hb e;rw[List.pairwise_iff_getElem];intro i j hi hj hij;have hi':i<O.length:=(by simpa using hi);have hj':j<O.length:=(by simpa using hj);have h1:=List.pairwise_iff_getElem.1 h.sepO;obtain⟨hk1,hk2⟩:=List.getElem?_eq_some_iff.1 hk;rw[List.getElem_set,List.getElem_set];by_cases e1:k=i
    · subst e1;rw[if_pos rfl,if_neg (by omega)];have:=h1 k j hi' hj' hij;rw[hk2]at this;exact key _ (List.getElem_mem hj') this
    · rw[if_neg e1];by_cases e2:k=j
      · subst e2;rw[if_pos rfl];have:=h1 i k hi' hj' hij;rw[hk2]at this;exact fun x b hx hb e=>key _ (List.getElem_mem hi') (fun p q hp hq e=>this q p hq hp e.symm) b x hb hx e.symm
      · rw[if_neg e2];exact h1 i j hi' hj' hij
  · rcases zaf h.sepO hk hO with rfl | ⟨hO,_⟩
    · exact off _ (h.sepL _ hm p hp) (h.lt p hp)
    · exact h.sepL o hO p hp
  · rcases zaf h.sepO hk hO with rfl | ⟨hO,_⟩
    · intro b x hb hx e;obtain⟨bb,of_,e1,hlt,_⟩:=(h.rds r hr).pos hne;rw[e1]at hx;cases hx
      exact off bb (fun y hy ey=>h.sepR _ hm r hr hne y ⟨bb,of_,none⟩ hy e1 ey) hlt b hb e
    · exact h.sepR o hO r hr hne
structure IsS(P:Program)(t:TypeId)(n:Nat):Prop where
  und:∃fs,P.underlying t=some (.struct fs)
  size:(P.info? t).map (·.size)=some n
theorem ym{P:Program}{t:TypeId}{n:Nat}(h:(P.info? t).map (·.size)=some n):∃i,P.info? t=some i∧i.size=n:=by
  cases hi:P.info? t with
  | none => rw [hi] at h; cases h
  | some i => rw [hi] at h; exact ⟨i, rfl, by simpa using h⟩
structure Is1(P:Program)(t:TypeId):Prop where
  und:∃d,P.underlying t=some d∧(match d with | .struct _ | .array _ _=>false | _=>true)=true
  size:(P.info? t).map (·.size)=some 1
def FieldAt(P:Program)(s:TypeId)(f off:Nat):Prop:=∃fs fld,P.underlying s=some (.struct fs)∧fs[f]?=some fld∧fld.offset=off∧(P.info? fld.type).map (fun i=>Nat.beq i.size 0)=some false

variable {P:Program}
theorem xt(g o j:Nat):(⟨g,o,none⟩:Addr).add j=⟨g,o+j,none⟩:=by unfold Addr.add; split<;>simp_all
theorem ko{t:TypeId}{n:Nat}(ht:IsS P t n){g o:Nat}(cs:List Value)(hl:cs.length=n)(hc:∀j v,cs[j]?=some v→w.cell? ⟨g,o+j,none⟩=some v):(loadVar t ⟨g,o,none⟩).run P w=.ok (.agg cs.toArray) w:=by
  obtain⟨fs,hu⟩:=ht.und;obtain⟨i,hi,hn⟩:=ym ht.size;have h1:(isAgg t).run P w=.ok true w:=by simp[isAgg,run_underlying hu]
  have h2:(sizeOf t).run P w=.ok cs.length w:=by simp[sizeOf,typeInfo,hi,hn,hl]
  have h3:=run_loadCells_list (P:=P) w ⟨g,o,none⟩ cs (fun j v hj=>by rw[xt]; exact hc j v hj);simp only[loadVar,Sem.run_bind,h1,Result.andThen_ok,if_true,h2,h3,Sem.run_pure]
theorem vw{t:TypeId}(ht:Is1 P t){a:Addr}{v:Value}(hc:w.cell? a=some v):(loadVar t a).run P w=.ok v w:=by
  obtain⟨d,hu,hd⟩:=ht.und;have h1:(isAgg t).run P w=.ok false w:=by
    cases d<;>first | (simp at hd; done) | simp[isAgg,run_underlying hu]
  simp only[loadVar,Sem.run_bind,h1,Result.andThen_ok,if_false,Bool.false_eq_true];simp[hc]

variable {l:List (Nat×Value)} {dst:Option Tmp} {ty:TypeId} {pos:String} {after:Array Edge} {guard:Option (Nat×Bool)} {v:Value}
theorem qx{x:Operand}(hx:ev l x=some v):Does P l ⟨dst,.move x,ty,pos,after,guard⟩ w v w:=fun ρ h=>by
  simp only[execOp,h x v hx]; rfl
theorem zk{x:Operand}(hx:ev l x=some v):Does P l ⟨dst,.assign x,ty,pos,after,guard⟩ w v w:=fun ρ h=>by
  simp only[execOp,h x v hx]; rfl
theorem jl{c x y:Operand}{b:Bool}{u u':Value}(hc:ev l c=some (.bool b))(hx:ev l x=some u)(hy:ev l y=some u')(hv:v=cond b u u'):Does P l ⟨dst,.pick c x y,ty,pos,after,guard⟩ w v w:=fun ρ h=>by
  subst hv;simp only[execOp,h c _ hc,h x _ hx,h y _ hy];cases b<;>rfl
theorem qi{x:Operand}{vs:List Value}{i:Nat}(hx:ev l x=some (.tuple vs.toArray))(hi:vs[i]?=some v):Does P l ⟨dst,.extract x i,ty,pos,after,guard⟩ w v w:=fun ρ h=>by
  simp only[execOp,h x _ hx,Instr.extract,List.getElem?_toArray,hi]; rfl
theorem xa{t:TypeId}{x:Operand}{a:Addr}(hx:ev l x=some (.pointer (some a)))(hr:(loadVar t a).run P w=.ok v w):Does P l ⟨dst,.load t x,ty,pos,after,guard⟩ w v w:=fun ρ h=>by
  simp only[execOp,h x _ hx,Instr.loadAt,Instr.sureAddr,Sem.run_bind,Sem.run_pure,Result.andThen_ok,hr]
theorem qr(hS:St w0 w L R O){t:TypeId}{n:Nat}(ht:IsS P t n){x:Operand}{g o:Nat}(hx:ev l x=some (.pointer (some ⟨g,o,none⟩)))(k:Nat){vs cs:List Value}(hk:L[k]?=some (g,vs))(hcs:(vs.drop o).take n=cs)(hl:cs.length=n):
    Does P l ⟨dst,.load t x,ty,pos,after,guard⟩ w (.agg cs.toArray) w:=
  xa hx (ko ht cs hl (fun j v hj=>hS.cell k hk (o+j) (by
    have hjn:j<n:=(by rw[←hl]; exact(List.getElem?_eq_some_iff.1 hj).1);rw[←hcs,List.getElem?_take,if_pos hjn,List.getElem?_drop]at hj;exact hj)))
theorem qh(hS:St w0 w L R O){t:TypeId}(ht:Is1 P t){x:Operand}{g o:Nat}(hx:ev l x=some (.pointer (some ⟨g,o,none⟩)))(k:Nat){vs:List Value}(hk:L[k]?=some (g,vs))(hv:vs[o]?=some v):
    Does P l ⟨dst,.load t x,ty,pos,after,guard⟩ w v w:=xa hx (vw ht (hS.cell k hk o hv))
theorem Rd.addr{so:Option Addr}{l:List Nat}{i:Nat}(h:Rd w so l)(hi:i<l.length):∃b off,so=some ⟨b,off,none⟩:=by
  obtain⟨b,off,h1,_⟩:=h.pos (fun e=>by rw[e]at hi; simp at hi);exact⟨b,off,h1⟩
theorem Rd.at_{so:Option Addr}{l:List Nat}{i b off:Nat}(h:Rd w so l)(hso:so=some ⟨b,off,none⟩)(hi:i<l.length):w.cell? ⟨b,off+i,none⟩=some (.int .u32 ((l.getD i 0:Nat):Int)):=by
  obtain⟨b',off',h1,_,h3⟩:=h.pos (fun e=>by rw[e]at hi; simp at hi);rw[hso]at h1;cases h1
  exact h3 i hi
theorem xf{so:Option Addr}{us:List Nat}{i b off:Nat}(h:Rd w so us)(hso:so=some ⟨b,off,none⟩)(hi:i<us.length){t:TypeId}(ht:Is1 P t){x:Operand}(hx:ev l x=some (.pointer (some ⟨b,off+i,none⟩))):
    Does P l ⟨dst,.load t x,ty,pos,after,guard⟩ w (.int .u32 ((us.getD i 0:Nat):Int)) w:=xa hx (vw ht (h.at_ hso hi))
theorem qe{s:TypeId}{x:Operand}{f g o off o':Nat}(hf:FieldAt P s f off)(hx:ev l x=some (.pointer (some ⟨g,o,none⟩)))(ho:o+off=o'):Does P l ⟨dst,.fieldAddr s x f,ty,pos,after,guard⟩ w (.pointer (some ⟨g,o',none⟩)) w:=fun ρ h=>by
  obtain⟨fs,fld,hu,hff,hoff,hm⟩:=hf;obtain⟨i,hi,hz⟩:∃i,P.info? fld.type=some i∧i.size≠0:=by
    cases hi:P.info? fld.type with
    | none => rw [hi] at hm; cases hm
    | some i =>
      rw[hi]at hm;refine⟨i,rfl,fun e=>?_⟩;simp[e]at hm
  subst ho;have h2:(sizeOf fld.type).run P w=.ok i.size w:=by simp[sizeOf,typeInfo,hi]
  simp only[execOp,h x _ hx,Instr.fieldAt,Sem.run_bind,run_underlying hu,Result.andThen_ok,hff,Instr.sureAddr,Sem.run_pure,fieldPlace,h2,if_neg hz,xt,hoff]
theorem zd{t:TypeId}{x:Operand}{u:Value}(hx:ev l x=some u){vs:List Value}(hc:u.cells=vs.toArray):Does P l ⟨dst,.box t x,ty,pos,after,guard⟩ w (.pointer (some ⟨w.heap.size,0,none⟩)) (w.alloc (.cells vs.toArray t)):=fun ρ h=>by
  simp only[execOp,h x _ hx,←hc]; rfl
theorem qk{t:TypeId}{z:Value}(hz:(P.info? t).map (·.zero)=some (some z)){vs:List Value}(hc:z.cells=vs.toArray):Does P l ⟨dst,.alloc t,ty,pos,after,guard⟩ w (.pointer (some ⟨w.heap.size,0,none⟩)) (w.alloc (.cells vs.toArray t)):=fun ρ h=>by
  cases hi:P.info? t with
  | none => rw [hi] at hz; cases hz
  | some i =>
    rw[hi]at hz;simp only[Option.map_some,Option.some.injEq]at hz;have h1:(zeroValue t).run P w=.ok z w:=(by simp[zeroValue,typeInfo,hi,hz]);simp only[execOp,Instr.alloc,Sem.run_bind,h1,Result.andThen_ok,←hc];rfl
theorem qs{t:TypeId}{parts:List (Nat×Operand)}{pv:List (Nat×Value)}(hp:evp l parts=some pv)(hb:∀w,(Instr.build t pv.toArray).run P w=.ok v w):Does P l ⟨dst,.build t parts.toArray,ty,pos,after,guard⟩ w v w:=fun ρ h=>by
  have e:parts.toArray.map (fun p=>(p.1,ρ p.2))=pv.toArray:=by
    simp only[List.map_toArray]
    congr 1
    have:∀(xs:List (Nat×Operand)) (vs:List (Nat×Value)),evp l xs=some vs→xs.map (fun p=>(p.1,ρ p.2))=vs:=by
      intro xs
      induction xs with
      | nil => intro vs hx; simp [evp] at hx; simp [hx]
      | cons x xs ih =>
        intro vs hx;obtain⟨i,x⟩:=x;unfold evp at hx
        split at hx
        · rename_i v us h1 h2;cases hx
          simp[h _ _ h1,ih _ h2]
        · cases hx
    exact this parts pv hp
  have e':(parts.toArray.map fun(i,x)=>(i,ρ x))=pv.toArray:=e;simp only[execOp,e',Sem.run_bind,hb w,Result.andThen_ok,Sem.run_pure]
theorem zp{t:TypeId}{n:Nat}{parts:List (Nat×Operand)}{pv:List (Nat×Value)}(hp:evp l parts=some pv){w':World}(hb:(Instr.buildSlice t n pv.toArray).run P w=.ok v w'):Does P l ⟨dst,.buildSlice t n parts.toArray,ty,pos,after,guard⟩ w v w':=fun ρ h=>by
  have e:parts.toArray.map (fun p=>(p.1,ρ p.2))=pv.toArray:=by
    simp only[List.map_toArray]
    congr 1
    have:∀(xs:List (Nat×Operand)) (vs:List (Nat×Value)),evp l xs=some vs→xs.map (fun p=>(p.1,ρ p.2))=vs:=by
      intro xs
      induction xs with
      | nil => intro vs hx; simp [evp] at hx; simp [hx]
      | cons x xs ih =>
        intro vs hx;obtain⟨i,x⟩:=x;unfold evp at hx
        split at hx
        · rename_i v us h1 h2;cases hx
          simp[h _ _ h1,ih _ h2]
        · cases hx
    exact this parts pv hp
  have e':(parts.toArray.map fun(i,x)=>(i,ρ x))=pv.toArray:=e;simp only[execOp,e',Sem.run_bind,hb,Result.andThen_ok,Sem.run_pure]
theorem zh{x:Operand}{t e:TypeId}{so:Option Addr}{n c:Nat}(hu:P.underlying t=some (.slice e))(hx:ev l x=some (.slice so n c)):Does P l ⟨dst,.call ⟨.builtin .len,#[x],#[t]⟩,ty,pos,after,guard⟩ w (.int .i64 n) w:=fun ρ h=>by
  have:=h x _ hx;simp[go_sem,this,Builtin.len_,run_underlying hu,goInt]
theorem qb{b:BinOp}{t t':TypeId}{x y:Operand}{u u':Value}(hx:ev l x=some u)(hy:ev l y=some u')(hr:∀w,(do eqGuard b t x y u u'; binOp b t u u':Sem Value).run P w=.ok v w):Does P l ⟨dst,.binOp b t x y t',ty,pos,after,guard⟩ w v w:=fun ρ h=>by
  simp only[execOp,h x _ hx,h y _ hy];rw[Sem.run_bind,hr w];rfl
theorem qp{b:UnOp}{t:TypeId}{x:Operand}{u:Value}(hx:ev l x=some u)(hr:∀w,(Op.unary b u).run P w=.ok v w):Does P l ⟨dst,.unOp b t x,ty,pos,after,guard⟩ w v w:=fun ρ h=>by
  simp only[execOp,h x _ hx,Sem.run_bind,hr w,Result.andThen_ok,Sem.run_pure]
theorem ql{t:TypeId}{x y:Operand}{g o:Nat}{u:Value}{cs:List Value}(hx:ev l x=some (.pointer (some ⟨g,o,none⟩)))(hy:ev l y=some u)(hc:u.cells=cs.toArray)(hn:(P.info? t).map (·.size)=some cs.length)
    (hS:St w0 w L R O) (k:Nat) {vs:List Value} (hk:L[k]?=some (g,vs)) (hl:Nat.ble (o+cs.length) vs.length=true) (h1:cs.all Value.oneCell'=true):Sets P l ⟨dst,.store t x y,ty,pos,after,guard⟩ w (w.setCells g o cs):=fun ρ h=>by
  obtain⟨i,hi,hsz⟩:=ym hn;have hl':o+cs.length≤vs.length:=Nat.le_of_ble_eq_true hl;have hb:=(hS.own _ (List.mem_of_getElem? hk)).2;have h2:(sizeOf t).run P w=.ok cs.length w:=by simp[sizeOf,typeInfo,hi,hsz]
  have h3:=run_storeCells_cells (P:=P) g o cs 0 w (fun j hj=>by
      have hlt:o+0+j<vs.length:=(by omega);rw[hb.cell (o+0+j) vs[o+0+j] (List.getElem?_eq_getElem hlt)]; rfl) (fun j hj=>hb.froz _) (fun v hv=>List.all_eq_true.1 h1 v hv)
  rw[Nat.add_zero]at h3;have h4:u.cells.toList=cs:=by rw[hc]
  simp only[execOp,h x _ hx,h y _ hy,Instr.storeAt,Instr.sureAddr,Sem.run_bind,Sem.run_pure,Result.andThen_ok,storeVar,h2,hc,List.size_toArray,ne_eq,not_true_eq_false,if_false,List.toList_toArray,h3]
theorem jk{x:Operand}{f:FuncId}{args:List Operand}{ts:Array TypeId}{vs:List Value}(hx:ev l x=some (.func (.func f) #[] #[]))(ha:evs l args=some vs)(hf:∀w,(invoke (.fn (.func f) #[]) vs.toArray).run P w=.ok (.enter f vs.toArray) w):
    Enters P l ⟨dst,.call ⟨.value x,args.toArray,ts⟩,ty,pos,after,guard⟩ w f vs:=fun ρ h=>by
  have e:args.map ρ=vs:=by
    have:∀(xs:List Operand) (vs:List Value),evs l xs=some vs→xs.map ρ=vs:=by
      intro xs
      induction xs with
      | nil => intro vs hx; simp [evs] at hx; simp [hx]
      | cons x xs ih =>
        intro vs hx;unfold evs at hx
        split at hx
        · rename_i v us h1 h2;cases hx
          simp[h _ _ h1,ih _ h2]
        · cases hx
    exact this args vs ha
  have:=hf w;simp[execOp,resolve,h x _ hx,Deferred.ofValue,e,this]

section
variable {ops:List Oper} {Q:Exit→Act→World→Prop} {a:Act} {n:Nat} {o:Oper} {rest:List Oper} {d:Nat}
theorem qy(hA:Sl a n l)(hS:St w0 w L R O)(hg:zb l ops o=true)(hdst:o.dst=some d)(hd:Nat.blt d n=true){vs:List Value}{t:TypeId}(val:Nat→Value)(he:Does P l o w (val w.heap.size) (w.alloc (.cells vs.toArray t)))(hno:vs.all qkb=true)
    (hk:∀g w',St w0 w' ((g,vs)::L) R O→∀a',Sl a' n ((d,val g)::l)→wpList P ops.toArray Q rest a' w'):wpList P ops.toArray Q (o::rest) a w:=
  yb hA hg hdst hd he (hk _ _ (hS.new vs t hno))
theorem qsd(hA:Sl a n l)(hS:St w0 w L R O)(hg:zb l ops o=true)(hdst:o.dst=some d)(hd:Nat.blt d n=true){us:List Nat}{t:TypeId}{m:Nat}(he:Does P l o w (.slice (some ⟨w.heap.size,0,none⟩) m m) (w.alloc (.cells (U us).toArray t)))(hu:Dig us)
    (hk:∀g w',St w0 w' L ((some ⟨g,0,none⟩,us)::R) O→∀a',Sl a' n ((d,.slice (some ⟨g,0,none⟩) m m)::l)→wpList P ops.toArray Q rest a' w'):wpList P ops.toArray Q (o::rest) a w:=
  yb hA hg hdst hd he (hk _ _ (hS.newU us t hu))
theorem zf(hA:Sl a n l)(hS:St w0 w L R O)(hg:zb l ops o=true)(hdst:o.dst=none){g q:Nat}{cs vs us:List Value}(he:Sets P l o w (w.setCells g q cs))(k:Nat)(hk0:L[k]?=some (g,vs))(hl:Nat.ble (q+cs.length) vs.length=true)(hno:cs.all qkb=true)(hus:over vs q cs=us)
    (hk:∀w',St w0 w' (L.set k (g,us)) R O→wpList P ops.toArray Q rest a w'):wpList P ops.toArray Q (o::rest) a w:=
  qra hA hg hdst he (hk _ (by subst hus; exact St.sets cs w L vs q hS k hk0 (Nat.le_of_ble_eq_true hl) hno))
variable {S:World→Prop} {md:Region.Mode} {fuel:Nat} {listed:Array Bool}
theorem jv(hA:Sl a n l)(hS:St w0 w L R O)(i:Nat)(hi:ops[i]?=some o)(hg:zb l ops o=true)(hdst:o.dst=none){g q:Nat}{cs vs us:List Value}(he:Sets P l o w (w.setCells g q cs))(k:Nat)(hk0:L[k]?=some (g,vs))(hl:Nat.ble (q+cs.length) vs.length=true)(hno:cs.all qkb=true)(hus:over vs q cs=us)
    (hk:∀w',St w0 w' (L.set k (g,us)) R O→S w'∧wpAnyH P md ops.toArray Q S fuel (listed.setIfInBounds i true) a w'):wpOp P ops.toArray Q i (fun a' w'=>S w'∧wpAnyH P md ops.toArray Q S fuel (listed.setIfInBounds i true) a' w') a w:=by
  have h:=hk _ (by subst hus; exact St.sets cs w L vs q hS k hk0 (Nat.le_of_ble_eq_true hl) hno);exact zmb hA i hi hg hdst he h.1 h.2
theorem jt{id:Nat}(hm:P.follows .mixedOrders=true)(h:wpAnyH P .any ops.toArray Q S ops.length (Array.replicate ops.length false) a w.drew):(Code.region id ops.toArray true).wp P Q a w:=
  wp_region_held (S:=S) hm (by simpa using h)
end
def kb(P:Program)(l:List (Nat×Value))(w:World):ResultVar→Value→Prop
  | .tmp t, v => vl l t = some v
  | .cell c t, v => ∃ p, vl l c = some (.pointer (some p)) ∧ (loadVar t p).run P w = .ok v w
def AllRes(P:Program)(l:List (Nat×Value))(w:World):List ResultVar→List Value→Prop
  | [], [] => True
  | r :: rs, v :: vs => kb P l w r v ∧ AllRes P l w rs vs
  | _, _ => False
theorem AllRes.nil: AllRes P l w [] []:=trivial
theorem AllRes.cons{r:ResultVar}{v:Value}{rs:List ResultVar}{vs:List Value}(h:kb P l w r v)(t:AllRes P l w rs vs):AllRes P l w (r::rs) (v::vs):=⟨h,t⟩
section
variable {a:Act} {n:Nat} {fn:Func} {Z:Ending→World→Prop}
theorem qj{t:Tmp}(h:vl l t=some v):kb P l w (.tmp t) v:=h
theorem zq(hS:St w0 w L R O){c:Tmp}{t:TypeId}{m:Nat}(ht:IsS P t m){g o:Nat}(hx:vl l c=some (.pointer (some ⟨g,o,none⟩)))(k:Nat){vs cs:List Value}(hk:L[k]?=some (g,vs))(hcs:(vs.drop o).take m=cs)(hl:cs.length=m):kb P l w (.cell c t) (.agg cs.toArray):=
  ⟨_,hx,ko ht cs hl (fun j v hj=>hS.cell k hk (o+j) (by
    have hjn:j<m:=(by rw[←hl]; exact(List.getElem?_eq_some_iff.1 hj).1);rw[←hcs,List.getElem?_take,if_pos hjn,List.getElem?_drop]at hj;exact hj))⟩
def yd(tmps:Array Value):ResultVar→Sem Value
  | .tmp t => pure (tmps.getD t undef)
  | .cell c t => do loadVar t (← asAddr (tmps.getD c undef))
def qbi: List Value→Value
  | [x] => x
  | xs => .tuple xs.toArray
theorem Sl.res(hA:Sl a n l){r:ResultVar}(h:kb P l w r v):(yd a.tmps r).run P w=.ok v w:=by
  cases r with
  | tmp t =>
    have:=hA.holds t v h;simp[yd,Array.getD_eq_getD_getElem?,this]
  | cell c t =>
    obtain⟨p,hp,hr⟩:=h;have:=hA.holds c _ hp;simp[yd,Array.getD_eq_getD_getElem?,this,asAddr,hr]
theorem yt(hA:Sl a n l):∀(rs:List ResultVar) (vs:List Value),AllRes P l w rs vs→Sem.run P (rs.mapM (yd a.tmps)) w=.ok vs w
  | [], [], _ => by simp
  | [], _ :: _, h => h.elim
  | _ :: _, [], h => h.elim
  | r :: rs, v :: vs, h => by
    have e1:=hA.res h.1;have e2:=yt hA rs vs h.2;simp only[List.mapM_cons,Sem.run_bind,e1,Result.andThen_ok,e2,Sem.run_pure]
theorem qch(hA:Sl a n l){rs:List ResultVar}(hrs:fn.results=rs.toArray){vs:List Value}(hvs:AllRes P l w rs vs)(hv:qbi vs=v)(hz:Z (.returned v) w):bodyPost P fn Z .ret a w:=by
  refine⟨hA.none_,v,?_,hz⟩;have e:=yt hA rs vs hvs;subst hv;have e':results fn a.tmps=(do let us ← fn.results.mapM (yd a.tmps); pure (if h:us.size=1 then us[0]else .tuple us)):=by
    unfold results
    congr 1
  have e2:Sem.run P (List.toArray <$> rs.mapM (yd a.tmps)) w=.ok vs.toArray w:=by
    show Sem.run P (rs.mapM (yd a.tmps) >>= fun us=>pure us.toArray) w=_;rw[Sem.run_bind,e];rfl
  rw[e',hrs,List.mapM_toArray,Sem.run_bind,e2,Result.andThen_ok]
  match vs with
  | [] => simp [qbi]
  | [x] => simp [qbi]
  | x :: y :: r => simp [qbi]
end
theorem qn{f:FuncId}{fn:Func}{c:Code}{args:List Value}{n:Nat}{Z:Ending→World→Prop}(hf:P.funcs[f]?=some fn)(hb:fn.body=some c)(hn:fn.ntmps=n)(hl:Nat.ble args.length n=true)(hs:(args.zipIdx.map fun p=>(p.2,p.1))=l)
    (h:∀Q:Exit→Act→World→Prop,(∀a w,bodyPost P fn Z .ret a w→Q .ret a w)→(∀a w,bodyPost P fn Z .ret a w→Q .normal a w)→(∀c a d v w,Q (.panic c) (Act.put a d v) w→Q (.panic c) a w)→∀a,Sl a n l→c.wp P Q a w):Calls P f args.toArray w Z:=by
  subst hs;refine calls_of_wp hf hb (h _ (fun _ _ h=>h) (fun _ _ h=>h) (fun c a d v w h=>?_) _ ?_)
  · cases d<;>exact h
  · rw[hn];exact Sl.enter (Nat.le_of_ble_eq_true hl)
section
variable {Q:Exit→Act→World→Prop} {a:Act} {c:Code}
theorem xu{m:Nat}(h:∀K:Act→World→Prop,(∀a w,Code.rounds P c Q m a w→K a w)→c.wp P (Exit.then K Q) a w):Code.rounds P c Q (m+1) a w:=h _ (fun _ _ h=>h)
theorem uh: ∀n m,n≤m→∀a w,Code.rounds P c Q n a w→Code.rounds P c Q m a w
  | 0, _, _, _, _, h => h.elim
  | n + 1, 0, hl, _, _, _ => by omega
  | n + 1, m + 1, hl, a, w, h => Code.wp_mono (fun e a w q => by
      cases e<;>first | exact uh n m (by omega) _ _ q | exact q) h
theorem jd(I:Nat→Act→World→Prop)(N:Nat)(h0:I N a w)(round:∀m a w,I m a w→∀K:Act→World→Prop,(∀m' a' w',m'<m→I m' a' w'→K a' w')→c.wp P (Exit.then K Q) a w):(Code.loop c).wp P Q a w:=by
  have key:∀m a w,I m a w→Code.rounds P c Q (m+1) a w:=by
    intro m
    induction m using Nat.strongRecOn with
    | _ m ih =>
      intro a w h;exact round m a w h _ (fun m' a' w' hm h'=>uh (m'+1) m (by omega) _ _ (ih m' hm a' w' h'))
  exact wp_loop_rounds (N+1) (key N a w h0)
end
theorem ui{t:TypeId}{x i:Operand}{u u':Value}(hx:ev l x=some u)(hi:ev l i=some u')(hr:∀w,(Instr.indexAt t u u').run P w=.ok v w):Does P l ⟨dst,.indexAddr t x i,ty,pos,after,guard⟩ w v w:=fun ρ h=>by
  simp only[execOp,h x _ hx,h i _ hi,Sem.run_bind,hr w,Result.andThen_ok,Sem.run_pure]
theorem qkc{t e:TypeId}(hu:P.underlying t=some (.slice e))(he:(P.info? e).map (·.size)=some 1){g o n c k:Nat}(hk:k<n):∀w,(Instr.indexAt t (.slice (some ⟨g,o,none⟩) n c) (.int .i64 (k:Nat))).run P w=.ok (.pointer (some ⟨g,o+k,none⟩)) w:=fun w=>by
  obtain⟨i,hi,hs⟩:=ym he;have h2:(sizeOf e).run P w=.ok 1 w:=by simp[sizeOf,typeInfo,hi,hs]
  have h3:(0:Int)≤(k:Nat)∧((k:Nat):Int)<(n:Nat):=⟨by omega,by omega⟩;simp[Instr.indexAt,asIntOf,run_underlying hu,h2,h3,xt];intro h;omega
theorem zy{t e:TypeId}(hu:P.underlying t=some (.slice e))(he:(P.info? e).map (·.size)=some 1){x i:Operand}{so:Option Addr}{b off n c k:Nat}{z:Int}(hx:ev l x=some (.slice so n c))(hi:ev l i=some (.int .i64 z))(hz:z=(k:Nat))(hso:so=some ⟨b,off,none⟩)(hk:k<n):
    Does P l ⟨dst,.indexAddr t x i,ty,pos,after,guard⟩ w (.pointer (some ⟨b,off+k,none⟩)) w:=by
  subst hso hz;exact ui hx hi (qkc hu he hk)
theorem zt{s d:TypeId}{x:Operand}{u:Value}(hx:ev l x=some u)(hr:∀w,(convert s d u).run P w=.ok v w):Does P l ⟨dst,.convert s d x,ty,pos,after,guard⟩ w v w:=fun ρ h=>by
  simp only[execOp,h x _ hx,Sem.run_bind,hr w,Result.andThen_ok,Sem.run_pure]
theorem qlh{b:Builtin}{xs:List Operand}{ts:Array TypeId}{vs:List Value}(hx:evs l xs=some vs)(hr:∀w cs,(builtin b ts ty cs vs.toArray).run P w=.ok (.value v) w):Does P l ⟨dst,.call ⟨.builtin b,xs.toArray,ts⟩,ty,pos,after,guard⟩ w v w:=fun ρ h=>by
  have e:xs.map ρ=vs:=by
    have:∀(xs:List Operand) (vs:List Value),evs l xs=some vs→xs.map ρ=vs:=by
      intro xs
      induction xs with
      | nil => intro vs hx; simp [evs] at hx; simp [hx]
      | cons x xs ih =>
        intro vs hx;unfold evs at hx
        split at hx
        · rename_i v us h1 h2;cases hx
          simp[h _ _ h1,ih _ h2]
        · cases hx
    exact this xs vs hx
  rw[BigFrame.execOp_builtin];simp only[List.map_toArray,e,hr]

section
variable {t:TypeId} {x y:Operand} {k:IntKind} {a b:Int}
theorem zs: ∀w,(do eqGuard .lss t x y (.int k a) (.int k b); binOp .lss t (.int k a) (.int k b):Sem Value).run P w=.ok (.bool (decide (a<b))) w:=fun w=>by simp[go_sem]
theorem jh: ∀w,(do eqGuard .leq t x y (.int k a) (.int k b); binOp .leq t (.int k a) (.int k b):Sem Value).run P w=.ok (.bool (decide (a≤b))) w:=fun w=>by simp[go_sem]
theorem zn: ∀w,(do eqGuard .gtr t x y (.int k a) (.int k b); binOp .gtr t (.int k a) (.int k b):Sem Value).run P w=.ok (.bool (decide (b<a))) w:=fun w=>by simp[go_sem]
theorem jc: ∀w,(do eqGuard .geq t x y (.int k a) (.int k b); binOp .geq t (.int k a) (.int k b):Sem Value).run P w=.ok (.bool (decide (b≤a))) w:=fun w=>by simp[go_sem]
theorem qg: ∀w,(do eqGuard .eql t x y (.int k a) (.int k b); binOp .eql t (.int k a) (.int k b):Sem Value).run P w=.ok (.bool (a==b)) w:=fun w=>by simp[go_sem]
theorem za: ∀w,(do eqGuard .neq t x y (.int k a) (.int k b); binOp .neq t (.int k a) (.int k b):Sem Value).run P w=.ok (.bool (a != b)) w:=fun w=>by simp[go_sem]
theorem uj{a:Int}(h0:-9223372036854775808≤a)(h1:a≤9223372036854775807):IntKind.i64.wrap a=a:=IntWalk.i64_in a ⟨h0,h1⟩
theorem kp(h:k.wrap (a+b)=a+b):∀w,(do eqGuard .add t x y (.int k a) (.int k b); binOp .add t (.int k a) (.int k b):Sem Value).run P w=.ok (.int k (a+b)) w:=fun w=>by simp[go_sem,h]
theorem zsh(h:k.wrap (a-b)=a-b):∀w,(do eqGuard .sub t x y (.int k a) (.int k b); binOp .sub t (.int k a) (.int k b):Sem Value).run P w=.ok (.int k (a-b)) w:=fun w=>by simp[go_sem,h]
theorem jbe(h:k.wrap (-a)=-a):∀w,(Op.unary .neg (.int k a)).run P w=.ok (.int k (-a)) w:=fun w=>by simp[go_sem,h]
theorem xh(hu:P.underlying t=some .bool){c d:Bool}:∀w,(do eqGuard .eql t x y (.bool c) (.bool d); binOp .eql t (.bool c) (.bool d):Sem Value).run P w=.ok (.bool (c==d)) w:=fun w=>by
  simp[go_sem,hu,run_underlying hu]
theorem ze{c:Bool}:∀w,(Op.unary .not (.bool c)).run P w=.ok (.bool (!c)) w:=fun w=>by simp[go_sem]
end
end
section
variable {P:Program} {ops:List Oper} {Q:Exit→Act→World→Prop} {a:Act} {w w':World} {n:Nat} {l:List (Nat×Value)} {o:Oper} {v:Value} {rest:List Oper} {d:Nat}
theorem sdo(hA:Sl a n l)(he:Does P l o w v w')(hk:∀a',Sl a' n ((d,v)::l)→wpList P ops.toArray Q rest a' w')(hg:zb l ops o=true:=by rfl)(hdst:o.dst=some d:=by rfl)(hd:Nat.blt d n=true:=by rfl):wpList P ops.toArray Q (o::rest) a w:=yb hA hg hdst hd he hk
theorem sdm{x:Operand}{ty:TypeId}{pos:String}{after:Array Edge}{guard:Option (Nat×Bool)}(hA:Sl a n l)(hk:∀a',Sl a' n ((d,v)::l)→wpList P ops.toArray Q rest a' w)(hx:ev l x=some v:=by rfl)(hg:zb l ops ⟨some d,.move x,ty,pos,after,guard⟩=true:=by rfl)(hd:Nat.blt d n=true:=by rfl):wpList P ops.toArray Q (⟨some d,.move x,ty,pos,after,guard⟩::rest) a w:=sdo hA (qx hx) hk hg rfl hd
theorem sda{x:Operand}{ty:TypeId}{pos:String}{after:Array Edge}{guard:Option (Nat×Bool)}(hA:Sl a n l)(hk:∀a',Sl a' n ((d,v)::l)→wpList P ops.toArray Q rest a' w)(hx:ev l x=some v:=by rfl)(hg:zb l ops ⟨some d,.assign x,ty,pos,after,guard⟩=true:=by rfl)(hd:Nat.blt d n=true:=by rfl):wpList P ops.toArray Q (⟨some d,.assign x,ty,pos,after,guard⟩::rest) a w:=sdo hA (zk hx) hk hg rfl hd
theorem sdk{c x y:Operand}{b:Bool}{u u':Value}{ty:TypeId}{pos:String}{after:Array Edge}{guard:Option (Nat×Bool)}(hA:Sl a n l)(hk:∀a',Sl a' n ((d,v)::l)→wpList P ops.toArray Q rest a' w)(hc:ev l c=some (.bool b):=by rfl)(hx:ev l x=some u:=by rfl)(hy:ev l y=some u':=by rfl)(hv:v=cond b u u':=by rfl)(hg:zb l ops ⟨some d,.pick c x y,ty,pos,after,guard⟩=true:=by rfl)(hd:Nat.blt d n=true:=by rfl):wpList P ops.toArray Q (⟨some d,.pick c x y,ty,pos,after,guard⟩::rest) a w:=sdo hA (jl hc hx hy hv) hk hg rfl hd
abbrev pg(g:Nat):Value:=.pointer (some ⟨g,0,none⟩)
theorem wsk{x y:Code}(h:∀K:Act→World→Prop,(∀a w,y.wp P Q a w→K a w)→x.wp P (Exit.then K Q) a w):(Code.seq x y).wp P Q a w:=wp_seq_k h
theorem wrl{id:Nat}{l:List Oper}(h:wpList P l.toArray Q l a w):(Code.region id l.toArray false).wp P Q a w:=wp_region_lit h
theorem tf(b:Bool):b=true∨b=false:=Bool.eq_false_or_eq_true b
theorem ef{x:Operand}{f:FuncId}{args:List Operand}{ts:Array TypeId}{vs:List Value}{dst:Option Tmp}{ty:TypeId}{pos:String}{after:Array Edge}{guard:Option (Nat×Bool)}(hx:ev l x=some (.func (.func f) #[] #[]))(ha:evs l args=some vs)(hf:∀w,(invoke (.fn (.func f) #[]) vs.toArray).run P w=.ok (.enter f vs.toArray) w:=by exact fun w=>by kernel_rfl):Enters P l ⟨dst,.call ⟨.value x,args.toArray,ts⟩,ty,pos,after,guard⟩ w f vs:=jk hx ha hf
theorem sct{f:FuncId}{vs:List Value}(hA:Sl a n l)(he:Enters P l o w f vs){R:Ending→World→Prop}(hc:Calls P f vs.toArray w R)(hk:∀e w',R e w'→∃v,e=.returned v∧∀a',Sl a' n ((d,v)::l)→wpList P ops.toArray Q rest a' w')(hg:zb l ops o=true:=by rfl)(hdst:o.dst=some d:=by rfl)(hd:Nat.blt d n=true:=by rfl):wpList P ops.toArray Q (o::rest) a w:=qlg hA hg hdst hd he hc hk
theorem sdc{b:BinOp}{t t' ty:TypeId}{x y:Operand}{u u':Value}{c e:Bool}{pos:String}{after:Array Edge}{guard:Option (Nat×Bool)}(hA:Sl a n l)(hr:∀w,(do eqGuard b t x y u u'; binOp b t u u':Sem Value).run P w=.ok (.bool c) w)(h:c=e)(hk:∀a',Sl a' n ((d,.bool e)::l)→wpList P ops.toArray Q rest a' w)(hx:ev l x=some u:=by rfl)(hy:ev l y=some u':=by rfl)(hg:zb l ops ⟨some d,.binOp b t x y t',ty,pos,after,guard⟩=true:=by rfl)(hd:Nat.blt d n=true:=by rfl):wpList P ops.toArray Q (⟨some d,.binOp b t x y t',ty,pos,after,guard⟩::rest) a w:=sdo hA (qb hx hy (h▸hr)) hk hg rfl hd
variable {fn:Func} {Z:Ending→World→Prop} {r1 r2 r3:ResultVar} {v1 v2 v3:Value}
theorem en1(hA:Sl a n l)(hrs:fn.results=#[r1])(h1:kb P l w r1 v1)(hz:Z (.returned v1) w):bodyPost P fn Z .ret a w:=qch hA (rs:=[r1]) hrs (.cons h1 .nil) rfl hz
theorem en2(hA:Sl a n l)(hrs:fn.results=#[r1,r2])(h1:kb P l w r1 v1)(h2:kb P l w r2 v2)(hz:Z (.returned (.tuple #[v1,v2])) w):bodyPost P fn Z .ret a w:=qch hA (rs:=[r1,r2]) hrs (.cons h1 (.cons h2 .nil)) rfl hz
theorem en3(hA:Sl a n l)(hrs:fn.results=#[r1,r2,r3])(h1:kb P l w r1 v1)(h2:kb P l w r2 v2)(h3:kb P l w r3 v3)(hz:Z (.returned (.tuple #[v1,v2,v3])) w):bodyPost P fn Z .ret a w:=qch hA (rs:=[r1,r2,r3]) hrs (.cons h1 (.cons h2 (.cons h3 .nil))) rfl hz
end
section
variable {P:Program} {ops:List Oper} {Q:Exit→Act→World→Prop} {a:Act} {w w':World} {n:Nat} {l:List (Nat×Value)} {o:Oper} {v:Value} {d:Nat} {S:World→Prop} {md:Region.Mode} {fuel:Nat} {listed:Array Bool}
theorem ct{c:Operand}{x y:Code}(hA:Sl a n l)(h:x.wp P Q a w)(hx:ev l c=some (.bool true):=by rfl):(Code.cond c x y).wp P Q a w:=wp_cond_true (hA.ev hx) h
theorem cf{c:Operand}{x y:Code}(hA:Sl a n l)(h:y.wp P Q a w)(hx:ev l c=some (.bool false):=by rfl):(Code.cond c x y).wp P Q a w:=wp_cond_false (hA.ev hx) h
theorem atk(hA:Sl a n l)(i:Nat)(hi:ops[i]?=some o)(hP:∀c a d v w,Q (.panic c) (Act.put a d v) w→Q (.panic c) a w)(hS:S w)(he:∀w,S w→Does P l o w v w)(hk:∀a',Sl a' n ((d,v)::l)→wpAnyH P md ops.toArray Q S fuel (listed.setIfInBounds i true) a' w)(hg:zb l ops o=true:=by rfl)(hdst:o.dst=some d:=by rfl)(hd:Nat.blt d n=true:=by rfl)(hs:Region.noSelect ops.toArray=true:=by kernel_rfl)(hf:Region.free md ops.toArray listed i=true:=by kernel_rfl)(hr:(Region.ready md ops.toArray listed).contains i=true:=by kernel_rfl):wpAnyH P md ops.toArray Q S (fuel+1) listed a w:=qsc hA i hi hg hdst hd hP hS he hk hs hf hr
theorem amv{x:Operand}{ty:TypeId}{pos:String}{after:Array Edge}{guard:Option (Nat×Bool)}(hA:Sl a n l)(i:Nat)(hi:ops[i]?=some ⟨some d,.move x,ty,pos,after,guard⟩)(hP:∀c a d v w,Q (.panic c) (Act.put a d v) w→Q (.panic c) a w)(hS:S w)(hk:∀a',Sl a' n ((d,v)::l)→wpAnyH P md ops.toArray Q S fuel (listed.setIfInBounds i true) a' w)(hx:ev l x=some v:=by rfl)(hg:zb l ops ⟨some d,.move x,ty,pos,after,guard⟩=true:=by rfl)(hd:Nat.blt d n=true:=by rfl)(hs:Region.noSelect ops.toArray=true:=by kernel_rfl)(hf:Region.free md ops.toArray listed i=true:=by kernel_rfl)(hr:(Region.ready md ops.toArray listed).contains i=true:=by kernel_rfl):wpAnyH P md ops.toArray Q S (fuel+1) listed a w:=qsc hA i hi hg rfl hd hP hS (fun w _=>qx hx) hk hs hf hr
theorem dbK{b:BinOp}{t t' ty:TypeId}{x y:Operand}{u u':Value}{dst:Option Tmp}{pos:String}{after:Array Edge}{guard:Option (Nat×Bool)}(hx:ev l x=some u:=by rfl)(hy:ev l y=some u':=by rfl)(hr:∀w,(do eqGuard b t x y u u'; binOp b t u u':Sem Value).run P w=.ok v w:=by exact fun w=>by kernel_rfl):Does P l ⟨dst,.binOp b t x y t',ty,pos,after,guard⟩ w v w:=qb hx hy hr
variable {fn:Func} {Z:Ending→World→Prop} {r1:ResultVar} {v1:Value} {t:Tmp}
theorem wr1(hret:∀a w,bodyPost P fn Z .ret a w→Q .ret a w)(hA:Sl a n l)(hz:Z (.returned v1) w)(hrs:fn.results=#[.tmp t]:=by rfl)(h1:vl l t=some v1:=by rfl):Code.ret.wp P Q a w:=wp_ret (hret _ _ (qch hA (rs:=[.tmp t]) hrs (.cons (qj h1) .nil) rfl hz))
end
set_option maxRecDepth 1000000 in
theorem zmd{w:World}{b1 b2:Bool}{o1 o2 o3 o4:Option Addr}{m1 m2 m3 m4 c1 c2 c3 c4:Nat}(h:m3≤9223372036854775807):
    Calls Tryz.prog 77 #[.agg #[.bool b1,.slice o1 m1 c1,.slice o2 m2 c2,.bool b2,.slice o3 m3 c3,.slice o4 m4 c4]] w fun e w'=>e=.returned (.bool (decide (m3=0)))∧Below w.heap.size w w':=by
  have HAL:Hid (∀o,Below w.heap.size w (w.alloc o)):=fun o=>(Below.refl _ _).alloc (Nat.le_refl _) o;by_cases hm:m3=0
  · subst hm
    go_enter Tryz.func77,Tryz.ntmps77
    go_wp2
    go_ret
    exact⟨rfl,HAL.out _⟩
  · have e:decide (m3=0)=false:=decide_eq_false hm;rw[e];have hm1:((m3:Int)==0)=false:=(by simp; omega);clear e
    go_enter Tryz.func77,Tryz.ntmps77
    go_wp2
    go_ret
    exact⟨rfl,HAL.out _⟩
theorem xz{w w':World}(h:w'=w):Below w.heap.size w w':=h▸Below.refl _ _
structure Sc(w:World)(o:Option Addr)(c:Nat)(l:List Nat):Prop where
 rd:Rd w o l
 nil:o=none→c=0
 cap:l.length≤c
theorem Sc.below{w w':World}{o:Option Addr}{c:Nat}{l:List Nat}(h:Sc w o c l)(hb:Below w.heap.size w w'):Sc w' o c l:=⟨h.rd.below hb,h.nil,h.cap⟩
theorem Sc.none(w:World):Sc w none 0 []:=⟨Rd.nil _ _,fun _=>rfl,Nat.le_refl _⟩
structure Q6 where
 b1:Bool
 t1:List Nat
 q1:List Nat
 b2:Bool
 t2:List Nat
 q2:List Nat
def qkd(q:Q6)(o1:Option Addr)(c1:Nat)(o2:Option Addr)(c2:Nat)(o3:Option Addr)(c3:Nat)(o4:Option Addr)(c4:Nat):Value:=
 .agg #[bV q.b1,.slice o1 q.t1.length c1,.slice o2 q.q1.length c2,bV q.b2,.slice o3 q.t2.length c3,.slice o4 q.q2.length c4]
structure Nm(w:World)(q:Q6)(o1:Option Addr)(c1:Nat)(o2:Option Addr)(c2:Nat)(o3:Option Addr)(c3:Nat)(o4:Option Addr)(c4:Nat):Prop where
 s1:Sc w o1 c1 q.t1
 s2:Sc w o2 c2 q.q1
 s3:Sc w o3 c3 q.t2
 s4:Sc w o4 c4 q.q2
def Q6.zero: Q6:=⟨false,[],[],false,[],[]⟩
def Q6.whole(b:Bool)(x:Nat):Q6:=⟨b,words x,[1],false,[],[1]⟩
def AnsN(w:World)(r:Q6×Int)(e:Ending)(w':World):Prop:=∃o1 c1 o2 c2 o3 c3 o4 c4,e=.returned (.tuple #[qkd r.1 o1 c1 o2 c2 o3 c3 o4 c4,iV r.2])∧Nm w' r.1 o1 c1 o2 c2 o3 c3 o4 c4∧Below w.heap.size w w'
theorem qhd: words 1=[1]:=by rw[words_pos (by omega)]; simp[words_zero]
theorem juc(w:World):Calls Tryz.prog 80 #[.int .u64 1] w (Row1 w [1]):=by
 have h:=of_any 1 w (by omega);rw[qhd]at h;exact h
theorem jr{x:Nat}(h:(words x).length≤512):sound (words x)=true:=(sound_iff _).2 ⟨h,words_top x⟩
structure LenQ(q:Q6):Prop where
 l1:q.t1.length≤9223372036854775807
 l2:q.q1.length≤9223372036854775807
 l3:q.t2.length≤9223372036854775807
 l4:q.q2.length≤9223372036854775807
def jf(q:Q6):Bool:=qdj q.b1 q.t1 q.q1 q.b2 q.t2 q.q2
def qea(q:Q6):Bool:=jf q&&(decide (q.t2.length=0)&&decide (q.q1=[1]))
theorem ye{w:World}{q:Q6}{o1 o2 o3 o4:Option Addr}{c1 c2 c3 c4:Nat}(h:Nm w q o1 c1 o2 c2 o3 c3 o4 c4)(hl:LenQ q){r:Bool}(hr:jf q=r):
  Calls Tryz.prog 42 #[qkd q o1 c1 o2 c2 o3 c3 o4 c4] w fun e w'=>e=.returned (bV r)∧Below w.heap.size w w':=by
 subst hr;exact zmc c1 c2 c3 c4 h.s1.rd h.s2.rd h.s3.rd h.s4.rd hl.l1 hl.l2 hl.l3 hl.l4 h.s1.nil h.s2.nil h.s3.nil h.s4.nil
theorem yn{w:World}{q:Q6}{o1 o2 o3 o4:Option Addr}{c1 c2 c3 c4:Nat}(hl:LenQ q){r:Bool}(hr:decide (q.t2.length=0)=r):
  Calls Tryz.prog 77 #[qkd q o1 c1 o2 c2 o3 c3 o4 c4] w fun e w'=>e=.returned (bV r)∧Below w.heap.size w w':=by
 subst hr;exact zmd hl.l3
theorem qad{w:World}{ao:Option Addr}{l:List Nat}(ca:Nat)(ha:Rd w ao l)(hl:l.length≤9223372036854775807){r:Bool}(hr:decide (l=[1])=r):
  Calls Tryz.prog 78 #[.slice ao l.length ca] w fun e w'=>e=.returned (bV r)∧w'=w:=by
 subst hr;exact qxd ca ha hl
theorem zme{q:Q6}(hd1:Dig q.t1)(hd4:Dig q.q2)(h:qea q=true):∃x,q=Q6.whole q.b1 x∧(words x).length≤512∧q.b1.toNat≤x:=by
 unfold qea jf qdj at h;simp only[Bool.and_eq_true,decide_eq_true_eq]at h;obtain⟨⟨h1,h2⟩,h3,h4⟩:=h;have h3':=List.length_eq_zero_iff.1 h3;have hs1:sound q.t1=true:=by
  apply Classical.byContradiction;intro hn;unfold kx qni at h1;simp[hn]at h1
 obtain⟨e1,l1⟩:=sound_words hd1 hs1;have hq2:q.q2=[1]:=by
  unfold kx qni at h2;rw[h3']at h2;by_cases hs:sound q.q2=true
  ·have hs0:sound []=true:=(by decide);simp only[hs0,hs,Bool.and_self,if_true,val_nil,Nat.gcd_zero_left,Bool.and_eq_true,decide_eq_true_eq]at h2;have:=h2.2.2;rw[←(sound_words hd4 hs).1]at this;exact this
  ·simp[hs]at h2
 have hb2:q.b2=false:=by
  unfold kx at h2;rw[h3']at h2;cases hb:q.b2 with
  | false => rfl
  | true => rw [hb] at h2; simp at h2
 refine⟨val q.t1,?_,by rw[←e1]; exact l1,?_⟩
 ·cases q
  simp only[Q6.whole]at *
  rw[←e1,h4,h3',hq2,hb2]
 ·cases hb:q.b1 with
  | false => simp
  | true =>
   unfold kx at h1;rw[hb]at h1;simp only[Bool.and_true,Bool.and_eq_true,Bool.not_eq_true',Bool.or_eq_false_iff,decide_eq_false_iff_not]at h1;have hne:=h1.1.2;have:val q.t1≠0:=by
    intro e;rw[e,words_zero]at e1;rw[e1]at hne;exact hne rfl
   simp;omega
def rb(z:Int):Bool:=decide (z<0)
def rt(z:Int)(d:Nat):Nat:=z.natAbs / Nat.gcd z.natAbs d
def rq(z:Int)(d:Nat):Nat:=d / Nat.gcd z.natAbs d
def AnsF(w:World)(b:Bool)(t q:List Nat)(e:Ending)(w':World):Prop:=∃o1 c1 o2 c2,e=.returned (.agg #[bV b,.slice o1 t.length c1,.slice o2 q.length c2])∧Sc w' o1 c1 t∧Sc w' o2 c2 q∧Below w.heap.size w w'
theorem zmg{x d:Nat}(h:d≠0):Nat.gcd x d≠0:=fun e=>h (Nat.eq_zero_of_gcd_eq_zero_right e)
theorem ztc{x g k:Nat}(h:(words x).length≤k):(words (x / g)).length≤k:=Nat.le_trans (words_mono (Nat.div_le_self x g)) h
theorem ztd{x d k:Nat}(hd:d≠0)(h:(words d).length≤k):(words (Nat.gcd x d)).length≤k:=Nat.le_trans (words_mono (Nat.gcd_le_right x (by omega))) h
theorem uf{x:Nat}:0<(words x).length↔x≠0:=by
 rw[List.length_pos_iff];exact not_congr words_eq_nil
def AnsZ(w:World)(z:Int)(e:Ending)(w':World):Prop:=∃o c,e=.returned (.agg #[bV (rb z),.slice o (words z.natAbs).length c])∧Sc w' o c (words z.natAbs)∧Below w.heap.size w w'
theorem AnsZ.sgn{w w':World}{b b':Bool}{n:Nat}{z:Int}{o:Option Addr}{c:Nat}(hz:sgn b n=z)(hb:rb (sgn b n)=b')(hs:Sc w' o c (words n))(hbel:Below w.heap.size w w'):AnsZ w z (.returned (.agg #[bV b',.slice o (words n).length c])) w':=by
 subst hz hb;refine⟨o,c,?_,?_,hbel⟩
 ·rw[qlf]
 ·rw[qlf]; exact hs
theorem vb{b:Bool}{x y:Nat}(hx:(words x).length≤512)(hy:(words y).length≤512):kx b (words x) (words y)=(!(decide ((words y).length=0)||(decide ((words x).length=0)&&b))&&decide (words (Nat.gcd x y)=[1])):=by
 unfold kx qni;simp only[jr hx,jr hy,val_words,Bool.and_self,if_true,decide_true,Bool.true_and]
set_option maxRecDepth 100000
theorem BiB_is1_99: Is1 Tryz.prog 99:=⟨⟨_,Tryz.underlying99,rfl⟩,by kernel_rfl⟩
theorem zwi{w:World}{ao bo:Option Addr}{l1 l2:List Nat}(ca cb:Nat)(ha:Rd w ao l1)(hb:Rd w bo l2)(h1:l1.length≤9223372036854775807)(h2:l2.length≤9223372036854775807):Calls Tryz.prog 49 #[.slice ao l1.length ca,.slice bo l2.length cb] w fun e w'=>e=.returned (bV (decide (l1=l2)))∧Below w.heap.size w w':=by
 have V:St w w [] [(bo,l2),(ao,l1)] []:=((St.start w).addR ha).addR hb;refine qn (l:=[(0,.slice ao l1.length ca),(1,.slice bo l2.length cb)]) Tryz.func49 rfl Tryz.ntmps49 rfl rfl ?_;intro Q hret hnorm hP a A;refine wsk fun K1 hK1=>wrl (sda A λa A=>?_);refine qa (hK1 _ _ (wsk fun K2 hK2=>wsk fun K3 hK3=>wrl (sdm A λa A=>?_)));refine sdo A (zh Tryz.underlying22 rfl) λa A=>?_;refine sdm A λa A=>?_;refine sdo A (zh Tryz.underlying22 rfl) λa A=>?_;rcases tf ((((l1.length:Nat):Int) != ((l2.length:Nat):Int)))with hb4 | hb4
 ·have hb4':=bne_iff_ne.1 hb4;refine sdc A za hb4 λa A=>?_;refine qa (hK3 _ _ (ct A ?_));refine wsk fun K5 hK5=>wrl (sda A λa A=>?_);refine qa (hK5 _ _ (wr1 hret A ?_));exact⟨by rw[decide_eq_false (fun e=>by subst e; omega)],V.bel⟩
 ·have hb4':=bne_eq_false_iff_eq.1 hb4;refine sdc A za hb4 λa A=>?_;refine qa (hK3 _ _ (cf A ?_));refine wp_skip (hK2 _ _ (wsk fun K6 hK6=>wsk fun K7 hK7=>wrl (sda A λa A=>?_)));refine qa (hK7 _ _ (wp_block (jd (fun m a w1=>∃(i:Nat),m=l1.length-i∧(i≤l1.length∧∀j,j<i→l1.getD j 0=l2.getD j 0)∧Sl a 26 [(0,.slice ao l1.length ca),(1,.slice bo l2.length cb),(5,iV (((i:Nat):Int))),(6,.slice ao l1.length ca),(7,iV (((l1.length:Nat):Int))),(8,.slice bo l2.length cb),(9,iV (((l2.length:Nat):Int))),(10,bV false)]∧St w w1 [] [(bo,l2),(ao,l1)] []) _ ⟨0,rfl,⟨by omega,fun j hj=>by omega⟩,A.keep _ (by repeat' constructor),V⟩ ?_)));clear V A;rintro m a w8 ⟨i,rfl,hinv10,A,V⟩ K9 hK9;have hle:=hinv10.1;refine wsk fun K11 hK11=>wsk fun K12 hK12=>wrl ?_;iterate 2 refine sdm A λa A=>?_
  refine sdo A (zh Tryz.underlying22 rfl) λa A=>?_;rcases tf (decide (((i:Nat):Int)<((l1.length:Nat):Int)))with hb13 | hb13
  ·have hb13':=of_decide_eq_true hb13;refine sdc A zs hb13 λa A=>?_;refine qa (hK12 _ _ (ct A ?_));refine wp_skip (hK11 _ _ (wsk fun K14 hK14=>wp_block (wsk fun K15 hK15=>jt (S:=fun w1=>St w w1 [] [(bo,l2),(ao,l1)] []) (by kernel_rfl) ?_)));replace V:=V.drew;refine atk A 0 rfl hP V (λ_ V=>qx rfl) λa A=>?_;refine atk A 1 rfl hP V (λ_ V=>qx rfl) λa A=>?_;have hi19:i<l1.length:=by first | omega | (simp only[List.length_set]; omega)
   obtain⟨b16,f17,hso18⟩:=Rd.addr (V.rd 1 rfl) hi19;refine atk (v:=pA b16 (f17+i)) A 2 rfl hP V (λ_ V=>zy (k:=i) Tryz.underlying22 (by kernel_rfl) rfl rfl (by omega) hso18 hi19) λa A=>?_;refine atk (v:=.int .u32 (((l1.getD i 0:Nat):Int))) A 3 rfl hP V (λ_ V=>xf (V.rd 1 rfl) hso18 hi19 BiB_is1_99 rfl) λa A=>?_;refine atk A 4 rfl hP V (λ_ V=>qx rfl) λa A=>?_;refine atk A 5 rfl hP V (λ_ V=>qx rfl) λa A=>?_;have hi23:i<l2.length:=by first | omega | (simp only[List.length_set]; omega)
   obtain⟨b20,f21,hso22⟩:=Rd.addr (V.rd 0 rfl) hi23;refine atk (v:=pA b20 (f21+i)) A 6 rfl hP V (λ_ V=>zy (k:=i) Tryz.underlying22 (by kernel_rfl) rfl rfl (by omega) hso22 hi23) λa A=>?_;refine atk (v:=.int .u32 (((l2.getD i 0:Nat):Int))) A 7 rfl hP V (λ_ V=>xf (V.rd 0 rfl) hso22 hi23 BiB_is1_99 rfl) λa A=>?_;rcases tf ((((l1.getD i 0:Nat):Int) != ((l2.getD i 0:Nat):Int)))with hb24 | hb24
   ·have hb24':=bne_iff_ne.1 hb24;refine atk (v:=bV true) A 8 rfl hP V (λ_ V=>qb rfl rfl (fun w=>(za w).trans (by rw[hb24]))) λa A=>?_;refine zx (by kernel_rfl) ?_;refine hK15 _ _ (ct A ?_);refine wsk fun K25 hK25=>wrl (sda A λa A=>?_);refine qa (hK25 _ _ (wr1 hret A ?_));exact⟨by rw[decide_eq_false (fun e=>by subst e; omega)],V.bel⟩
   ·have hb24':=bne_eq_false_iff_eq.1 hb24;refine atk (v:=bV false) A 8 rfl hP V (λ_ V=>qb rfl rfl (fun w=>(za w).trans (by rw[hb24]))) λa A=>?_;refine zx (by kernel_rfl) ?_;refine hK15 _ _ (cf A ?_);refine wp_skip (hK14 _ _ (wrl (sdm A λa A=>?_)));refine sdo (v:=iV (((i+1:Nat):Int))) A (qb rfl rfl (fun w=>(kp (uj (by omega) (by omega)) w).trans (by rw[show(((i:Nat):Int)+1:Int)=((i+1:Nat):Int)from by omega]))) λa A=>?_;refine sda A λa A=>?_;refine qa ?_;refine hK9 _ _ _ (by omega) ⟨i+1,rfl,⟨by omega,fun j hj=>by rcases Nat.lt_succ_iff_lt_or_eq.1 hj with h | h; exact hinv10.2 j h; subst h; omega⟩,A.keep _ (by repeat' constructor),V⟩
  ·have hb13':=of_decide_eq_false hb13;refine sdc A zs hb13 λa A=>?_;refine qa (hK12 _ _ (cf A ?_));refine wp_exit (hK6 _ _ (wsk fun K26 hK26=>wrl (sda A λa A=>?_)));refine qa (hK26 _ _ (wr1 hret A ?_));exact⟨by rw[decide_eq_true (list_of_getD (by omega) (fun j hj=>hinv10.2 j (by omega)))],V.bel⟩
section
variable {P:Program}
end
def yu(b:Bool)(t q:List Nat)(b':Bool)(t' q':List Nat):Bool:=(b==b')&&(decide (t=t')&&decide (q=q'))
def qge(u:Rat):Prop:=(words u.num.natAbs).length≤512∧(words u.den).length≤512
instance (u : Rat) : Decidable (qge u) := inferInstanceAs (Decidable (_ ∧ _))
def Q6.rat(u v:Rat):Q6:=⟨rb u.num,words u.num.natAbs,words u.den,rb v.num,words v.num.natAbs,words v.den⟩
theorem jbj(x:Int){d:Nat}(hd:d≠0):rt x d=(mkRat x d).num.natAbs:=by
 rw[Rat.num_mkRat,if_neg hd,Nat.gcd_comm];unfold rt;have hg:((Nat.gcd x.natAbs d:Nat):Int)∣x:=Int.ofNat_dvd_left.2 (Nat.gcd_dvd_left _ _);rw[Int.natAbs_ediv_of_dvd hg,Int.natAbs_natCast]
theorem jca(x:Int){d:Nat}(hd:d≠0):rq x d=(mkRat x d).den:=by
 rw[Rat.den_mkRat,if_neg hd,Nat.gcd_comm];rfl
theorem jta(x:Int){d:Nat}(hd:d≠0):rb x=rb (mkRat x d).num:=by
 rw[Rat.num_mkRat,if_neg hd];unfold rb;have hg:0<((Nat.gcd d x.natAbs:Nat):Int):=by
  have:=zmg (x:=x.natAbs) hd;rw[Nat.gcd_comm]at this;omega
 have h2:((Nat.gcd d x.natAbs:Nat):Int)∣x:=Int.ofNat_dvd_left.2 (Nat.gcd_dvd_right _ _);obtain⟨k,hk⟩:=h2;generalize ((Nat.gcd d x.natAbs:Nat):Int)=g at *
 rw[hk];rw[Int.mul_ediv_cancel_left _ (by omega)];by_cases h:k<0
 ·have:=Int.mul_neg_of_pos_of_neg hg h;rw[decide_eq_true h,decide_eq_true this]
 ·have:=Int.mul_nonneg (Int.le_of_lt hg) (by omega:0≤k);rw[decide_eq_false h,decide_eq_false (by omega)]
theorem qxj{u:Rat}(h:qge u):kx (rb u.num) (words u.num.natAbs) (words u.den)=true:=by
 unfold kx qni;rw[jr h.1,jr h.2];have h1:¬(words u.den).length=0:=by have:=(uf (x:=u.den)).2 u.den_nz; omega
 have h2:Nat.gcd u.num.natAbs u.den=1:=u.reduced;simp only[Bool.and_self,if_true,val_words,h2,qhd,decide_true,Bool.and_true,decide_eq_false h1,Bool.false_or];by_cases hz:u.num=0
 ·rw[hz,show rb 0=false from rfl,Bool.and_false]; rfl
 ·have h3:¬(words u.num.natAbs).length=0:=by have:=(uf (x:=u.num.natAbs)).2 (by omega); omega
  rw[decide_eq_false h3];rfl
theorem qsh{u v:Rat}(hu:qge u)(hv:qge v):jf (Q6.rat u v)=true:=by
 unfold jf qdj Q6.rat;rw[qxj hu,qxj hv];rfl
theorem qya{b:Bool}{t q:List Nat}(ht:Dig t)(hq:Dig q)(h:kx b t q=true):∃u:Rat,qge u∧b=rb u.num∧t=words u.num.natAbs∧q=words u.den:=by
 unfold kx qni at h;by_cases hs:(sound t&&sound q)=true
 ·rw[if_pos hs]at h;rw[Bool.and_eq_true]at hs;obtain⟨e1,l1⟩:=sound_words ht hs.1;obtain⟨e2,l2⟩:=sound_words hq hs.2;simp only[Bool.and_eq_true,decide_eq_true_eq,Bool.not_eq_true',Bool.or_eq_false_iff,decide_eq_false_iff_not]at h;obtain⟨⟨h1,h2⟩,_,h3⟩:=h;have hd:val q≠0:=fun e=>h1 (by rw[e2,e,words_zero]; rfl);have hg:Nat.gcd (val t) (val q)=1:=by
   have:=congrArg val h3;rw[val_words]at this;rw[this,←qhd,val_words]
  refine⟨⟨sgn b (val t),val q,hd,by rw[qlf]; exact hg⟩,⟨by simp only[qlf]; rw[←e1]; exact l1,by rw[←e2]; exact l2⟩,?_,by simp only[qlf]; exact e1,e2⟩;unfold rb;simp only[];rw[jmd];cases b with
  | false => rfl
  | true =>
   have:0<val t:=by
    apply Nat.pos_of_ne_zero;intro e;rw[e1,e,words_zero]at h2;simp at h2
   rw[decide_eq_true this];rfl
 ·rw[if_neg hs]at h;simp at h
theorem zwj{q:Q6}(h1:Dig q.t1)(h2:Dig q.q1)(h3:Dig q.t2)(h4:Dig q.q2)(h:jf q=true):∃u v,q=Q6.rat u v∧qge u∧qge v:=by
 unfold jf qdj at h;rw[Bool.and_eq_true]at h;obtain⟨u,hu,a1,a2,a3⟩:=qya h1 h2 h.1;obtain⟨v,hv,b1,b2,b3⟩:=qya h3 h4 h.2;refine⟨u,v,?_,hu,hv⟩;cases q
 simp only[Q6.rat]at *
 rw[a1,a2,a3,b1,b2,b3]
theorem jcb{u v:Rat}(hu:qge u)(hv:qge v):LenQ (Q6.rat u v):=by
 have h1:=hu.1;have h2:=hu.2;have h3:=hv.1;have h4:=hv.2;exact⟨by simp only[Q6.rat]; omega,by simp only[Q6.rat]; omega,by simp only[Q6.rat]; omega,by simp only[Q6.rat]; omega⟩
theorem qsi: LenQ Q6.zero:=⟨by decide,by decide,by decide,by decide⟩
theorem zfg{q:Q6}{w:World}{o1 o2 o3 o4:Option Addr}{c1 c2 c3 c4:Nat}(h:Nm w q o1 c1 o2 c2 o3 c3 o4 c4):jf q=false∨∃u v,q=Q6.rat u v∧qge u∧qge v:=by
 cases hs:jf q with
 | false => exact .inl rfl
 | true => exact .inr (zwj h.s1.rd.dig h.s2.rd.dig h.s3.rd.dig h.s4.rd.dig hs)
section
variable {P:Program} {t:TypeId} {x y:Operand} {a b:ByteArray}
theorem zfd(hm:a.size+b.size≤9223372036854775807):∀w,(do eqGuard .add t x y (.string a) (.string b); binOp .add t (.string a) (.string b):Sem Value).run P w=.ok (.string (a++b)) w:=fun w=>by
 simp[go_sem];exact hm
theorem zff(hu:P.underlying t=some .string):∀w,(do eqGuard .eql t x y (.string a) (.string b); binOp .eql t (.string a) (.string b):Sem Value).run P w=.ok (bV (a.toList==b.toList)) w:=fun w=>by
 simp[go_sem,hu,run_underlying hu]
end
def qke(l:List (Nat×Value))(ops:List Oper)(o:Oper):Bool:=
 match o.guard with
 | none => false
 | some (j, b) => match ops[j]? with
  | some oj => match oj.dst with
   | some d => match vl l d with
    | some (.bool _) => false
    | some _ => true
    | none => false
   | none => false
  | none => false
section
variable {P:Program} {ops:List Oper} {Q:Exit→Act→World→Prop} {a:Act} {w w':World} {n:Nat} {l:List (Nat×Value)} {o:Oper} {v:Value} {rest:List Oper}
theorem Sl.unwantedU(h:Sl a n l)(hp:qke l ops o=true):Region.wanted o (yielded ops.toArray a.tmps)=false:=by
 unfold Region.wanted;unfold qke at hp
 split at hp
 ·cases hp
 ·rename_i j b hg;rw[hg]
  split at hp
  ·rename_i oj hj
   split at hp
   ·rename_i d hd
    split at hp
    ·cases hp
    ·rename_i v' hb hv;have:=h.holds d _ hv;cases v'<;>first | (exact absurd rfl (hb _)) | simp[yielded,hj,hd,this]
    ·cases hp
   ·cases hp
  ·cases hp
theorem xx(A:Sl a n l)(hg:qke l ops o=true){d:Nat}(hdst:o.dst=some d)(hd:Nat.blt d n=true)
  (hk:∀a',Sl a' n ((d,undef)::l)→wpList P ops.toArray Q rest a' w):wpList P ops.toArray Q (o::rest) a w:=by
 unfold wpList;rw[A.unwantedU hg,if_neg (by simp),hdst];exact hk _ (A.put hd undef)
end




def bsL(l:List UInt8):ByteArray:=⟨l.toArray⟩
theorem uq(l:List UInt8):(bsL l).size=l.length:=by unfold bsL; simp[ByteArray.size]
theorem qmg(l:List UInt8):(bsL l).data.toList=l:=by unfold bsL; simp
def btL(l:List UInt8)(i:Nat):Nat:=(l.getD i 0).toNat
theorem jfc(l:List UInt8)(i:Nat):btL l i<256:=UInt8.toNat_lt _
theorem jfd(l:List UInt8)(i:Nat):byteAt (bsL l) i=btL l i:=by
 unfold byteAt btL;rw[qmg,List.getD_eq_getElem?_getD,List.getD_eq_getElem?_getD,List.getElem?_map];cases l[i]?<;>simp
def jfe(r:Nat)(b:UInt8):Bool:=decide (dvn 36 b.toNat<r)
def nDg(r:Nat):List UInt8→Nat
 | [] => 0
 | b :: t => if jfe r b then nDg r t + 1 else 0
theorem zbi(r:Nat):∀l:List UInt8,nDg r l≤l.length
 | [] => by simp [nDg]
 | b :: t => by
  have:=zbi r t;simp only[nDg,List.length_cons]
  split<;>omega
theorem jff(r:Nat):∀(l:List UInt8) (i:Nat),i<nDg r l→dvn 36 (btL l i)<r
 | [], i, h => by simp [nDg] at h
 | b :: t, i, h => by
  simp only[nDg]at h;by_cases hb:jfe r b=true
  ·rw[if_pos hb]at h;cases i with
   | zero => exact of_decide_eq_true hb
   | succ i =>
    have:=jff r t i (by omega);simpa[btL]using this
  ·rw[if_neg hb]at h; omega
theorem zug(r:Nat):∀(l:List UInt8),nDg r l<l.length→¬dvn 36 (btL l (nDg r l))<r
 | [], h => by simp at h
 | b :: t, h => by
  simp only[nDg]at h ⊢;by_cases hb:jfe r b=true
  ·rw[if_pos hb]at h ⊢;have:=zug r t (by simpa using h);simpa[btL]using this
  ·rw[if_neg hb]at h ⊢;exact of_decide_eq_false (show decide (dvn 36 (btL (b::t) 0)<r)=false from Bool.eq_false_iff.2 hb)
theorem jfg{r:Nat}{l:List UInt8}{i:Nat}(h:i≤nDg r l)(hl:i<l.length)(hd:dvn 36 (btL l i)<r):i+1≤nDg r l:=by
 rcases Nat.lt_or_ge i (nDg r l)with k | k
 ·exact k
 ·have e:i=nDg r l:=by omega
  subst e;exact absurd hd (zug r l hl)
theorem zhh{r:Nat}{l:List UInt8}{i:Nat}(h:i≤nDg r l)(hd:l.length≤i∨¬dvn 36 (btL l i)<r):i=nDg r l:=by
 have h1:=zbi r l;rcases Nat.lt_or_ge i (nDg r l)with k | k
 ·rcases hd with hd | hd
  ·omega
  ·exact absurd (jff r l i k) hd
 ·omega
def qfg(l:List UInt8):Bool:=decide (l=[105])||decide (l=[73])
def ut(l:List UInt8):Bool:=decide (btL l 0=43)||decide (btL l 0=45)
def sgB(l:List UInt8):Nat:=if ut l then btL l 0 else 0
def unS(l:List UInt8):List UInt8:=if ut l then l.drop 1 else l
def tpD(r:Nat)(l:List UInt8):List UInt8:=(unS l).take (nDg r (unS l))
def qD(r:Nat)(l:List UInt8):List UInt8:=(unS l).drop (nDg r (unS l))
def slD(r:Nat)(l:List UInt8):Bool:=decide (nDg r (unS l)≠0)&&(decide (btL (qD r l) 0=47)&&decide (nDg r ((qD r l).drop 1)≠0))
def boD(r:Nat)(l:List UInt8):List UInt8:=if slD r l then((qD r l).drop 1).take (nDg r ((qD r l).drop 1))else[]
def reD(r:Nat)(l:List UInt8):List UInt8:=if slD r l then((qD r l).drop 1).drop (nDg r ((qD r l).drop 1))else qD r l
abbrev Nl:= Nat×List UInt8×List UInt8
def nlD(r:Nat)(l:List UInt8):Nl:=(sgB l,tpD r l,boD r l)
def nl0: Nl:=(0,[48],[])
def okP(r:Nat)(l:List UInt8):Bool:=
 if reD r l=[]then decide (tpD r l≠[])else if qfg (reD r l)then ut l else decide (tpD r l≠[])&&(ut (reD r l)&&qfg (reD r (reD r l)))
def reP(r:Nat)(l:List UInt8):Nl:=if reD r l=[]then nlD r l else if qfg (reD r l)then nl0 else nlD r l
def imP(r:Nat)(l:List UInt8):Nl:=if reD r l=[]then nl0 else if qfg (reD r l)then nlD r l else nlD r (reD r l)
def rdE(r:Nat)(l:List UInt8):Int:=if l=[]then 0 else(readS (bsL l) (r:Int)).2
def zj(r:Nat)(l:List UInt8):Nat:=if l=[]then 1 else tval r (bsL l) l.length
theorem jfh{r:Nat}{l:List UInt8}(h:(readS (bsL l) (r:Int)).2=0):readS (bsL l) (r:Int)=(words (tval r (bsL l) l.length),0)∧(words (tval r (bsL l) l.length)).length≤512:=by
 unfold readS at h ⊢;rw[Int.toNat_natCast,uq]at h ⊢
 split at h
 ·split at h
  ·split at h
   ·rename_i h1 h2 h3;rw[if_pos h1,if_pos h2,if_pos h3];unfold fitS at h ⊢
    split at h
    ·rename_i h4;rw[if_pos h4];exact⟨rfl,h4⟩
    ·cases h
   ·cases h
  ·cases h
 ·cases h
theorem zyh{r:Nat}{l:List UInt8}(h:(readS (bsL l) (r:Int)).2≠0):readS (bsL l) (r:Int)=([],(readS (bsL l) (r:Int)).2):=by
 unfold readS at h ⊢;rw[Int.toNat_natCast,uq]at h ⊢
 split at h
 ·rename_i h1;rw[if_pos h1]
  split at h
  ·rename_i h2;rw[if_pos h2]
   split at h
   ·rename_i h3;rw[if_pos h3];unfold fitS at h ⊢
    split at h
    ·exact absurd rfl h
    ·rename_i h4; rw[if_neg h4]
   ·rename_i h3; rw[if_neg h3]
  ·rename_i h2; rw[if_neg h2]
 ·rename_i h1; rw[if_neg h1]
def vq(r:Nat)(n:Nl):Int:=if rdE r n.2.1≠0 then rdE r n.2.1 else rdE r n.2.2
def zbj(r:Nat)(n:Nl):Rat:=mkRat (sgn (decide (n.1=45)) (zj r n.2.1)) (zj r n.2.2)
def vm(r:Nat)(n m:Nl):Q6×Int:=
 if vq r n≠0∨vq r m≠0 then(Q6.zero,4)else if zj r n.2.2=0∨zj r m.2.2=0 then(Q6.zero,3)else(Q6.rat (zbj r n) (zbj r m),0)
def xi(c:Nat):Nat:=if c=98∨c=66 then 2 else if c=111∨c=79 then 8 else if c=100∨c=68 then 10 else if c=120∨c=88 then 16 else 0
def jy: Bool→Bool→Nat→List UInt8→List UInt8×Nat
 | told, ex, r, a :: c :: t =>
  if a.toNat=35 then
   (if xi c.toNat≠0∧told=false then jy true ex (xi c.toNat) t
    else if(c.toNat=101∨c.toNat=69)∧ex=false then jy told true r t
    else(a::c::t,r))
  else(a::c::t,r)
 | _, _, r, [a] => ([a], r)
 | _, _, r, [] => ([], r)
def ka(n:Int):Bool:=decide (n=2)||(decide (n=8)||(decide (n=10)||decide (n=16)))
def vf(l:List UInt8)(radix:Int):Q6×Int:=
 if ka radix then
  (if okP (jy false false radix.toNat l).2 (jy false false radix.toNat l).1 then
   (if l.length≤16384 then vm (jy false false radix.toNat l).2 (reP (jy false false radix.toNat l).2 (jy false false radix.toNat l).1) (imP (jy false false radix.toNat l).2 (jy false false radix.toNat l).1)else(Q6.zero,4))
   else(Q6.zero,5))
 else(Q6.zero,1)
def RadN(r:Nat):Prop:=r=2∨r=8∨r=10∨r=16
theorem zpa{n:Int}(h:ka n=true):∃r:Nat,n=(r:Int)∧RadN r:=by
 unfold ka at h;simp only[Bool.or_eq_true,decide_eq_true_eq]at h;rcases h with h | h | h | h
 ·exact⟨2,h,.inl rfl⟩
 ·exact⟨8,h,.inr (.inl rfl)⟩
 ·exact⟨10,h,.inr (.inr (.inl rfl))⟩
 ·exact⟨16,h,.inr (.inr (.inr rfl))⟩
theorem jfi{c:Nat}(h:xi c≠0):RadN (xi c):=by
 unfold xi at h ⊢;unfold RadN;repeat (split; first | simp_all | skip)
 all_goals simp_all
theorem jfj{r:Nat}(hr:RadN r):∀(told ex:Bool) (l:List UInt8),RadN (jy told ex r l).2:=by
 intro told ex l
 induction told,ex,r,l using jy.induct with
 | case1 told ex r a c t h1 h2 ih => unfold jy; rw [if_pos h1, if_pos h2]; exact ih (jfi h2.1)
 | case2 told ex r a c t h1 h2 h3 ih => unfold jy; rw [if_pos h1, if_neg h2, if_pos h3]; exact ih hr
 | case3 told ex r a c t h1 h2 h3 => unfold jy; rw [if_pos h1, if_neg h2, if_neg h3]; exact hr
 | case4 told ex r a c t h1 => unfold jy; rw [if_neg h1]; exact hr
 | case5 => unfold jy; exact hr
 | case6 => unfold jy; exact hr
theorem jga: ∀(told ex:Bool) (r:Nat) (l:List UInt8),(jy told ex r l).1.length≤l.length:=by
 intro told ex r l
 induction told,ex,r,l using jy.induct with
 | case1 told ex r a c t h1 h2 ih => unfold jy; rw [if_pos h1, if_pos h2]; simp only [List.length_cons]; omega
 | case2 told ex r a c t h1 h2 h3 ih => unfold jy; rw [if_pos h1, if_neg h2, if_pos h3]; simp only [List.length_cons]; omega
 | case3 told ex r a c t h1 h2 h3 => unfold jy; rw [if_pos h1, if_neg h2, if_neg h3]; exact Nat.le_refl _
 | case4 told ex r a c t h1 => unfold jy; rw [if_neg h1]; exact Nat.le_refl _
 | case5 => unfold jy; exact Nat.le_refl _
 | case6 => unfold jy; exact Nat.le_refl _
theorem ki{w:World}{ao:Option Addr}{l:List Nat}(cap:Nat)(h:Rd w ao l)(hl:l.length≤9223372036854775807){r:Bool}(hr:sound l=r):
  Calls Tryz.prog 103 #[.slice ao l.length cap] w fun e w'=>e=.returned (bV r)∧w'=w:=by
 subst hr;exact rsound_any cap h hl
theorem vh{w:World}{ao bo:Option Addr}{l1 l2:List Nat}(ca cb:Nat)(ha:Rd w ao l1)(hb:Rd w bo l2)(h1:l1.length≤9223372036854775807)(h2:l2.length≤9223372036854775807){r:Bool}(hr:decide (l1=l2)=r):
  Calls Tryz.prog 49 #[.slice ao l1.length ca,.slice bo l2.length cb] w fun e w'=>e=.returned (bV r)∧Below w.heap.size w w':=by
 subst hr;exact zwi ca cb ha hb h1 h2
theorem qyi{b:Bool}{t q:List Nat}(h:(sound t&&sound q)=false):kx b t q=false:=by
 unfold kx qni;rw[if_neg (by rw[h]; simp)];simp
theorem BiC_is1_22: Is1 Tryz.prog 22:=⟨⟨_,Tryz.underlying22,rfl⟩,by kernel_rfl⟩
theorem BiC_is1_4: Is1 Tryz.prog 4:=⟨⟨_,Tryz.underlying4,rfl⟩,by kernel_rfl⟩
theorem BiC_fld_24_0: FieldAt Tryz.prog 24 0 0:=⟨_,_,Tryz.underlying24,rfl,rfl,by kernel_rfl⟩
theorem BiC_fld_24_1: FieldAt Tryz.prog 24 1 1:=⟨_,_,Tryz.underlying24,rfl,rfl,by kernel_rfl⟩
theorem BiC_fld_24_2: FieldAt Tryz.prog 24 2 2:=⟨_,_,Tryz.underlying24,rfl,rfl,by kernel_rfl⟩
theorem BiC_fld_26_0: FieldAt Tryz.prog 26 0 0:=⟨_,_,Tryz.underlying26,rfl,rfl,by kernel_rfl⟩
theorem BiC_fld_26_1: FieldAt Tryz.prog 26 1 3:=⟨_,_,Tryz.underlying26,rfl,rfl,by kernel_rfl⟩
theorem BiC_isS_24: IsS Tryz.prog 24 3:=⟨⟨_,Tryz.underlying24⟩,by kernel_rfl⟩
theorem qwj{w:World}{b:Bool}{x y:Nat}{a1 a2:Option Addr}{ac1 ac2:Nat}(ha1:Sc w a1 ac1 (words x))(ha2:Sc w a2 ac2 (words y))(hx:(words x).length≤512)(hy:(words y).length≤512){r:Bool}(hr:kx b (words x) (words y)=r):
  Calls Tryz.prog 70 #[.agg #[bV b,.slice a1 (words x).length ac1,.slice a2 (words y).length ac2]] w fun e w'=>e=.returned (bV r)∧Below w.heap.size w w':=by
 have hg9:(words (Nat.gcd x y)).length≤9223372036854775807:=by
  by_cases h:x=0
  ·subst h; rw[Nat.gcd_zero_left]; omega
  ·have:=words_mono (Nat.gcd_le_left y (Nat.pos_of_ne_zero h)); omega
 cases b
 ·have S:St w w [] [(a2,words y),(a1,words x)] []:=((St.start w).addR ha1.rd).addR ha2.rd;refine qn (l:=[(0,.agg #[bV false,.slice a1 ((words x).length) ac1,.slice a2 ((words y).length) ac2])]) Tryz.func70 rfl Tryz.ntmps70 rfl rfl ?_;intro Q hret hnorm hP a A;refine wsk fun K1 hK1=>wrl (qy A S rfl rfl rfl pg (zd rfl rfl) rfl ?_);intro g2 w3 S a A;refine sda A λa A=>?_;refine qa (hK1 _ _ (wsk fun K4 hK4=>wsk fun K5 hK5=>wrl (sdo (v:=pA g2 1) A (qe BiC_fld_24_1 rfl rfl) λa A=>?_)));refine sdo A (qh S BiC_is1_22 rfl 0 rfl rfl) λa A=>?_;refine sct A (ef rfl rfl) (ki _ (S.rd 1 rfl) (by omega) (jr hx)) ?_;rintro _ w7 ⟨rfl,hb6⟩;replace hb6:=xz hb6;replace S:=S.call hb6;refine⟨_,rfl,?_⟩;intro a A;refine sdo (v:=bV false) A (qp rfl ze) λa A=>?_;refine sdm A λa A=>?_;refine sdo (v:=pA g2 2) A (qe BiC_fld_24_2 rfl rfl) λa A=>?_;refine sdo A (qh S BiC_is1_22 rfl 0 rfl rfl) λa A=>?_;refine sct A (ef rfl rfl) (ki _ (S.rd 0 rfl) (by omega) (jr hy)) ?_;rintro _ w9 ⟨rfl,hb8⟩;replace hb8:=xz hb8;replace S:=S.call hb8;refine⟨_,rfl,?_⟩;intro a A;refine sdo (v:=bV false) A (qp rfl ze) λa A=>?_;refine sdk (v:=bV false) A λa A=>?_;refine sdm A λa A=>?_;refine sdo (v:=pA g2 2) A (qe BiC_fld_24_2 rfl rfl) λa A=>?_;refine sdo A (qh S BiC_is1_22 rfl 0 rfl rfl) λa A=>?_;refine sdo A (zh Tryz.underlying22 rfl) λa A=>?_;rcases tf (((((words y).length:Nat):Int)==0))with hb10 | hb10
  ·have hb10':=eq_of_beq hb10;refine sdc A qg hb10 λa A=>?_;refine sdk (v:=bV true) A λa A=>?_;refine qa (hK5 _ _ (ct A ?_));refine wsk fun K11 hK11=>wrl (sda A λa A=>?_);refine qa (hK11 _ _ (wr1 hret A ?_));subst hr;have ey:decide ((words y).length=0)=true:=decide_eq_true (by omega);exact⟨by rw[vb hx hy,ey]; simp,S.bel⟩
  ·have hb10':=ne_of_beq_false hb10;refine sdc A qg hb10 λa A=>?_;refine sdk (v:=bV false) A λa A=>?_;refine qa (hK5 _ _ (cf A ?_));refine wp_skip (hK4 _ _ (wsk fun K12 hK12=>wsk fun K13 hK13=>wrl (sdo (v:=pA g2 1) A (qe BiC_fld_24_1 rfl rfl) λa A=>?_)));refine sdo A (qh S BiC_is1_22 rfl 0 rfl rfl) λa A=>?_;refine sdo A (zh Tryz.underlying22 rfl) λa A=>?_;rcases tf (((((words x).length:Nat):Int)==0))with hb14 | hb14
   ·have hb14':=eq_of_beq hb14;refine sdc A qg hb14 λa A=>?_;refine sdm A λa A=>?_;refine sdo (v:=pA g2 0) A (qe BiC_fld_24_0 rfl rfl) λa A=>?_;refine sdo A (qh S BiC_is1_4 rfl 0 rfl rfl) λa A=>?_;refine sdk (v:=bV false) A λa A=>?_;refine qa (hK13 _ _ (cf A ?_));refine wp_skip (hK12 _ _ (wsk fun K15 hK15=>wrl (sdo (v:=pA g2 1) A (qe BiC_fld_24_1 rfl rfl) λa A=>?_)));refine sdo A (qh S BiC_is1_22 rfl 0 rfl rfl) λa A=>?_;refine sdo (v:=pA g2 2) A (qe BiC_fld_24_2 rfl rfl) λa A=>?_;refine sdo A (qh S BiC_is1_22 rfl 0 rfl rfl) λa A=>?_;refine sct A (ef rfl rfl) (qei ac1 ac2 (S.rd 1 rfl) (S.rd 0 rfl) (by omega) (by omega) ha1.cap ha2.cap ha1.nil ha2.nil) ?_;rintro _ w20 ⟨ro16,rc17,rfl,ho18,hb19⟩;replace S:=S.call hb19;replace S:=S.addR ho18.rd;refine⟨_,rfl,?_⟩;intro a A;refine qsd (us:=[1]) (t:=99) (m:=1) A S rfl rfl rfl (zp rfl (by kernel_rfl)) (by simp[Dig]) ?_;intro g21 w22 S a A;rcases tf (decide (words (Nat.gcd x y)=[1]))with hb23 | hb23
    ·have hb23':=of_decide_eq_true hb23;refine sct A (ef rfl rfl) (vh _ _ (S.rd 1 rfl) (S.rd 0 rfl) (by first | assumption | exact hg9 | decide) (by first | assumption | decide) hb23) ?_;rintro _ w25 ⟨rfl,hb24⟩;replace S:=S.call hb24;refine⟨_,rfl,?_⟩;intro a A;refine sda A λa A=>?_;refine qa (hK15 _ _ (wr1 hret A ?_));subst hr;have ey:decide ((words y).length=0)=false:=decide_eq_false (by omega);have ex:decide ((words x).length=0)=true:=decide_eq_true (by omega);exact⟨by rw[vb hx hy,ey,ex,hb23]; simp,S.bel⟩
    ·have hb23':=of_decide_eq_false hb23;refine sct A (ef rfl rfl) (vh _ _ (S.rd 1 rfl) (S.rd 0 rfl) (by first | assumption | exact hg9 | decide) (by first | assumption | decide) hb23) ?_;rintro _ w27 ⟨rfl,hb26⟩;replace S:=S.call hb26;refine⟨_,rfl,?_⟩;intro a A;refine sda A λa A=>?_;refine qa (hK15 _ _ (wr1 hret A ?_));subst hr;have ey:decide ((words y).length=0)=false:=decide_eq_false (by omega);have ex:decide ((words x).length=0)=true:=decide_eq_true (by omega);exact⟨by rw[vb hx hy,ey,ex,hb23]; simp,S.bel⟩
   ·have hb14':=ne_of_beq_false hb14;refine sdc A qg hb14 λa A=>?_;refine sdm A λa A=>?_;iterate 2 refine qf A rfl rfl rfl λa A=>?_
    refine sdk (v:=bV false) A λa A=>?_;refine qa (hK13 _ _ (cf A ?_));refine wp_skip (hK12 _ _ (wsk fun K28 hK28=>wrl (sdo (v:=pA g2 1) A (qe BiC_fld_24_1 rfl rfl) λa A=>?_)));refine sdo A (qh S BiC_is1_22 rfl 0 rfl rfl) λa A=>?_;refine sdo (v:=pA g2 2) A (qe BiC_fld_24_2 rfl rfl) λa A=>?_;refine sdo A (qh S BiC_is1_22 rfl 0 rfl rfl) λa A=>?_;refine sct A (ef rfl rfl) (qei ac1 ac2 (S.rd 1 rfl) (S.rd 0 rfl) (by omega) (by omega) ha1.cap ha2.cap ha1.nil ha2.nil) ?_;rintro _ w33 ⟨ro29,rc30,rfl,ho31,hb32⟩;replace S:=S.call hb32;replace S:=S.addR ho31.rd;refine⟨_,rfl,?_⟩;intro a A;refine qsd (us:=[1]) (t:=99) (m:=1) A S rfl rfl rfl (zp rfl (by kernel_rfl)) (by simp[Dig]) ?_;intro g34 w35 S a A;rcases tf (decide (words (Nat.gcd x y)=[1]))with hb36 | hb36
    ·have hb36':=of_decide_eq_true hb36;refine sct A (ef rfl rfl) (vh _ _ (S.rd 1 rfl) (S.rd 0 rfl) (by first | assumption | exact hg9 | decide) (by first | assumption | decide) hb36) ?_;rintro _ w38 ⟨rfl,hb37⟩;replace S:=S.call hb37;refine⟨_,rfl,?_⟩;intro a A;refine sda A λa A=>?_;refine qa (hK28 _ _ (wr1 hret A ?_));subst hr;have ey:decide ((words y).length=0)=false:=decide_eq_false (by omega);have ex:decide ((words x).length=0)=false:=decide_eq_false (by omega);exact⟨by rw[vb hx hy,ey,ex,hb36]; simp,S.bel⟩
    ·have hb36':=of_decide_eq_false hb36;refine sct A (ef rfl rfl) (vh _ _ (S.rd 1 rfl) (S.rd 0 rfl) (by first | assumption | exact hg9 | decide) (by first | assumption | decide) hb36) ?_;rintro _ w40 ⟨rfl,hb39⟩;replace S:=S.call hb39;refine⟨_,rfl,?_⟩;intro a A;refine sda A λa A=>?_;refine qa (hK28 _ _ (wr1 hret A ?_));subst hr;have ey:decide ((words y).length=0)=false:=decide_eq_false (by omega);have ex:decide ((words x).length=0)=false:=decide_eq_false (by omega);exact⟨by rw[vb hx hy,ey,ex,hb36]; simp,S.bel⟩
 ·have S:St w w [] [(a2,words y),(a1,words x)] []:=((St.start w).addR ha1.rd).addR ha2.rd;refine qn (l:=[(0,.agg #[bV true,.slice a1 ((words x).length) ac1,.slice a2 ((words y).length) ac2])]) Tryz.func70 rfl Tryz.ntmps70 rfl rfl ?_;intro Q hret hnorm hP a A;refine wsk fun K1 hK1=>wrl (qy A S rfl rfl rfl pg (zd rfl rfl) rfl ?_);intro g2 w3 S a A;refine sda A λa A=>?_;refine qa (hK1 _ _ (wsk fun K4 hK4=>wsk fun K5 hK5=>wrl (sdo (v:=pA g2 1) A (qe BiC_fld_24_1 rfl rfl) λa A=>?_)));refine sdo A (qh S BiC_is1_22 rfl 0 rfl rfl) λa A=>?_;refine sct A (ef rfl rfl) (ki _ (S.rd 1 rfl) (by omega) (jr hx)) ?_;rintro _ w7 ⟨rfl,hb6⟩;replace hb6:=xz hb6;replace S:=S.call hb6;refine⟨_,rfl,?_⟩;intro a A;refine sdo (v:=bV false) A (qp rfl ze) λa A=>?_;refine sdm A λa A=>?_;refine sdo (v:=pA g2 2) A (qe BiC_fld_24_2 rfl rfl) λa A=>?_;refine sdo A (qh S BiC_is1_22 rfl 0 rfl rfl) λa A=>?_;refine sct A (ef rfl rfl) (ki _ (S.rd 0 rfl) (by omega) (jr hy)) ?_;rintro _ w9 ⟨rfl,hb8⟩;replace hb8:=xz hb8;replace S:=S.call hb8;refine⟨_,rfl,?_⟩;intro a A;refine sdo (v:=bV false) A (qp rfl ze) λa A=>?_;refine sdk (v:=bV false) A λa A=>?_;refine sdm A λa A=>?_;refine sdo (v:=pA g2 2) A (qe BiC_fld_24_2 rfl rfl) λa A=>?_;refine sdo A (qh S BiC_is1_22 rfl 0 rfl rfl) λa A=>?_;refine sdo A (zh Tryz.underlying22 rfl) λa A=>?_;rcases tf (((((words y).length:Nat):Int)==0))with hb10 | hb10
  ·have hb10':=eq_of_beq hb10;refine sdc A qg hb10 λa A=>?_;refine sdk (v:=bV true) A λa A=>?_;refine qa (hK5 _ _ (ct A ?_));refine wsk fun K11 hK11=>wrl (sda A λa A=>?_);refine qa (hK11 _ _ (wr1 hret A ?_));subst hr;have ey:decide ((words y).length=0)=true:=decide_eq_true (by omega);exact⟨by rw[vb hx hy,ey]; simp,S.bel⟩
  ·have hb10':=ne_of_beq_false hb10;refine sdc A qg hb10 λa A=>?_;refine sdk (v:=bV false) A λa A=>?_;refine qa (hK5 _ _ (cf A ?_));refine wp_skip (hK4 _ _ (wsk fun K12 hK12=>wsk fun K13 hK13=>wrl (sdo (v:=pA g2 1) A (qe BiC_fld_24_1 rfl rfl) λa A=>?_)));refine sdo A (qh S BiC_is1_22 rfl 0 rfl rfl) λa A=>?_;refine sdo A (zh Tryz.underlying22 rfl) λa A=>?_;rcases tf (((((words x).length:Nat):Int)==0))with hb14 | hb14
   ·have hb14':=eq_of_beq hb14;refine sdc A qg hb14 λa A=>?_;refine sdm A λa A=>?_;refine sdo (v:=pA g2 0) A (qe BiC_fld_24_0 rfl rfl) λa A=>?_;refine sdo A (qh S BiC_is1_4 rfl 0 rfl rfl) λa A=>?_;refine sdk (v:=bV true) A λa A=>?_;refine qa (hK13 _ _ (ct A ?_));refine wsk fun K15 hK15=>wrl (sda A λa A=>?_);refine qa (hK15 _ _ (wr1 hret A ?_));subst hr;have ey:decide ((words y).length=0)=false:=decide_eq_false (by omega);have ex:decide ((words x).length=0)=true:=decide_eq_true (by omega);exact⟨by rw[vb hx hy,ey,ex]; simp,S.bel⟩
   ·have hb14':=ne_of_beq_false hb14;refine sdc A qg hb14 λa A=>?_;refine sdm A λa A=>?_;iterate 2 refine qf A rfl rfl rfl λa A=>?_
    refine sdk (v:=bV false) A λa A=>?_;refine qa (hK13 _ _ (cf A ?_));refine wp_skip (hK12 _ _ (wsk fun K16 hK16=>wrl (sdo (v:=pA g2 1) A (qe BiC_fld_24_1 rfl rfl) λa A=>?_)));refine sdo A (qh S BiC_is1_22 rfl 0 rfl rfl) λa A=>?_;refine sdo (v:=pA g2 2) A (qe BiC_fld_24_2 rfl rfl) λa A=>?_;refine sdo A (qh S BiC_is1_22 rfl 0 rfl rfl) λa A=>?_;refine sct A (ef rfl rfl) (qei ac1 ac2 (S.rd 1 rfl) (S.rd 0 rfl) (by omega) (by omega) ha1.cap ha2.cap ha1.nil ha2.nil) ?_;rintro _ w21 ⟨ro17,rc18,rfl,ho19,hb20⟩;replace S:=S.call hb20;replace S:=S.addR ho19.rd;refine⟨_,rfl,?_⟩;intro a A;refine qsd (us:=[1]) (t:=99) (m:=1) A S rfl rfl rfl (zp rfl (by kernel_rfl)) (by simp[Dig]) ?_;intro g22 w23 S a A;rcases tf (decide (words (Nat.gcd x y)=[1]))with hb24 | hb24
    ·have hb24':=of_decide_eq_true hb24;refine sct A (ef rfl rfl) (vh _ _ (S.rd 1 rfl) (S.rd 0 rfl) (by first | assumption | exact hg9 | decide) (by first | assumption | decide) hb24) ?_;rintro _ w26 ⟨rfl,hb25⟩;replace S:=S.call hb25;refine⟨_,rfl,?_⟩;intro a A;refine sda A λa A=>?_;refine qa (hK16 _ _ (wr1 hret A ?_));subst hr;have ey:decide ((words y).length=0)=false:=decide_eq_false (by omega);have ex:decide ((words x).length=0)=false:=decide_eq_false (by omega);exact⟨by rw[vb hx hy,ey,ex,hb24]; simp,S.bel⟩
    ·have hb24':=of_decide_eq_false hb24;refine sct A (ef rfl rfl) (vh _ _ (S.rd 1 rfl) (S.rd 0 rfl) (by first | assumption | exact hg9 | decide) (by first | assumption | decide) hb24) ?_;rintro _ w28 ⟨rfl,hb27⟩;replace S:=S.call hb27;refine⟨_,rfl,?_⟩;intro a A;refine sda A λa A=>?_;refine qa (hK16 _ _ (wr1 hret A ?_));subst hr;have ey:decide ((words y).length=0)=false:=decide_eq_false (by omega);have ex:decide ((words x).length=0)=false:=decide_eq_false (by omega);exact⟨by rw[vb hx hy,ey,ex,hb24]; simp,S.bel⟩
theorem qxa{w:World}{b:Bool}{t q:List Nat}{a1 a2:Option Addr}{ac1 ac2:Nat}(ha1:Sc w a1 ac1 t)(ha2:Sc w a2 ac2 q)(l1:t.length≤9223372036854775807)(l2:q.length≤9223372036854775807)(ht:sound t=false):
  Calls Tryz.prog 70 #[.agg #[bV b,.slice a1 t.length ac1,.slice a2 q.length ac2]] w fun e w'=>e=.returned (bV false)∧Below w.heap.size w w':=by
 have S:St w w [] [(a2,q),(a1,t)] []:=((St.start w).addR ha1.rd).addR ha2.rd;refine qn (l:=[(0,.agg #[bV b,.slice a1 t.length ac1,.slice a2 q.length ac2])]) Tryz.func70 rfl Tryz.ntmps70 rfl rfl ?_;intro Q hret hnorm hP a A;refine wsk fun K1 hK1=>wrl (qy A S rfl rfl rfl pg (zd rfl rfl) rfl ?_);intro g2 w3 S a A;refine sda A λa A=>?_;refine qa (hK1 _ _ (wsk fun K4 hK4=>wsk fun K5 hK5=>wrl (sdo (v:=pA g2 1) A (qe BiC_fld_24_1 rfl rfl) λa A=>?_)));refine sdo A (qh S BiC_is1_22 rfl 0 rfl rfl) λa A=>?_;refine sct A (ef rfl rfl) (ki _ (S.rd 1 rfl) l1 ht) ?_;rintro _ w7 ⟨rfl,hb6⟩;replace hb6:=xz hb6;replace S:=S.call hb6;refine⟨_,rfl,?_⟩;intro a A;refine sdo (v:=bV true) A (qp rfl ze) λa A=>?_;refine sdm A λa A=>?_;iterate 4 refine qf A rfl rfl rfl λa A=>?_
 refine sdk (v:=bV true) A λa A=>?_;refine sdm A λa A=>?_;iterate 4 refine qf A rfl rfl rfl λa A=>?_
 refine sdk (v:=bV true) A λa A=>?_;refine qa (hK5 _ _ (ct A ?_));refine wsk fun K8 hK8=>wrl (sda A λa A=>?_);refine qa (hK8 _ _ (wr1 hret A ?_));exact⟨rfl,S.bel⟩
theorem qxb{w:World}{b:Bool}{t q:List Nat}{a1 a2:Option Addr}{ac1 ac2:Nat}(ha1:Sc w a1 ac1 t)(ha2:Sc w a2 ac2 q)(l1:t.length≤9223372036854775807)(l2:q.length≤9223372036854775807)(ht:sound t=true)(hq:sound q=false):
  Calls Tryz.prog 70 #[.agg #[bV b,.slice a1 t.length ac1,.slice a2 q.length ac2]] w fun e w'=>e=.returned (bV false)∧Below w.heap.size w w':=by
 have S:St w w [] [(a2,q),(a1,t)] []:=((St.start w).addR ha1.rd).addR ha2.rd;refine qn (l:=[(0,.agg #[bV b,.slice a1 t.length ac1,.slice a2 q.length ac2])]) Tryz.func70 rfl Tryz.ntmps70 rfl rfl ?_;intro Q hret hnorm hP a A;refine wsk fun K1 hK1=>wrl (qy A S rfl rfl rfl pg (zd rfl rfl) rfl ?_);intro g2 w3 S a A;refine sda A λa A=>?_;refine qa (hK1 _ _ (wsk fun K4 hK4=>wsk fun K5 hK5=>wrl (sdo (v:=pA g2 1) A (qe BiC_fld_24_1 rfl rfl) λa A=>?_)));refine sdo A (qh S BiC_is1_22 rfl 0 rfl rfl) λa A=>?_;refine sct A (ef rfl rfl) (ki _ (S.rd 1 rfl) l1 ht) ?_;rintro _ w7 ⟨rfl,hb6⟩;replace hb6:=xz hb6;replace S:=S.call hb6;refine⟨_,rfl,?_⟩;intro a A;refine sdo (v:=bV false) A (qp rfl ze) λa A=>?_;refine sdm A λa A=>?_;refine sdo (v:=pA g2 2) A (qe BiC_fld_24_2 rfl rfl) λa A=>?_;refine sdo A (qh S BiC_is1_22 rfl 0 rfl rfl) λa A=>?_;refine sct A (ef rfl rfl) (ki _ (S.rd 0 rfl) l2 hq) ?_;rintro _ w9 ⟨rfl,hb8⟩;replace hb8:=xz hb8;replace S:=S.call hb8;refine⟨_,rfl,?_⟩;intro a A;refine sdo (v:=bV true) A (qp rfl ze) λa A=>?_;refine sdk (v:=bV true) A λa A=>?_;refine sdm A λa A=>?_;iterate 4 refine qf A rfl rfl rfl λa A=>?_
 refine sdk (v:=bV true) A λa A=>?_;refine qa (hK5 _ _ (ct A ?_));refine wsk fun K10 hK10=>wrl (sda A λa A=>?_);refine qa (hK10 _ _ (wr1 hret A ?_));exact⟨rfl,S.bel⟩
theorem uy{w:World}{b:Bool}{t q:List Nat}{a1 a2:Option Addr}{ac1 ac2:Nat}(ha1:Sc w a1 ac1 t)(ha2:Sc w a2 ac2 q)(l1:t.length≤9223372036854775807)(l2:q.length≤9223372036854775807){r:Bool}(hr:kx b t q=r):
  Calls Tryz.prog 70 #[.agg #[bV b,.slice a1 t.length ac1,.slice a2 q.length ac2]] w fun e w'=>e=.returned (bV r)∧Below w.heap.size w w':=by
 cases ht:sound t with
 | false =>
  rw[qyi (by rw[ht]; rfl)]at hr;subst hr;exact qxa ha1 ha2 l1 l2 ht
 | true =>
  cases hq:sound q with
  | false =>
   rw[qyi (by rw[ht,hq]; rfl)]at hr;subst hr;exact qxb ha1 ha2 l1 l2 ht hq
  | true =>
   obtain⟨e1,k1⟩:=sound_words ha1.rd.dig ht;obtain⟨e2,k2⟩:=sound_words ha2.rd.dig hq;generalize val t=x at e1;generalize val q=y at e2;subst e1 e2;exact qwj ha1 ha2 k1 k2 hr
theorem qqc{w:World}{q:Q6}{a1 a2 a3 a4:Option Addr}{ac1 ac2 ac3 ac4:Nat}(ha:Nm w q a1 ac1 a2 ac2 a3 ac3 a4 ac4)(hl:LenQ q){r:Bool}(hr:jf q=r):Calls Tryz.prog 46 #[qkd q a1 ac1 a2 ac2 a3 ac3 a4 ac4] w fun e w'=>e=.returned (bV r)∧Below w.heap.size w w':=by
 have S:St w w [] [(a4,q.q2),(a3,q.t2),(a2,q.q1),(a1,q.t1)] []:=((((St.start w).addR ha.s1.rd).addR ha.s2.rd).addR ha.s3.rd).addR ha.s4.rd;refine qn (l:=[(0,.agg #[bV q.b1,.slice a1 q.t1.length ac1,.slice a2 q.q1.length ac2,bV q.b2,.slice a3 q.t2.length ac3,.slice a4 q.q2.length ac4])]) Tryz.func46 rfl Tryz.ntmps46 rfl rfl ?_;intro Q hret hnorm hP a A;refine wsk fun K1 hK1=>wrl (qy A S rfl rfl rfl pg (zd rfl rfl) rfl ?_);intro g2 w3 S a A;refine sda A λa A=>?_;refine qa (hK1 _ _ (wsk fun K4 hK4=>wrl (sdo (v:=pA g2 0) A (qe BiC_fld_26_0 rfl rfl) λa A=>?_)));refine sdo A (qr S BiC_isS_24 rfl 0 rfl (cs:=[bV q.b1,.slice a1 q.t1.length ac1,.slice a2 q.q1.length ac2]) rfl rfl) λa A=>?_;rcases tf (kx q.b1 q.t1 q.q1)with hb5 | hb5
 ·refine sct A (ef rfl rfl) (uy ⟨(S.rd 3 rfl),ha.s1.nil,ha.s1.cap⟩ ⟨(S.rd 2 rfl),ha.s2.nil,ha.s2.cap⟩ hl.l1 hl.l2 hb5) ?_;rintro _ w7 ⟨rfl,hb6⟩;replace S:=S.call hb6;refine⟨_,rfl,?_⟩;intro a A;refine sdm A λa A=>?_;refine sdo (v:=pA g2 3) A (qe BiC_fld_26_1 rfl rfl) λa A=>?_;refine sdo A (qr S BiC_isS_24 rfl 0 rfl (cs:=[bV q.b2,.slice a3 q.t2.length ac3,.slice a4 q.q2.length ac4]) rfl rfl) λa A=>?_;rcases tf (kx q.b2 q.t2 q.q2)with hb8 | hb8
  ·refine sct A (ef rfl rfl) (uy ⟨(S.rd 1 rfl),ha.s3.nil,ha.s3.cap⟩ ⟨(S.rd 0 rfl),ha.s4.nil,ha.s4.cap⟩ hl.l3 hl.l4 hb8) ?_;rintro _ w10 ⟨rfl,hb9⟩;replace S:=S.call hb9;refine⟨_,rfl,?_⟩;intro a A;refine sdk (v:=bV true) A λa A=>?_;refine sda A λa A=>?_;refine qa (hK4 _ _ (wr1 hret A ?_));subst hr;exact⟨by unfold jf qdj; rw[hb5,hb8]; try rfl,S.bel⟩
  ·refine sct A (ef rfl rfl) (uy ⟨(S.rd 1 rfl),ha.s3.nil,ha.s3.cap⟩ ⟨(S.rd 0 rfl),ha.s4.nil,ha.s4.cap⟩ hl.l3 hl.l4 hb8) ?_;rintro _ w12 ⟨rfl,hb11⟩;replace S:=S.call hb11;refine⟨_,rfl,?_⟩;intro a A;refine sdk (v:=bV false) A λa A=>?_;refine sda A λa A=>?_;refine qa (hK4 _ _ (wr1 hret A ?_));subst hr;exact⟨by unfold jf qdj; rw[hb5,hb8]; try rfl,S.bel⟩
 ·refine sct A (ef rfl rfl) (uy ⟨(S.rd 3 rfl),ha.s1.nil,ha.s1.cap⟩ ⟨(S.rd 2 rfl),ha.s2.nil,ha.s2.cap⟩ hl.l1 hl.l2 hb5) ?_;rintro _ w14 ⟨rfl,hb13⟩;replace S:=S.call hb13;refine⟨_,rfl,?_⟩;intro a A;refine sdm A λa A=>?_;iterate 3 refine qf A rfl rfl rfl λa A=>?_
  refine sdk (v:=bV false) A λa A=>?_;refine sda A λa A=>?_;refine qa (hK4 _ _ (wr1 hret A ?_));subst hr;exact⟨by unfold jf qdj; rw[hb5]; try rfl,S.bel⟩





section
variable {P:Program} {l:List (Nat×Value)} {dst:Option Tmp} {ty t:TypeId} {pos:String} {after:Array Edge} {guard:Option (Nat×Bool)} {w:World} {x y:Operand}
end
section
variable {P:Program} {l:List (Nat×Value)} {dst:Option Tmp} {ty t:TypeId} {pos:String} {after:Array Edge} {guard:Option (Nat×Bool)} {w:World} {x y z:Operand} {s:List UInt8}
theorem qoj(ht:P.underlying t=some .string)(hx:ev l x=some (.string (bsL s))):Does P l ⟨dst,.call ⟨.builtin .len,#[x],#[t]⟩,ty,pos,after,guard⟩ w (iV ((s.length:Nat):Int)) w:=fun ρ h=>by
 have:=h x _ hx;rw[←uq];simp[go_sem,this,Builtin.len_,run_underlying ht,goInt]
theorem vv{i:Nat}{k:Int}(ht:P.underlying t=some .string)(hx:ev l x=some (.string (bsL s)))(hy:ev l y=some (iV k))(hk:k=((i:Nat):Int))(hi:i<s.length):Does P l ⟨dst,.index t x y,ty,pos,after,guard⟩ w (.int .u8 ((btL s i:Nat):Int)) w:=fun ρ h=>by
 subst hk;have:=run_index_string (P:=P) w t (bsL s) .i64 ((i:Nat):Int) ht;have hi':i<(bsL s).size:=by rw[uq]; exact hi
 have e:btL s i=((bsL s)[i]'hi').toNat:=by rw[←jfd,byteAt_eq _ _ hi']
 rw[e];simp[execOp,h x _ hx,h y _ hy,this,hi']
theorem zhi(s:List UInt8)(a b:Nat)(hb:b≤s.length):(bsL s).extract a b=bsL ((s.take b).drop a):=by
 apply ByteArray.ext;rw[ByteArray.data_extract];simp[bsL,List.drop_take]
theorem xr{p:Nat}{k:Int}(ht:P.underlying t=some .string)(hx:ev l x=some (.string (bsL s)))(hy:ev l y=some (iV k))(hk:k=((p:Nat):Int))(hp:p≤s.length):Does P l ⟨dst,.slice t x (some y) none none,ty,pos,after,guard⟩ w (.string (bsL (s.drop p))) w:=fun ρ h=>by
 subst hk;have e:bsL (s.drop p)=(bsL s).extract p (bsL s).size:=by rw[uq,zhi _ _ _ (Nat.le_refl _),List.take_length]
 rw[e];have h0:p≤(bsL s).size:=by rw[uq]; exact hp
 have h1:(0:Int)≤(p:Nat)∧((p:Nat):Int)≤((bsL s).size:Int):=⟨by omega,by omega⟩;simp[execOp,h x _ hx,h y _ hy,Instr.sliceAt,Instr.slice,Instr.sliceBounds,Instr.sliceBound,asIntOf,run_underlying ht,h1];try (intro hc; omega)
theorem qif{p:Nat}{k:Int}(ht:P.underlying t=some .string)(hx:ev l x=some (.string (bsL s)))(hy:ev l y=some (iV k))(hk:k=((p:Nat):Int))(hp:p≤s.length):Does P l ⟨dst,.slice t x none (some y) none,ty,pos,after,guard⟩ w (.string (bsL (s.take p))) w:=fun ρ h=>by
 subst hk;have e:bsL (s.take p)=(bsL s).extract 0 p:=by rw[zhi _ _ _ hp,List.drop_zero]
 rw[e];have h0:p≤(bsL s).size:=by rw[uq]; exact hp
 have h1:(0:Int)≤(p:Nat)∧((p:Nat):Int)≤((bsL s).size:Int):=⟨by omega,by omega⟩;simp[execOp,h x _ hx,h y _ hy,Instr.sliceAt,Instr.slice,Instr.sliceBounds,Instr.sliceBound,asIntOf,run_underlying ht,h1];try (intro hc; omega)
variable {a b:List UInt8}
theorem jtf(a b:List UInt8):((bsL a).toList==(bsL b).toList)=decide (a=b):=by
 rw[ByteArray.toList_eq,ByteArray.toList_eq,qmg,qmg];by_cases h:a=b
 ·subst h; simp
 ·rw[decide_eq_false h]; exact beq_false_of_ne h
theorem vg(hu:P.underlying t=some .string):∀w,(do eqGuard .eql t x y (.string (bsL a)) (.string (bsL b)); binOp .eql t (.string (bsL a)) (.string (bsL b)):Sem Value).run P w=.ok (bV (decide (a=b))) w:=fun w=>by
 rw[←jtf];simp[go_sem,hu,run_underlying hu]
theorem qdg(hu:P.underlying t=some .string):∀w,(do eqGuard .neq t x y (.string (bsL a)) (.string (bsL b)); binOp .neq t (.string (bsL a)) (.string (bsL b)):Sem Value).run P w=.ok (bV (!(decide (a=b)))) w:=fun w=>by
 rw[←jtf];simp[go_sem,hu,run_underlying hu]
end
theorem mv{P:Program}{w:World}{Q:Exit→Act→World→Prop}{a:Act}{n d:Nat}{l:List (Nat×Value)}{ops rest:List Oper}{x:Operand}{ty:TypeId}{pos:String}{after:Array Edge}{guard:Option (Nat×Bool)}{v:Value}(A:Sl a n l)(hg:zb l ops ⟨some d,.move x,ty,pos,after,guard⟩=true)(hd:Nat.blt d n=true)(hx:ev l x=some v)(hk:∀a',Sl a' n ((d,v)::l)→wpList P ops.toArray Q rest a' w):wpList P ops.toArray Q (⟨some d,.move x,ty,pos,after,guard⟩::rest) a w:=yb A hg rfl hd (qx hx) hk
def zpc: List UInt8:=[48,49,50,51,52,53,54,55,56,57,97,98,99,100,101,102]
def zpd: List UInt8:=[48,49,50,51,52,53,54,55,56,57,65,66,67,68,69,70]
theorem jpe: ∀r∈[2,8,10,16],∀b:Fin 256,(decide (0≤Lib.indexByte (zpc.take r) (b.val.toUInt8))||decide (0≤Lib.indexByte (zpd.take r) (b.val.toUInt8)))=decide (dvn 36 b.val<r):=by decide +kernel
theorem zcb{r:Nat}(hr:RadN r){b:Nat}(hb:b<256):(decide (0≤Lib.indexByte (zpc.take r) (b.toUInt8))||decide (0≤Lib.indexByte (zpd.take r) (b.toUInt8)))=decide (dvn 36 b<r):=by
 refine jpe r ?_ ⟨b,hb⟩;rcases hr with h | h | h | h<;>subst h<;>decide
theorem quj(s:List UInt8)(b:Nat)(w:World):Calls Tryz.prog 105 #[.string (bsL s),.int .u8 ((b:Nat):Int)] w fun e w'=>e=.returned (iV (Lib.indexByte s b.toUInt8))∧w'=w:=by
 have h:=Tryz.strings_IndexByte (bsL s) ((b:Nat):Int) w;rw[qmg,Int.toNat_natCast]at h;exact h

theorem ExI_is1_22: Is1 Tryz.prog 22:=⟨⟨_,Tryz.underlying22,rfl⟩,by kernel_rfl⟩
theorem ExI_is1_4: Is1 Tryz.prog 4:=⟨⟨_,Tryz.underlying4,rfl⟩,by kernel_rfl⟩
theorem ExI_fld_146_0: FieldAt Tryz.prog 146 0 0:=⟨_,_,Tryz.underlying146,rfl,rfl,by kernel_rfl⟩
theorem ExI_fld_146_1: FieldAt Tryz.prog 146 1 1:=⟨_,_,Tryz.underlying146,rfl,rfl,by kernel_rfl⟩
theorem ExI_isS_146: IsS Tryz.prog 146 2:=⟨⟨_,Tryz.underlying146⟩,by kernel_rfl⟩
theorem ExI_isS_24: IsS Tryz.prog 24 3:=⟨⟨_,Tryz.underlying24⟩,by kernel_rfl⟩
theorem zhj{w:World}{b:Bool}{n:Nat}{z:Int}{so:Option Addr}{c:Nat}(hs:Sc w so c (words n))(hz:sgn b n=z):Calls Tryz.prog 142 #[bV b,.slice so (words n).length c] w (AnsZ w z):=by
 cases b
 ·have S:St w w [] [(so,words n)] []:=(St.start w).addR hs.rd;refine qn (l:=[(0,bV false),(1,.slice so ((words n).length) c)]) Tryz.func142 rfl Tryz.ntmps142 rfl rfl ?_;intro Q hret hnorm hP a A;refine wsk fun K1 hK1=>wrl (qy (vs:=[bV false,.slice none 0 0]) (t:=146) A S rfl rfl rfl pg (qk (z:=.agg #[bV false,.slice none 0 0]) (by kernel_rfl) rfl) rfl ?_);intro g2 w3 S a A;refine qa (hK1 _ _ (wsk fun K4 hK4=>wrl ?_));iterate 2 refine sdm A λa A=>?_
  iterate 3 refine qf A rfl rfl rfl λa A=>?_
  refine sdk (v:=bV false) A λa A=>?_;refine sdm A λa A=>?_;refine sdo (v:=.agg #[bV false,.slice so ((words n).length) c]) A (qs rfl (fun w=>by kernel_rfl)) λa A=>?_;refine zf (us:=[bV false,.slice so ((words n).length) c]) A S rfl rfl (ql rfl rfl rfl (by kernel_rfl) S 0 rfl rfl rfl) 0 rfl rfl rfl rfl ?_;intro w5 S;refine qa (hK4 _ _ (wp_ret (hret _ _ (en1 A rfl (zq S ExI_isS_146 rfl 0 rfl (cs:=[bV false,.slice so ((words n).length) c]) rfl rfl) ?_))));exact AnsZ.sgn hz (by simp[rb,sgn]) ⟨(S.rd 0 rfl),hs.nil,hs.cap⟩ S.bel
 ·have S:St w w [] [(so,words n)] []:=(St.start w).addR hs.rd;refine qn (l:=[(0,bV true),(1,.slice so ((words n).length) c)]) Tryz.func142 rfl Tryz.ntmps142 rfl rfl ?_;intro Q hret hnorm hP a A;refine wsk fun K1 hK1=>wrl (qy (vs:=[bV false,.slice none 0 0]) (t:=146) A S rfl rfl rfl pg (qk (z:=.agg #[bV false,.slice none 0 0]) (by kernel_rfl) rfl) rfl ?_);intro g2 w3 S a A;refine qa (hK1 _ _ (wsk fun K4 hK4=>wrl ?_));iterate 3 refine sdm A λa A=>?_
  refine sdo A (zh Tryz.underlying22 rfl) λa A=>?_;rcases tf (decide (0<(((words n).length:Nat):Int)))with hb5 | hb5
  ·have hb5':=of_decide_eq_true hb5;refine sdc A zn hb5 λa A=>?_;refine sdk (v:=bV true) A λa A=>?_;refine sdm A λa A=>?_;refine sdo (v:=.agg #[bV true,.slice so ((words n).length) c]) A (qs rfl (fun w=>by kernel_rfl)) λa A=>?_;refine zf (us:=[bV true,.slice so ((words n).length) c]) A S rfl rfl (ql rfl rfl rfl (by kernel_rfl) S 0 rfl rfl rfl) 0 rfl rfl rfl rfl ?_;intro w6 S;refine qa (hK4 _ _ (wp_ret (hret _ _ (en1 A rfl (zq S ExI_isS_146 rfl 0 rfl (cs:=[bV true,.slice so ((words n).length) c]) rfl rfl) ?_))));exact AnsZ.sgn hz (by have h9:=qjf n; simp only[rb,sgn]; apply decide_eq_true; simp; omega) ⟨(S.rd 0 rfl),hs.nil,hs.cap⟩ S.bel
  ·have hb5':=of_decide_eq_false hb5;refine sdc A zn hb5 λa A=>?_;refine sdk (v:=bV false) A λa A=>?_;refine sdm A λa A=>?_;refine sdo (v:=.agg #[bV false,.slice so ((words n).length) c]) A (qs rfl (fun w=>by kernel_rfl)) λa A=>?_;refine zf (us:=[bV false,.slice so ((words n).length) c]) A S rfl rfl (ql rfl rfl rfl (by kernel_rfl) S 0 rfl rfl rfl) 0 rfl rfl rfl rfl ?_;intro w7 S;refine qa (hK4 _ _ (wp_ret (hret _ _ (en1 A rfl (zq S ExI_isS_146 rfl 0 rfl (cs:=[bV false,.slice so ((words n).length) c]) rfl rfl) ?_))));exact AnsZ.sgn hz (by have h9:=qjf n; simp only[rb,sgn]; apply decide_eq_false; simp; omega) ⟨(S.rd 0 rfl),hs.nil,hs.cap⟩ S.bel
theorem qqd{w:World}{x:Int}{d:Nat}{so:Option Addr}{soc:Nat}(hso:Sc w so soc (words x.natAbs)){uo:Option Addr}{uoc:Nat}(huo:Sc w uo uoc (words d))(lx:(words x.natAbs).length≤50000)(ly:(words d).length≤50000)(hd:d≠0):Calls Tryz.prog 122 #[.agg #[bV (rb x),.slice so (words x.natAbs).length soc],.slice uo (words d).length uoc] w (AnsF w (rb x) (words (rt x d)) (words (rq x d))):=by
 have S:St w w [] [(uo,words d),(so,words x.natAbs)] []:=((St.start w).addR hso.rd).addR huo.rd;refine qn (l:=[(0,.agg #[bV ((rb x)),.slice so ((words x.natAbs).length) soc]),(1,.slice uo ((words d).length) uoc)]) Tryz.func122 rfl Tryz.ntmps122 rfl rfl ?_;intro Q hret hnorm hP a A;refine wsk fun K1 hK1=>wrl (qy A S rfl rfl rfl pg (zd rfl rfl) rfl ?_);intro g2 w3 S a A;refine qy (vs:=[bV false,.slice none 0 0,.slice none 0 0]) (t:=24) A S rfl rfl rfl pg (qk (z:=.agg #[bV false,.slice none 0 0,.slice none 0 0]) (by kernel_rfl) rfl) rfl ?_;intro g4 w5 S a A;refine qa (hK1 _ _ (wsk fun K6 hK6=>wrl (sdo (v:=pA g2 1) A (qe ExI_fld_146_1 rfl rfl) λa A=>?_)));refine sdo A (qh S ExI_is1_22 rfl 1 rfl rfl) λa A=>?_;refine sdm A λa A=>?_;refine sct A (ef rfl rfl) (qpg _ _ (S.rd 1 rfl) (S.rd 0 rfl) (by omega) (by omega) hso.nil huo.nil) ?_;rintro _ w11 ⟨ro7,rc8,rfl,ho9,hb10⟩;replace S:=S.call hb10;replace S:=S.addR ho9.rd;refine⟨_,rfl,?_⟩;intro a A;refine sda A λa A=>?_;refine qa (hK6 _ _ (wsk fun K12 hK12=>wrl (sdo (v:=pA g2 1) A (qe ExI_fld_146_1 rfl rfl) λa A=>?_)));refine sdo A (qh S ExI_is1_22 rfl 1 rfl rfl) λa A=>?_;refine sdm A λa A=>?_;refine sct A (ef rfl rfl) (divide_any _ _ (S.rd 2 rfl) (S.rd 0 rfl) (by omega) (Nat.le_trans (ztd hd ly) (by decide)) hso.nil (zmg hd)) ?_;rintro _ w20 ⟨ro13,rc14,uo15,uc16,rfl,ho17,hp18,hb19⟩;replace S:=S.call hb19;replace S:=S.addR ho17.rd;replace S:=S.addR hp18.rd;refine⟨_,rfl,?_⟩;intro a A;refine sdm A λa A=>?_;iterate 2 refine sdo A (qi (vs:=[.slice ro13 ((words (rt x d)).length) rc14,.slice uo15 ((words (x.natAbs%Nat.gcd x.natAbs d)).length) uc16]) rfl rfl) λa A=>?_
 iterate 2 refine sda A λa A=>?_
 refine qa (hK12 _ _ (wsk fun K21 hK21=>wrl ?_));iterate 2 refine sdm A λa A=>?_
 refine sct A (ef rfl rfl) (divide_any _ _ (S.rd 3 rfl) (S.rd 2 rfl) (by omega) (Nat.le_trans (ztd hd ly) (by decide)) huo.nil (zmg hd)) ?_;rintro _ w29 ⟨ro22,rc23,uo24,uc25,rfl,ho26,hp27,hb28⟩;replace S:=S.call hb28;replace S:=S.addR ho26.rd;replace S:=S.addR hp27.rd;refine⟨_,rfl,?_⟩;intro a A;refine sdm A λa A=>?_;iterate 2 refine sdo A (qi (vs:=[.slice ro22 ((words (rq x d)).length) rc23,.slice uo24 ((words (d%Nat.gcd x.natAbs d)).length) uc25]) rfl rfl) λa A=>?_
 iterate 2 refine sda A λa A=>?_
 refine qa (hK21 _ _ (wsk fun K30 hK30=>wrl (sdo (v:=pA g2 0) A (qe ExI_fld_146_0 rfl rfl) λa A=>?_)));refine sdo A (qh S ExI_is1_4 rfl 1 rfl rfl) λa A=>?_;iterate 2 refine sdm A λa A=>?_
 refine sdo (v:=.agg #[bV ((rb x)),.slice ro13 ((words (rt x d)).length) rc14,.slice ro22 ((words (rq x d)).length) rc23]) A (qs rfl (fun w=>by kernel_rfl)) λa A=>?_;refine zf (us:=[bV ((rb x)),.slice ro13 ((words (rt x d)).length) rc14,.slice ro22 ((words (rq x d)).length) rc23]) A S rfl rfl (ql rfl rfl rfl (by kernel_rfl) S 0 rfl rfl rfl) 0 rfl rfl rfl rfl ?_;intro w31 S;refine qa (hK30 _ _ (wp_ret (hret _ _ (en1 A rfl (zq S ExI_isS_24 rfl 0 rfl (cs:=[bV ((rb x)),.slice ro13 ((words (rt x d)).length) rc14,.slice ro22 ((words (rq x d)).length) rc23]) rfl rfl) ?_))));exact⟨ro13,rc14,ro22,rc23,rfl,⟨(S.rd 3 rfl),ho17.nocap,ho17.caps⟩,⟨(S.rd 1 rfl),ho26.nocap,ho26.caps⟩,S.bel⟩





section
variable {fop:Nat→Nat→Nat} {fb:Bool→Bool→Bool} {b1 b2:Bool} {y1 y2:Nat}
end
section
variable {P:Program} {t:TypeId} {a b:Operand} {x y:Nat}
end




theorem BiK_is1_22: Is1 Tryz.prog 22:=⟨⟨_,Tryz.underlying22,rfl⟩,by kernel_rfl⟩
theorem BiK_is1_4: Is1 Tryz.prog 4:=⟨⟨_,Tryz.underlying4,rfl⟩,by kernel_rfl⟩
theorem BiK_fld_24_0: FieldAt Tryz.prog 24 0 0:=⟨_,_,Tryz.underlying24,rfl,rfl,by kernel_rfl⟩
theorem BiK_fld_24_1: FieldAt Tryz.prog 24 1 1:=⟨_,_,Tryz.underlying24,rfl,rfl,by kernel_rfl⟩
theorem BiK_fld_24_2: FieldAt Tryz.prog 24 2 2:=⟨_,_,Tryz.underlying24,rfl,rfl,by kernel_rfl⟩
theorem qbg{w:World}{b b':Bool}{t q t' q':List Nat}{a1 a2:Option Addr}{ac1 ac2:Nat}(ha1:Sc w a1 ac1 t)(ha2:Sc w a2 ac2 q){u1 u2:Option Addr}{uc1 uc2:Nat}(hu1:Sc w u1 uc1 t')(hu2:Sc w u2 uc2 q')(l1:t.length≤9223372036854775807)(l2:q.length≤9223372036854775807)(l3:t'.length≤9223372036854775807)(l4:q'.length≤9223372036854775807){r:Bool}(hr:yu b t q b' t' q'=r):
  Calls Tryz.prog 28 #[.agg #[bV b,.slice a1 t.length ac1,.slice a2 q.length ac2],.agg #[bV b',.slice u1 t'.length uc1,.slice u2 q'.length uc2]] w fun e w'=>e=.returned (bV r)∧Below w.heap.size w w':=by
 have S:St w w [] [(u2,q'),(u1,t'),(a2,q),(a1,t)] []:=((((St.start w).addR ha1.rd).addR ha2.rd).addR hu1.rd).addR hu2.rd;refine qn (l:=[(0,.agg #[bV b,.slice a1 t.length ac1,.slice a2 q.length ac2]),(1,.agg #[bV b',.slice u1 t'.length uc1,.slice u2 q'.length uc2])]) Tryz.func28 rfl Tryz.ntmps28 rfl rfl ?_;intro Q hret hnorm hP a A;refine wsk fun K1 hK1=>wrl (qy A S rfl rfl rfl pg (zd rfl rfl) rfl ?_);intro g2 w3 S a A;refine qy A S rfl rfl rfl pg (zd rfl rfl) rfl ?_;intro g4 w5 S a A;refine sda A λa A=>?_;refine qa (hK1 _ _ (wsk fun K6 hK6=>wrl (sdo (v:=pA g2 0) A (qe BiK_fld_24_0 rfl rfl) λa A=>?_)));refine sdo A (qh S BiK_is1_4 rfl 1 rfl rfl) λa A=>?_;refine sdo (v:=pA g4 0) A (qe BiK_fld_24_0 rfl rfl) λa A=>?_;refine sdo A (qh S BiK_is1_4 rfl 0 rfl rfl) λa A=>?_;rcases tf ((b==b'))with hb7 | hb7
 ·have hb7':=eq_of_beq hb7;refine sdo (v:=bV true) A (qb rfl rfl (fun w=>((xh Tryz.underlying4) w).trans (by rw[hb7]))) λa A=>?_;refine sdm A λa A=>?_;refine sdo (v:=pA g2 1) A (qe BiK_fld_24_1 rfl rfl) λa A=>?_;refine sdo A (qh S BiK_is1_22 rfl 1 rfl rfl) λa A=>?_;refine sdo (v:=pA g4 1) A (qe BiK_fld_24_1 rfl rfl) λa A=>?_;refine sdo A (qh S BiK_is1_22 rfl 0 rfl rfl) λa A=>?_;rcases tf (decide (t=t'))with hb8 | hb8
  ·have hb8':=of_decide_eq_true hb8;refine sct A (ef rfl rfl) (vh _ _ (S.rd 3 rfl) (S.rd 1 rfl) l1 l3 hb8) ?_;rintro _ w10 ⟨rfl,hb9⟩;replace S:=S.call hb9;refine⟨_,rfl,?_⟩;intro a A;refine sdk (v:=bV true) A λa A=>?_;refine sdm A λa A=>?_;refine sdo (v:=pA g2 2) A (qe BiK_fld_24_2 rfl rfl) λa A=>?_;refine sdo A (qh S BiK_is1_22 rfl 1 rfl rfl) λa A=>?_;refine sdo (v:=pA g4 2) A (qe BiK_fld_24_2 rfl rfl) λa A=>?_;refine sdo A (qh S BiK_is1_22 rfl 0 rfl rfl) λa A=>?_;rcases tf (decide (q=q'))with hb11 | hb11
   ·have hb11':=of_decide_eq_true hb11;refine sct A (ef rfl rfl) (vh _ _ (S.rd 2 rfl) (S.rd 0 rfl) l2 l4 hb11) ?_;rintro _ w13 ⟨rfl,hb12⟩;replace S:=S.call hb12;refine⟨_,rfl,?_⟩;intro a A;refine sdk (v:=bV true) A λa A=>?_;refine sda A λa A=>?_;refine qa (hK6 _ _ (wr1 hret A ?_));subst hr;exact⟨by unfold yu; rw[hb7,hb8,hb11]; try rfl,S.bel⟩
   ·have hb11':=of_decide_eq_false hb11;refine sct A (ef rfl rfl) (vh _ _ (S.rd 2 rfl) (S.rd 0 rfl) l2 l4 hb11) ?_;rintro _ w15 ⟨rfl,hb14⟩;replace S:=S.call hb14;refine⟨_,rfl,?_⟩;intro a A;refine sdk (v:=bV false) A λa A=>?_;refine sda A λa A=>?_;refine qa (hK6 _ _ (wr1 hret A ?_));subst hr;exact⟨by unfold yu; rw[hb7,hb8,hb11]; try rfl,S.bel⟩
  ·have hb8':=of_decide_eq_false hb8;refine sct A (ef rfl rfl) (vh _ _ (S.rd 3 rfl) (S.rd 1 rfl) l1 l3 hb8) ?_;rintro _ w17 ⟨rfl,hb16⟩;replace S:=S.call hb16;refine⟨_,rfl,?_⟩;intro a A;refine sdk (v:=bV false) A λa A=>?_;refine sdm A λa A=>?_;iterate 5 refine qf A rfl rfl rfl λa A=>?_
   refine sdk (v:=bV false) A λa A=>?_;refine sda A λa A=>?_;refine qa (hK6 _ _ (wr1 hret A ?_));subst hr;exact⟨by unfold yu; rw[hb7,hb8]; try rfl,S.bel⟩
 ·have hb7':=ne_of_beq_false hb7;refine sdo (v:=bV false) A (qb rfl rfl (fun w=>((xh Tryz.underlying4) w).trans (by rw[hb7]))) λa A=>?_;refine sdm A λa A=>?_;iterate 5 refine qf A rfl rfl rfl λa A=>?_
  refine sdk (v:=bV false) A λa A=>?_;refine sdm A λa A=>?_;iterate 5 refine qf A rfl rfl rfl λa A=>?_
  refine sdk (v:=bV false) A λa A=>?_;refine sda A λa A=>?_;refine qa (hK6 _ _ (wr1 hret A ?_));subst hr;exact⟨by unfold yu; rw[hb7]; try rfl,S.bel⟩
theorem RxC_is1_9: Is1 Tryz.prog 9:=⟨⟨_,Tryz.underlying9,rfl⟩,by kernel_rfl⟩
theorem RxC_fld_121_0: FieldAt Tryz.prog 121 0 0:=⟨_,_,Tryz.underlying121,rfl,rfl,by kernel_rfl⟩
theorem RxC_fld_121_1: FieldAt Tryz.prog 121 1 1:=⟨_,_,Tryz.underlying121,rfl,rfl,by kernel_rfl⟩
theorem RxC_fld_121_2: FieldAt Tryz.prog 121 2 2:=⟨_,_,Tryz.underlying121,rfl,rfl,by kernel_rfl⟩
theorem RxC_isS_121: IsS Tryz.prog 121 3:=⟨⟨_,Tryz.underlying121⟩,by kernel_rfl⟩
theorem qmh{w:World}{n:Int}{c:Bool}(hc:ka n=c):Calls Tryz.prog 91 #[iV n] w fun e w'=>e=.returned (bV c)∧Below w.heap.size w w':=by
 have V:St w w [] [] []:=St.start w;refine qn (l:=[(0,iV n)]) Tryz.func91 rfl Tryz.ntmps91 rfl rfl ?_;intro Q hret hnorm hP a A;refine wsk fun K1 hK1=>wrl (sda A λa A=>?_);refine qa (hK1 _ _ (wsk fun K2 hK2=>wsk fun K3 hK3=>wrl (mv A rfl rfl rfl λa A=>?_)));refine qa (hK3 _ _ (wp_block (wsk fun K4 hK4=>wsk fun K5 hK5=>wrl ?_)));rcases tf ((n==2))with hb6 | hb6
 ·have hb6':=eq_of_beq hb6;refine sdc A qg hb6 λa A=>?_;refine sda A λa A=>?_;refine qa (hK5 _ _ (ct A ?_));refine wp_skip (hK4 _ _ (ct A ?_));refine wsk fun K7 hK7=>wrl (sda A λa A=>?_);refine qa (hK7 _ _ (wr1 hret A ?_));subst hc;exact⟨by rw[show ka n=true from by unfold ka; simp; omega],V.bel⟩
 ·have hb6':=ne_of_beq_false hb6;refine sdc A qg hb6 λa A=>?_;refine sda A λa A=>?_;refine qa (hK5 _ _ (cf A ?_));refine wsk fun K8 hK8=>wrl ?_;rcases tf ((n==8))with hb9 | hb9
  ·have hb9':=eq_of_beq hb9;refine sdc A qg hb9 λa A=>?_;refine sda A λa A=>?_;refine qa (hK8 _ _ (ct A ?_));refine wp_skip (hK4 _ _ (ct A ?_));refine wsk fun K10 hK10=>wrl (sda A λa A=>?_);refine qa (hK10 _ _ (wr1 hret A ?_));subst hc;exact⟨by rw[show ka n=true from by unfold ka; simp; omega],V.bel⟩
  ·have hb9':=ne_of_beq_false hb9;refine sdc A qg hb9 λa A=>?_;refine sda A λa A=>?_;refine qa (hK8 _ _ (cf A ?_));refine wsk fun K11 hK11=>wrl ?_;rcases tf ((n==10))with hb12 | hb12
   ·have hb12':=eq_of_beq hb12;refine sdc A qg hb12 λa A=>?_;refine sda A λa A=>?_;refine qa (hK11 _ _ (ct A ?_));refine wp_skip (hK4 _ _ (ct A ?_));refine wsk fun K13 hK13=>wrl (sda A λa A=>?_);refine qa (hK13 _ _ (wr1 hret A ?_));subst hc;exact⟨by rw[show ka n=true from by unfold ka; simp; omega],V.bel⟩
   ·have hb12':=ne_of_beq_false hb12;refine sdc A qg hb12 λa A=>?_;refine sda A λa A=>?_;refine qa (hK11 _ _ (cf A ?_));refine wrl ?_;rcases tf ((n==16))with hb14 | hb14
    ·have hb14':=eq_of_beq hb14;refine sdc A qg hb14 λa A=>?_;refine sda A λa A=>?_;refine qa (hK4 _ _ (ct A ?_));refine wsk fun K15 hK15=>wrl (sda A λa A=>?_);refine qa (hK15 _ _ (wr1 hret A ?_));subst hc;exact⟨by rw[show ka n=true from by unfold ka; simp; omega],V.bel⟩
    ·have hb14':=ne_of_beq_false hb14;refine sdc A qg hb14 λa A=>?_;refine sda A λa A=>?_;refine qa (hK4 _ _ (cf A ?_));refine wp_skip (hK2 _ _ (wsk fun K16 hK16=>wrl (sda A λa A=>?_)));refine qa (hK16 _ _ (wr1 hret A ?_));subst hc;exact⟨by rw[show ka n=false from by unfold ka; simp; omega],V.bel⟩
theorem zia{w:World}{b k:Nat}(hk:xi b=k):Calls Tryz.prog 118 #[.int .u8 ((b:Nat):Int)] w fun e w'=>e=.returned (iV ((k:Nat):Int))∧Below w.heap.size w w':=by
 have V:St w w [] [] []:=St.start w;refine qn (l:=[(0,.int .u8 (((b:Nat):Int)))]) Tryz.func118 rfl Tryz.ntmps118 rfl rfl ?_;intro Q hret hnorm hP a A;refine wsk fun K1 hK1=>wrl (sda A λa A=>?_);refine qa (hK1 _ _ (wsk fun K2 hK2=>wsk fun K3 hK3=>wrl (mv A rfl rfl rfl λa A=>?_)));refine qa (hK3 _ _ (wp_block (wsk fun K4 hK4=>wsk fun K5 hK5=>wrl ?_)));rcases tf ((((b:Nat):Int)==98))with hb6 | hb6
 ·have hb6':=eq_of_beq hb6;refine sdc A qg hb6 λa A=>?_;refine sda A λa A=>?_;refine qa (hK5 _ _ (ct A ?_));refine wp_skip (hK4 _ _ (ct A ?_));refine wsk fun K7 hK7=>wrl (sda A λa A=>?_);refine qa (hK7 _ _ (wr1 hret A ?_));subst hk;exact⟨by rw[show xi b=2 from by unfold xi; repeat (first | rfl | rw[if_pos (by omega)] | rw[if_neg (by omega)])]; rfl,V.bel⟩
 ·have hb6':=ne_of_beq_false hb6;refine sdc A qg hb6 λa A=>?_;refine sda A λa A=>?_;refine qa (hK5 _ _ (cf A ?_));refine wrl ?_;rcases tf ((((b:Nat):Int)==66))with hb8 | hb8
  ·have hb8':=eq_of_beq hb8;refine sdc A qg hb8 λa A=>?_;refine sda A λa A=>?_;refine qa (hK4 _ _ (ct A ?_));refine wsk fun K9 hK9=>wrl (sda A λa A=>?_);refine qa (hK9 _ _ (wr1 hret A ?_));subst hk;exact⟨by rw[show xi b=2 from by unfold xi; repeat (first | rfl | rw[if_pos (by omega)] | rw[if_neg (by omega)])]; rfl,V.bel⟩
  ·have hb8':=ne_of_beq_false hb8;refine sdc A qg hb8 λa A=>?_;refine sda A λa A=>?_;refine qa (hK4 _ _ (cf A ?_));refine wsk fun K10 hK10=>wsk fun K11 hK11=>wrl ?_;rcases tf ((((b:Nat):Int)==111))with hb12 | hb12
   ·have hb12':=eq_of_beq hb12;refine sdc A qg hb12 λa A=>?_;refine sda A λa A=>?_;refine qa (hK11 _ _ (ct A ?_));refine wp_skip (hK10 _ _ (ct A ?_));refine wsk fun K13 hK13=>wrl (sda A λa A=>?_);refine qa (hK13 _ _ (wr1 hret A ?_));subst hk;exact⟨by rw[show xi b=8 from by unfold xi; repeat (first | rfl | rw[if_pos (by omega)] | rw[if_neg (by omega)])]; rfl,V.bel⟩
   ·have hb12':=ne_of_beq_false hb12;refine sdc A qg hb12 λa A=>?_;refine sda A λa A=>?_;refine qa (hK11 _ _ (cf A ?_));refine wrl ?_;rcases tf ((((b:Nat):Int)==79))with hb14 | hb14
    ·have hb14':=eq_of_beq hb14;refine sdc A qg hb14 λa A=>?_;refine sda A λa A=>?_;refine qa (hK10 _ _ (ct A ?_));refine wsk fun K15 hK15=>wrl (sda A λa A=>?_);refine qa (hK15 _ _ (wr1 hret A ?_));subst hk;exact⟨by rw[show xi b=8 from by unfold xi; repeat (first | rfl | rw[if_pos (by omega)] | rw[if_neg (by omega)])]; rfl,V.bel⟩
    ·have hb14':=ne_of_beq_false hb14;refine sdc A qg hb14 λa A=>?_;refine sda A λa A=>?_;refine qa (hK10 _ _ (cf A ?_));refine wsk fun K16 hK16=>wsk fun K17 hK17=>wrl ?_;rcases tf ((((b:Nat):Int)==100))with hb18 | hb18
     ·have hb18':=eq_of_beq hb18;refine sdc A qg hb18 λa A=>?_;refine sda A λa A=>?_;refine qa (hK17 _ _ (ct A ?_));refine wp_skip (hK16 _ _ (ct A ?_));refine wsk fun K19 hK19=>wrl (sda A λa A=>?_);refine qa (hK19 _ _ (wr1 hret A ?_));subst hk;exact⟨by rw[show xi b=10 from by unfold xi; repeat (first | rfl | rw[if_pos (by omega)] | rw[if_neg (by omega)])]; rfl,V.bel⟩
     ·have hb18':=ne_of_beq_false hb18;refine sdc A qg hb18 λa A=>?_;refine sda A λa A=>?_;refine qa (hK17 _ _ (cf A ?_));refine wrl ?_;rcases tf ((((b:Nat):Int)==68))with hb20 | hb20
      ·have hb20':=eq_of_beq hb20;refine sdc A qg hb20 λa A=>?_;refine sda A λa A=>?_;refine qa (hK16 _ _ (ct A ?_));refine wsk fun K21 hK21=>wrl (sda A λa A=>?_);refine qa (hK21 _ _ (wr1 hret A ?_));subst hk;exact⟨by rw[show xi b=10 from by unfold xi; repeat (first | rfl | rw[if_pos (by omega)] | rw[if_neg (by omega)])]; rfl,V.bel⟩
      ·have hb20':=ne_of_beq_false hb20;refine sdc A qg hb20 λa A=>?_;refine sda A λa A=>?_;refine qa (hK16 _ _ (cf A ?_));refine wsk fun K22 hK22=>wsk fun K23 hK23=>wrl ?_;rcases tf ((((b:Nat):Int)==120))with hb24 | hb24
       ·have hb24':=eq_of_beq hb24;refine sdc A qg hb24 λa A=>?_;refine sda A λa A=>?_;refine qa (hK23 _ _ (ct A ?_));refine wp_skip (hK22 _ _ (ct A ?_));refine wsk fun K25 hK25=>wrl (sda A λa A=>?_);refine qa (hK25 _ _ (wr1 hret A ?_));subst hk;exact⟨by rw[show xi b=16 from by unfold xi; repeat (first | rfl | rw[if_pos (by omega)] | rw[if_neg (by omega)])]; rfl,V.bel⟩
       ·have hb24':=ne_of_beq_false hb24;refine sdc A qg hb24 λa A=>?_;refine sda A λa A=>?_;refine qa (hK23 _ _ (cf A ?_));refine wrl ?_;rcases tf ((((b:Nat):Int)==88))with hb26 | hb26
        ·have hb26':=eq_of_beq hb26;refine sdc A qg hb26 λa A=>?_;refine sda A λa A=>?_;refine qa (hK22 _ _ (ct A ?_));refine wsk fun K27 hK27=>wrl (sda A λa A=>?_);refine qa (hK27 _ _ (wr1 hret A ?_));subst hk;exact⟨by rw[show xi b=16 from by unfold xi; repeat (first | rfl | rw[if_pos (by omega)] | rw[if_neg (by omega)])]; rfl,V.bel⟩
        ·have hb26':=ne_of_beq_false hb26;refine sdc A qg hb26 λa A=>?_;refine sda A λa A=>?_;refine qa (hK22 _ _ (cf A ?_));refine wp_skip (hK2 _ _ (wsk fun K28 hK28=>wrl (sda A λa A=>?_)));refine qa (hK28 _ _ (wr1 hret A ?_));subst hk;exact⟨by rw[show xi b=0 from by unfold xi; repeat (first | rfl | rw[if_pos (by omega)] | rw[if_neg (by omega)])]; rfl,V.bel⟩
theorem qej{w:World}{l:List UInt8}{c:Bool}(hc:qfg l=c):Calls Tryz.prog 120 #[.string (bsL l)] w fun e w'=>e=.returned (bV c)∧Below w.heap.size w w':=by
 have V:St w w [] [] []:=St.start w;refine qn (l:=[(0,.string (bsL l))]) Tryz.func120 rfl Tryz.ntmps120 rfl rfl ?_;intro Q hret hnorm hP a A;refine wsk fun K1 hK1=>wrl (sda A λa A=>?_);refine qa (hK1 _ _ (wsk fun K2 hK2=>wrl (mv A rfl rfl rfl λa A=>?_)));rcases tf (decide (l=([105]:List UInt8)))with hb3 | hb3
 ·have hb3':=of_decide_eq_true hb3;refine sdo (v:=bV true) A (qb rfl rfl (fun w=>(vg (a:=l) (b:=[105]) Tryz.underlying9 w).trans (by rw[hb3]; try rfl))) λa A=>?_;refine sdm A λa A=>?_;iterate 2 refine qf A rfl rfl rfl λa A=>?_
  refine sdk (v:=bV true) A λa A=>?_;refine sda A λa A=>?_;refine qa (hK2 _ _ (wr1 hret A ?_));subst hc;exact⟨by unfold qfg; rw[hb3]; rfl,V.bel⟩
 ·have hb3':=of_decide_eq_false hb3;refine sdo (v:=bV false) A (qb rfl rfl (fun w=>(vg (a:=l) (b:=[105]) Tryz.underlying9 w).trans (by rw[hb3]; try rfl))) λa A=>?_;iterate 2 refine sdm A λa A=>?_
  rcases tf (decide (l=([73]:List UInt8)))with hb4 | hb4
  ·have hb4':=of_decide_eq_true hb4;refine sdo (v:=bV true) A (qb rfl rfl (fun w=>(vg (a:=l) (b:=[73]) Tryz.underlying9 w).trans (by rw[hb4]; try rfl))) λa A=>?_;refine sdk (v:=bV true) A λa A=>?_;refine sda A λa A=>?_;refine qa (hK2 _ _ (wr1 hret A ?_));subst hc;exact⟨by unfold qfg; rw[hb3,hb4]; rfl,V.bel⟩
  ·have hb4':=of_decide_eq_false hb4;refine sdo (v:=bV false) A (qb rfl rfl (fun w=>(vg (a:=l) (b:=[73]) Tryz.underlying9 w).trans (by rw[hb4]; try rfl))) λa A=>?_;refine sdk (v:=bV false) A λa A=>?_;refine sda A λa A=>?_;refine qa (hK2 _ _ (wr1 hret A ?_));subst hc;exact⟨by unfold qfg; rw[hb3,hb4]; rfl,V.bel⟩
theorem qqe{w:World}{r b:Nat}(hr:RadN r)(hb:b<256){c:Bool}(hc:decide (dvn 36 b<r)=c):Calls Tryz.prog 162 #[.int .u8 ((b:Nat):Int),iV ((r:Nat):Int)] w fun e w'=>e=.returned (bV c)∧Below w.heap.size w w':=by
 have hr16:r≤zpc.length:=by rcases hr with h | h | h | h<;>subst h<;>decide
 have hr17:r≤zpd.length:=by rcases hr with h | h | h | h<;>subst h<;>decide
 have V:St w w [] [] []:=St.start w;refine qn (l:=[(0,.int .u8 (((b:Nat):Int))),(1,iV (((r:Nat):Int)))]) Tryz.func162 rfl Tryz.ntmps162 rfl rfl ?_;intro Q hret hnorm hP a A;refine wsk fun K1 hK1=>wrl (sda A λa A=>?_);refine qa (hK1 _ _ (wsk fun K2 hK2=>wrl (mv A rfl rfl rfl λa A=>?_)));refine sdo (v:=.string (bsL (zpc.take r))) A (qif (p:=r) (s:=zpc) Tryz.underlying9 rfl rfl (by first | rfl | omega) (by first | omega | (simp only[List.length_drop,List.length_take]; omega))) λa A=>?_;refine sdm A λa A=>?_;refine sct A (ef rfl rfl) (quj (zpc.take r) b _) ?_;rintro _ w4 ⟨rfl,hb3⟩;replace hb3:=xz hb3;replace V:=V.call hb3;refine⟨_,rfl,?_⟩;intro a A;rcases tf (decide (0≤Lib.indexByte (zpc.take r) b.toUInt8))with hb5 | hb5
 ·have hb5':=of_decide_eq_true hb5;refine sdc A jc hb5 λa A=>?_;refine sdm A λa A=>?_;iterate 5 refine qf A rfl rfl rfl λa A=>?_
  refine sdk (v:=bV true) A λa A=>?_;refine sda A λa A=>?_;refine qa (hK2 _ _ (wr1 hret A ?_));subst hc;exact⟨by rw[←zcb hr hb,hb5]; rfl,V.bel⟩
 ·have hb5':=of_decide_eq_false hb5;refine sdc A jc hb5 λa A=>?_;iterate 2 refine sdm A λa A=>?_
  refine sdo (v:=.string (bsL (zpd.take r))) A (qif (p:=r) (s:=zpd) Tryz.underlying9 rfl rfl (by first | rfl | omega) (by first | omega | (simp only[List.length_drop,List.length_take]; omega))) λa A=>?_;refine sdm A λa A=>?_;refine sct A (ef rfl rfl) (quj (zpd.take r) b _) ?_;rintro _ w7 ⟨rfl,hb6⟩;replace hb6:=xz hb6;replace V:=V.call hb6;refine⟨_,rfl,?_⟩;intro a A;rcases tf (decide (0≤Lib.indexByte (zpd.take r) b.toUInt8))with hb8 | hb8
  ·have hb8':=of_decide_eq_true hb8;refine sdc A jc hb8 λa A=>?_;refine sdk (v:=bV true) A λa A=>?_;refine sda A λa A=>?_;refine qa (hK2 _ _ (wr1 hret A ?_));subst hc;exact⟨by rw[←zcb hr hb,hb5,hb8]; rfl,V.bel⟩
  ·have hb8':=of_decide_eq_false hb8;refine sdc A jc hb8 λa A=>?_;refine sdk (v:=bV false) A λa A=>?_;refine sda A λa A=>?_;refine qa (hK2 _ _ (wr1 hret A ?_));subst hc;exact⟨by rw[←zcb hr hb,hb5,hb8]; rfl,V.bel⟩
theorem qjh{w:World}{r:Nat}{l:List UInt8}(hr:RadN r)(hl:l.length≤9223372036854775807):Calls Tryz.prog 140 #[.string (bsL l),iV ((r:Nat):Int)] w fun e w'=>e=.returned (.tuple #[.string (bsL (l.take (nDg r l))),.string (bsL (l.drop (nDg r l)))])∧Below w.heap.size w w':=by
 have V:St w w [] [] []:=St.start w;refine qn (l:=[(0,.string (bsL l)),(1,iV (((r:Nat):Int)))]) Tryz.func140 rfl Tryz.ntmps140 rfl rfl ?_;intro Q hret hnorm hP a A;refine wsk fun K1 hK1=>wrl ?_;iterate 2 refine sda A λa A=>?_
 refine qa (hK1 _ _ (wsk fun K2 hK2=>wrl (sda A λa A=>?_)));refine qa (hK2 _ _ (wsk fun K3 hK3=>wp_block (jd (fun m a w1=>∃(n:Nat),m=l.length-n∧(n≤nDg r l)∧Sl a 26 [(0,.string (bsL l)),(1,iV (((r:Nat):Int))),(4,.string (bsL [])),(5,.string (bsL [])),(6,iV (((n:Nat):Int)))]∧St w w1 [] [] []) _ ⟨0,rfl,Nat.zero_le _,A.keep _ ⟨rfl,rfl,rfl,rfl,rfl,trivial⟩,V⟩ ?_)));clear V A;rintro m a w4 ⟨n,rfl,hinv6,A,V⟩ K5 hK5;have hq:=zbi r l;refine wsk fun K7 hK7=>wsk fun K8 hK8=>wrl ?_;iterate 2 refine sdm A λa A=>?_
 refine sdo A (qoj Tryz.underlying9 rfl) λa A=>?_;rcases tf (decide (((n:Nat):Int)<((l.length:Nat):Int)))with hb9 | hb9
 ·have hb9':=of_decide_eq_true hb9;refine sdc A zs hb9 λa A=>?_;iterate 3 refine sdm A λa A=>?_
  refine sdo (v:=.int .u8 (((btL l n:Nat):Int))) A (vv (s:=l) (i:=n) Tryz.underlying9 rfl rfl (by first | rfl | omega) (by first | omega | (simp only[List.length_drop,List.length_take]; omega))) λa A=>?_;refine sdm A λa A=>?_;rcases tf (decide (dvn 36 (btL l n)<r))with hb10 | hb10
  ·have hb10':=of_decide_eq_true hb10;refine sct A (ef rfl rfl) (qqe hr (jfc _ _) hb10) ?_;rintro _ w12 ⟨rfl,hb11⟩;replace V:=V.call hb11;refine⟨_,rfl,?_⟩;intro a A;refine sdk (v:=bV true) A λa A=>?_;refine qa (hK8 _ _ (ct A ?_));refine wp_skip (hK7 _ _ (wp_block (wrl (mv A rfl rfl rfl λa A=>?_))));refine sdo (v:=iV (((n+1:Nat):Int))) A (qb rfl rfl (fun w=>(kp (uj (by omega) (by omega)) w).trans (by rw[show(((n:Nat):Int)+1:Int)=((n+1:Nat):Int)from by omega]))) λa A=>?_;refine sda A λa A=>?_;refine qa ?_;refine hK5 _ _ _ (by omega) ⟨n+1,rfl,jfg hinv6 (by omega) (by assumption),A.keep _ ⟨rfl,rfl,rfl,rfl,rfl,trivial⟩,V⟩
  ·have hb10':=of_decide_eq_false hb10;refine sct A (ef rfl rfl) (qqe hr (jfc _ _) hb10) ?_;rintro _ w14 ⟨rfl,hb13⟩;replace V:=V.call hb13;refine⟨_,rfl,?_⟩;intro a A;refine sdk (v:=bV false) A λa A=>?_;refine qa (hK8 _ _ (cf A ?_));refine wp_exit (hK3 _ _ (wsk fun K15 hK15=>jt (S:=fun w1=>St w w1 [] [] []) (by kernel_rfl) ?_));replace V:=V.drew;refine atk A 0 rfl hP V (λ_ V=>qx rfl) λa A=>?_;refine atk A 1 rfl hP V (λ_ V=>qx rfl) λa A=>?_;refine atk (v:=.string (bsL (l.take n))) A 2 rfl hP V (λ_ V=>qif (p:=n) (s:=l) Tryz.underlying9 rfl rfl (by first | rfl | omega) (by first | omega | (simp only[List.length_drop,List.length_take]; omega))) λa A=>?_;refine atk A 3 rfl hP V (λ_ V=>qx rfl) λa A=>?_;refine atk A 4 rfl hP V (λ_ V=>qx rfl) λa A=>?_;refine atk (v:=.string (bsL (l.drop n))) A 5 rfl hP V (λ_ V=>xr (p:=n) (s:=l) Tryz.underlying9 rfl rfl (by first | rfl | omega) (by first | omega | (simp only[List.length_drop,List.length_take]; omega))) λa A=>?_;refine atk A 6 rfl hP V (λ_ V=>zk rfl) λa A=>?_;refine atk A 7 rfl hP V (λ_ V=>zk rfl) λa A=>?_;refine zx (by kernel_rfl) ?_;refine hK15 _ _ (wp_ret (hret _ _ (en2 A rfl (qj rfl) (qj rfl) ?_)));have e9:=zhh hinv6 (by first | (left; omega) | (right; assumption));exact⟨by rw[e9],V.bel⟩
 ·have hb9':=of_decide_eq_false hb9;refine sdc A zs hb9 λa A=>?_;refine sdm A λa A=>?_;iterate 5 refine qf A rfl rfl rfl λa A=>?_
  refine sdk (v:=bV false) A λa A=>?_;refine qa (hK8 _ _ (cf A ?_));refine wp_exit (hK3 _ _ (wsk fun K16 hK16=>jt (S:=fun w1=>St w w1 [] [] []) (by kernel_rfl) ?_));replace V:=V.drew;refine atk A 0 rfl hP V (λ_ V=>qx rfl) λa A=>?_;refine atk A 1 rfl hP V (λ_ V=>qx rfl) λa A=>?_;refine atk (v:=.string (bsL (l.take n))) A 2 rfl hP V (λ_ V=>qif (p:=n) (s:=l) Tryz.underlying9 rfl rfl (by first | rfl | omega) (by first | omega | (simp only[List.length_drop,List.length_take]; omega))) λa A=>?_;refine atk A 3 rfl hP V (λ_ V=>qx rfl) λa A=>?_;refine atk A 4 rfl hP V (λ_ V=>qx rfl) λa A=>?_;refine atk (v:=.string (bsL (l.drop n))) A 5 rfl hP V (λ_ V=>xr (p:=n) (s:=l) Tryz.underlying9 rfl rfl (by first | rfl | omega) (by first | omega | (simp only[List.length_drop,List.length_take]; omega))) λa A=>?_;refine atk A 6 rfl hP V (λ_ V=>zk rfl) λa A=>?_;refine atk A 7 rfl hP V (λ_ V=>zk rfl) λa A=>?_;refine zx (by kernel_rfl) ?_;refine hK16 _ _ (wp_ret (hret _ _ (en2 A rfl (qj rfl) (qj rfl) ?_)));have e9:=zhh hinv6 (by first | (left; omega) | (right; assumption));exact⟨by rw[e9],V.bel⟩
theorem jge{r:Nat}{m:List UInt8}(h:m.take (nDg r m)=[]):nDg r m=0:=by
 have h1:=zbi r m;have h2:(m.take (nDg r m)).length=0:=by rw[h]; rfl
 rw[List.length_take]at h2;omega
theorem zcc{r:Nat}{m:List UInt8}{b:Bool}(h:m.take (nDg r m)=[]):(decide (nDg r m≠0)&&b)=false:=by rw[decide_eq_false (fun k=>k (jge h))]; rfl
theorem zcd{b c:Bool}{m:List UInt8}(h:m=[]):(b&&(decide (btL m 0=47)&&c))=false:=by rw[h,show decide (btL ([]:List UInt8) 0=47)=false from rfl]; cases b<;>rfl
theorem zce{b c:Bool}{n:Nat}(h:n≠47):(b&&(decide (n=47)&&c))=false:=by rw[decide_eq_false h]; cases b<;>rfl
theorem zcf{r:Nat}{b c:Bool}{m:List UInt8}(h:m.take (nDg r m)=[]):(b&&(c&&decide (nDg r m≠0)))=false:=by rw[decide_eq_false (fun k=>k (jge h))]; cases b<;>cases c<;>rfl
theorem jwg{r n:Nat}{m k:List UInt8}(h1:¬m.take (nDg r m)=[])(h2:n=47)(h3:¬k.take (nDg r k)=[]):(decide (nDg r m≠0)&&(decide (n=47)&&decide (nDg r k≠0)))=true:=by
 rw[decide_eq_true h2,decide_eq_true (show nDg r m≠0 from fun e=>h1 (by rw[e]; rfl)),decide_eq_true (show nDg r k≠0 from fun e=>h3 (by rw[e]; rfl))]; rfl
theorem qgj{w:World}{r:Nat}{l:List UInt8}(hr:RadN r)(hl:l.length≤9223372036854775807):Calls Tryz.prog 119 #[.string (bsL l),iV ((r:Nat):Int)] w fun e w'=>e=.returned (.tuple #[.agg #[.int .u8 ((sgB l:Nat):Int),.string (bsL (tpD r l)),.string (bsL (boD r l))],.string (bsL (reD r l))])∧Below w.heap.size w w':=by
 have V:St w w [] [] []:=St.start w;refine qn (l:=[(0,.string (bsL l)),(1,iV (((r:Nat):Int)))]) Tryz.func119 rfl Tryz.ntmps119 rfl rfl ?_;intro Q hret hnorm hP a A;refine wsk fun K1 hK1=>wrl (qy (vs:=[.int .u8 0,.string (bsL []),.string (bsL [])]) (t:=121) A V rfl rfl rfl pg (qk (z:=.agg #[.int .u8 0,.string (bsL []),.string (bsL [])]) (by kernel_rfl) rfl) rfl ?_);intro g2 w3 V a A;refine sda A λa A=>?_;refine qa (hK1 _ _ (wsk fun K4 hK4=>?_));have hJ5:∀a w1,(∃(m:List UInt8) (sg:Nat),(unS l=m∧sgB l=sg∧m.length≤l.length)∧Sl a 61 [(0,.string (bsL m)),(1,iV (((r:Nat):Int))),(4,pA g2 0),(5,.string (bsL []))]∧St w w1 [(g2,[.int .u8 (((sg:Nat):Int)),.string (bsL []),.string (bsL [])])] [] [])→K4 a w1:=by
  clear A V;rintro a w6 ⟨m,sg,hf7,A,V⟩;obtain⟨hu,e1,hml⟩:=hf7;refine hK4 _ _ (wsk fun K8 hK8=>wrl ?_);iterate 2 refine sdm A λa A=>?_
  refine sct A (ef rfl rfl) (qjh (l:=m) hr (by first | omega | (simp only[List.length_drop,List.length_take]; omega))) ?_;rintro _ w10 ⟨rfl,hb9⟩;replace V:=V.call hb9;refine⟨_,rfl,?_⟩;intro a A;refine sdm A λa A=>?_;iterate 2 refine sdo A (qi (vs:=[.string (bsL (m.take (nDg r m))),.string (bsL (m.drop (nDg r m)))]) rfl rfl) λa A=>?_
  refine sdo (v:=pA g2 1) A (qe RxC_fld_121_1 rfl rfl) λa A=>?_;refine zf (us:=[.int .u8 (((sg:Nat):Int)),.string (bsL (m.take (nDg r m))),.string (bsL [])]) A V rfl rfl (ql rfl rfl rfl (by kernel_rfl) V 0 rfl rfl rfl) 0 rfl rfl rfl rfl ?_;intro w11 V;refine sda A λa A=>?_;refine qa (hK8 _ _ (wsk fun K12 hK12=>wsk fun K13 hK13=>wrl (sdo (v:=pA g2 1) A (qe RxC_fld_121_1 rfl rfl) λa A=>?_)));refine sdo A (qh V RxC_is1_9 rfl 0 rfl rfl) λa A=>?_;rcases tf (decide (m.take (nDg r m)=([]:List UInt8)))with hb14 | hb14
  ·have hb14':=of_decide_eq_true hb14;have hb14n:(m.take (nDg r m)).length=0:=(by rw[hb14']; rfl);refine sdo (v:=bV true) A (qb rfl rfl (fun w=>(vg (a:=m.take (nDg r m)) (b:=[]) Tryz.underlying9 w).trans (by rw[hb14]; try rfl))) λa A=>?_;refine sdm A λa A=>?_;iterate 2 refine qf A rfl rfl rfl λa A=>?_
   refine sdk (v:=bV true) A λa A=>?_;refine sdm A λa A=>?_;iterate 3 refine qf A rfl rfl rfl λa A=>?_
   refine sdk (v:=bV true) A λa A=>?_;refine qa (hK13 _ _ (ct A ?_));refine wsk fun K15 hK15=>wrl (sdo A (qr V RxC_isS_121 rfl 0 rfl (cs:=[.int .u8 (((sg:Nat):Int)),.string (bsL (m.take (nDg r m))),.string (bsL [])]) rfl rfl) λa A=>?_);refine sdm A λa A=>?_;refine zf (us:=[.int .u8 (((sg:Nat):Int)),.string (bsL (m.take (nDg r m))),.string (bsL [])]) A V rfl rfl (ql rfl rfl rfl (by kernel_rfl) V 0 rfl rfl rfl) 0 rfl rfl rfl rfl ?_;intro w16 V;refine sda A λa A=>?_;refine qa (hK15 _ _ (wp_ret (hret _ _ (en2 A rfl (zq V RxC_isS_121 rfl 0 rfl (cs:=[.int .u8 (((sg:Nat):Int)),.string (bsL (m.take (nDg r m))),.string (bsL [])]) rfl rfl) (qj rfl) ?_))));have e2:tpD r l=m.take (nDg r m):=(by unfold tpD; rw[hu]);have eq:qD r l=m.drop (nDg r m):=(by unfold qD; rw[hu]);have hsl:slD r l=false:=by
    unfold slD; rw[hu,eq]; first | exact zcc (by assumption) | exact zcd (by assumption) | exact zce (by omega) | exact zcf (by assumption)
   have e3:boD r l=[]:=(by unfold boD; rw[hsl]; rfl);have e4:reD r l=m.drop (nDg r m):=(by unfold reD; rw[hsl,eq]; rfl);exact⟨by rw[e1,e2,e3,e4]<;>try rfl,V.bel⟩
  ·have hb14':=of_decide_eq_false hb14;have hb14n:¬(m.take (nDg r m)).length=0:=fun k=>hb14' (List.length_eq_zero_iff.1 k);refine sdo (v:=bV false) A (qb rfl rfl (fun w=>(vg (a:=m.take (nDg r m)) (b:=[]) Tryz.underlying9 w).trans (by rw[hb14]; try rfl))) λa A=>?_;iterate 2 refine sdm A λa A=>?_
   rcases tf (decide (m.drop (nDg r m)=([]:List UInt8)))with hb17 | hb17
   ·have hb17':=of_decide_eq_true hb17;have hb17n:(m.drop (nDg r m)).length=0:=(by rw[hb17']; rfl);refine sdo (v:=bV true) A (qb rfl rfl (fun w=>(vg (a:=m.drop (nDg r m)) (b:=[]) Tryz.underlying9 w).trans (by rw[hb17]; try rfl))) λa A=>?_;refine sdk (v:=bV true) A λa A=>?_;refine sdm A λa A=>?_;iterate 3 refine qf A rfl rfl rfl λa A=>?_
    refine sdk (v:=bV true) A λa A=>?_;refine qa (hK13 _ _ (ct A ?_));refine wsk fun K18 hK18=>wrl (sdo A (qr V RxC_isS_121 rfl 0 rfl (cs:=[.int .u8 (((sg:Nat):Int)),.string (bsL (m.take (nDg r m))),.string (bsL [])]) rfl rfl) λa A=>?_);refine sdm A λa A=>?_;refine zf (us:=[.int .u8 (((sg:Nat):Int)),.string (bsL (m.take (nDg r m))),.string (bsL [])]) A V rfl rfl (ql rfl rfl rfl (by kernel_rfl) V 0 rfl rfl rfl) 0 rfl rfl rfl rfl ?_;intro w19 V;refine sda A λa A=>?_;refine qa (hK18 _ _ (wp_ret (hret _ _ (en2 A rfl (zq V RxC_isS_121 rfl 0 rfl (cs:=[.int .u8 (((sg:Nat):Int)),.string (bsL (m.take (nDg r m))),.string (bsL [])]) rfl rfl) (qj rfl) ?_))));have e2:tpD r l=m.take (nDg r m):=(by unfold tpD; rw[hu]);have eq:qD r l=m.drop (nDg r m):=(by unfold qD; rw[hu]);have hsl:slD r l=false:=by
     unfold slD; rw[hu,eq]; first | exact zcc (by assumption) | exact zcd (by assumption) | exact zce (by omega) | exact zcf (by assumption)
    have e3:boD r l=[]:=(by unfold boD; rw[hsl]; rfl);have e4:reD r l=m.drop (nDg r m):=(by unfold reD; rw[hsl,eq]; rfl);exact⟨by rw[e1,e2,e3,e4]<;>try rfl,V.bel⟩
   ·have hb17':=of_decide_eq_false hb17;have hb17n:¬(m.drop (nDg r m)).length=0:=fun k=>hb17' (List.length_eq_zero_iff.1 k);refine sdo (v:=bV false) A (qb rfl rfl (fun w=>(vg (a:=m.drop (nDg r m)) (b:=[]) Tryz.underlying9 w).trans (by rw[hb17]; try rfl))) λa A=>?_;refine sdk (v:=bV false) A λa A=>?_;iterate 2 refine sdm A λa A=>?_
    refine sdo (v:=.int .u8 (((btL (m.drop (nDg r m)) 0:Nat):Int))) A (vv (s:=m.drop (nDg r m)) (i:=0) Tryz.underlying9 rfl rfl (by first | rfl | omega) (by first | omega | (simp only[List.length_drop,List.length_take]; omega))) λa A=>?_;rcases tf ((((btL (m.drop (nDg r m)) 0:Nat):Int) != 47))with hb20 | hb20
    ·have hb20':=bne_iff_ne.1 hb20;refine sdc A za hb20 λa A=>?_;refine sdk (v:=bV true) A λa A=>?_;refine qa (hK13 _ _ (ct A ?_));refine wsk fun K21 hK21=>wrl (sdo A (qr V RxC_isS_121 rfl 0 rfl (cs:=[.int .u8 (((sg:Nat):Int)),.string (bsL (m.take (nDg r m))),.string (bsL [])]) rfl rfl) λa A=>?_);refine sdm A λa A=>?_;refine zf (us:=[.int .u8 (((sg:Nat):Int)),.string (bsL (m.take (nDg r m))),.string (bsL [])]) A V rfl rfl (ql rfl rfl rfl (by kernel_rfl) V 0 rfl rfl rfl) 0 rfl rfl rfl rfl ?_;intro w22 V;refine sda A λa A=>?_;refine qa (hK21 _ _ (wp_ret (hret _ _ (en2 A rfl (zq V RxC_isS_121 rfl 0 rfl (cs:=[.int .u8 (((sg:Nat):Int)),.string (bsL (m.take (nDg r m))),.string (bsL [])]) rfl rfl) (qj rfl) ?_))));have e2:tpD r l=m.take (nDg r m):=(by unfold tpD; rw[hu]);have eq:qD r l=m.drop (nDg r m):=(by unfold qD; rw[hu]);have hsl:slD r l=false:=by
      unfold slD; rw[hu,eq]; first | exact zcc (by assumption) | exact zcd (by assumption) | exact zce (by omega) | exact zcf (by assumption)
     have e3:boD r l=[]:=(by unfold boD; rw[hsl]; rfl);have e4:reD r l=m.drop (nDg r m):=(by unfold reD; rw[hsl,eq]; rfl);exact⟨by rw[e1,e2,e3,e4]<;>try rfl,V.bel⟩
    ·have hb20':=bne_eq_false_iff_eq.1 hb20;refine sdc A za hb20 λa A=>?_;refine sdk (v:=bV false) A λa A=>?_;refine qa (hK13 _ _ (cf A ?_));refine wp_skip (hK12 _ _ (wsk fun K23 hK23=>wrl (mv A rfl rfl rfl λa A=>?_)));refine sdo (v:=.string (bsL ((m.drop (nDg r m)).drop 1))) A (xr (p:=1) (s:=m.drop (nDg r m)) Tryz.underlying9 rfl rfl (by first | rfl | omega) (by first | omega | (simp only[List.length_drop,List.length_take]; omega))) λa A=>?_;refine sdm A λa A=>?_;refine sct A (ef rfl rfl) (qjh (l:=(m.drop (nDg r m)).drop 1) hr (by first | omega | (simp only[List.length_drop,List.length_take]; omega))) ?_;rintro _ w25 ⟨rfl,hb24⟩;replace V:=V.call hb24;refine⟨_,rfl,?_⟩;intro a A;refine sdm A λa A=>?_;iterate 2 refine sdo A (qi (vs:=[.string (bsL (((m.drop (nDg r m)).drop 1).take (nDg r ((m.drop (nDg r m)).drop 1)))),.string (bsL (((m.drop (nDg r m)).drop 1).drop (nDg r ((m.drop (nDg r m)).drop 1))))]) rfl rfl) λa A=>?_
     iterate 2 refine sda A λa A=>?_
     refine qa (hK23 _ _ (wsk fun K26 hK26=>wsk fun K27 hK27=>wrl (mv A rfl rfl rfl λa A=>?_)));rcases tf (decide (((m.drop (nDg r m)).drop 1).take (nDg r ((m.drop (nDg r m)).drop 1))=([]:List UInt8)))with hb28 | hb28
     ·have hb28':=of_decide_eq_true hb28;have hb28n:(((m.drop (nDg r m)).drop 1).take (nDg r ((m.drop (nDg r m)).drop 1))).length=0:=(by rw[hb28']; rfl);refine sdo (v:=bV true) A (qb rfl rfl (fun w=>(vg (a:=((m.drop (nDg r m)).drop 1).take (nDg r ((m.drop (nDg r m)).drop 1))) (b:=[]) Tryz.underlying9 w).trans (by rw[hb28]; try rfl))) λa A=>?_;refine qa (hK27 _ _ (ct A ?_));refine wsk fun K29 hK29=>wrl (sdo A (qr V RxC_isS_121 rfl 0 rfl (cs:=[.int .u8 (((sg:Nat):Int)),.string (bsL (m.take (nDg r m))),.string (bsL [])]) rfl rfl) λa A=>?_);refine sdm A λa A=>?_;refine zf (us:=[.int .u8 (((sg:Nat):Int)),.string (bsL (m.take (nDg r m))),.string (bsL [])]) A V rfl rfl (ql rfl rfl rfl (by kernel_rfl) V 0 rfl rfl rfl) 0 rfl rfl rfl rfl ?_;intro w30 V;refine sda A λa A=>?_;refine qa (hK29 _ _ (wp_ret (hret _ _ (en2 A rfl (zq V RxC_isS_121 rfl 0 rfl (cs:=[.int .u8 (((sg:Nat):Int)),.string (bsL (m.take (nDg r m))),.string (bsL [])]) rfl rfl) (qj rfl) ?_))));have e2:tpD r l=m.take (nDg r m):=(by unfold tpD; rw[hu]);have eq:qD r l=m.drop (nDg r m):=(by unfold qD; rw[hu]);have hsl:slD r l=false:=by
       unfold slD; rw[hu,eq]; first | exact zcc (by assumption) | exact zcd (by assumption) | exact zce (by omega) | exact zcf (by assumption)
      have e3:boD r l=[]:=(by unfold boD; rw[hsl]; rfl);have e4:reD r l=m.drop (nDg r m):=(by unfold reD; rw[hsl,eq]; rfl);exact⟨by rw[e1,e2,e3,e4]<;>try rfl,V.bel⟩
     ·have hb28':=of_decide_eq_false hb28;have hb28n:¬(((m.drop (nDg r m)).drop 1).take (nDg r ((m.drop (nDg r m)).drop 1))).length=0:=fun k=>hb28' (List.length_eq_zero_iff.1 k);refine sdo (v:=bV false) A (qb rfl rfl (fun w=>(vg (a:=((m.drop (nDg r m)).drop 1).take (nDg r ((m.drop (nDg r m)).drop 1))) (b:=[]) Tryz.underlying9 w).trans (by rw[hb28]; try rfl))) λa A=>?_;refine qa (hK27 _ _ (cf A ?_));refine wp_skip (hK26 _ _ (wsk fun K31 hK31=>wrl (mv A rfl rfl rfl λa A=>?_)));refine sdo (v:=pA g2 2) A (qe RxC_fld_121_2 rfl rfl) λa A=>?_;refine zf (us:=[.int .u8 (((sg:Nat):Int)),.string (bsL (m.take (nDg r m))),.string (bsL (((m.drop (nDg r m)).drop 1).take (nDg r ((m.drop (nDg r m)).drop 1))))]) A V rfl rfl (ql rfl rfl rfl (by kernel_rfl) V 0 rfl rfl rfl) 0 rfl rfl rfl rfl ?_;intro w32 V;refine qa (hK31 _ _ (wsk fun K33 hK33=>wrl (sdo A (qr V RxC_isS_121 rfl 0 rfl (cs:=[.int .u8 (((sg:Nat):Int)),.string (bsL (m.take (nDg r m))),.string (bsL (((m.drop (nDg r m)).drop 1).take (nDg r ((m.drop (nDg r m)).drop 1))))]) rfl rfl) λa A=>?_)));refine sdm A λa A=>?_;refine zf (us:=[.int .u8 (((sg:Nat):Int)),.string (bsL (m.take (nDg r m))),.string (bsL (((m.drop (nDg r m)).drop 1).take (nDg r ((m.drop (nDg r m)).drop 1))))]) A V rfl rfl (ql rfl rfl rfl (by kernel_rfl) V 0 rfl rfl rfl) 0 rfl rfl rfl rfl ?_;intro w34 V;refine sda A λa A=>?_;refine qa (hK33 _ _ (wp_ret (hret _ _ (en2 A rfl (zq V RxC_isS_121 rfl 0 rfl (cs:=[.int .u8 (((sg:Nat):Int)),.string (bsL (m.take (nDg r m))),.string (bsL (((m.drop (nDg r m)).drop 1).take (nDg r ((m.drop (nDg r m)).drop 1))))]) rfl rfl) (qj rfl) ?_))));have e2:tpD r l=m.take (nDg r m):=(by unfold tpD; rw[hu]);have eq:qD r l=m.drop (nDg r m):=(by unfold qD; rw[hu]);have hsl:slD r l=true:=by
       unfold slD; rw[hu,eq]; exact jwg (by assumption) (by omega) (by assumption)
      have e3:boD r l=((m.drop (nDg r m)).drop 1).take (nDg r ((m.drop (nDg r m)).drop 1)):=(by unfold boD; rw[hsl,eq]; rfl);have e4:reD r l=((m.drop (nDg r m)).drop 1).drop (nDg r ((m.drop (nDg r m)).drop 1)):=(by unfold reD; rw[hsl,eq]; rfl);exact⟨by rw[e1,e2,e3,e4]<;>try rfl,V.bel⟩
 refine wsk fun K35 hK35=>wrl (mv A rfl rfl rfl λa A=>?_);rcases tf (decide (l=([]:List UInt8)))with hb36 | hb36
 ·have hb36':=of_decide_eq_true hb36;have hb36n:(l).length=0:=by rw[hb36']; rfl
  refine sdo (v:=bV false) A (qb rfl rfl (fun w=>(qdg (a:=l) (b:=[]) Tryz.underlying9 w).trans (by rw[hb36]; try rfl))) λa A=>?_;refine sdm A λa A=>?_;iterate 4 refine qf A rfl rfl rfl λa A=>?_
  iterate 3 refine xx A rfl rfl rfl λa A=>?_
  refine qf A rfl rfl rfl λa A=>?_;refine sdk (v:=bV false) A λa A=>?_;refine qa (hK35 _ _ (cf A ?_));refine wp_skip ?_;have hs:ut l=false:=by unfold ut; first | (simp; omega) | (subst_vars; decide)
  exact hJ5 _ _ ⟨l,0,⟨by unfold unS; rw[hs]; rfl,by unfold sgB; rw[hs]; try rfl,by first | exact Nat.le_refl _ | (simp only[List.length_drop]; omega)⟩,A.keep _ ⟨rfl,rfl,rfl,rfl,trivial⟩,V⟩
 ·have hb36':=of_decide_eq_false hb36;have hb36n:¬(l).length=0:=fun k=>hb36' (List.length_eq_zero_iff.1 k);refine sdo (v:=bV true) A (qb rfl rfl (fun w=>(qdg (a:=l) (b:=[]) Tryz.underlying9 w).trans (by rw[hb36]; try rfl))) λa A=>?_;iterate 2 refine sdm A λa A=>?_
  refine sdo (v:=.int .u8 (((btL l 0:Nat):Int))) A (vv (s:=l) (i:=0) Tryz.underlying9 rfl rfl (by first | rfl | omega) (by first | omega | (simp only[List.length_drop,List.length_take]; omega))) λa A=>?_;rcases tf ((((btL l 0:Nat):Int)==43))with hb37 | hb37
  ·have hb37':=eq_of_beq hb37;refine sdc A qg hb37 λa A=>?_;refine sdm A λa A=>?_;iterate 3 refine qf A rfl rfl rfl λa A=>?_
   iterate 2 refine sdk (v:=bV true) A λa A=>?_
   refine qa (hK35 _ _ (ct A ?_));refine jt (S:=fun w1=>St w w1 [] [] []) (by kernel_rfl) ?_;replace V:=V.drew;refine atk A 0 rfl hP (V.partD (cN .slnil) 0 rfl (.refl _)) (λ_ V=>qx rfl) λa A=>?_;refine atk (v:=.int .u8 (((btL l 0:Nat):Int))) A 1 rfl hP (V.partD (cN .slnil) 0 rfl (.refl _)) (λ_ V=>vv (s:=l) (i:=0) Tryz.underlying9 rfl rfl (by first | rfl | omega) (by first | omega | (simp only[List.length_drop,List.length_take]; omega))) λa A=>?_;refine atk A 2 rfl hP (V.partD (cN .slnil) 0 rfl (.refl _)) (λ_ V=>qx rfl) λa A=>?_;refine atk (v:=.string (bsL (l.drop 1))) A 3 rfl hP (V.partD (cN .slnil) 0 rfl (.refl _)) (λ_ V=>xr (p:=1) (s:=l) Tryz.underlying9 rfl rfl (by first | rfl | omega) (by first | omega | (simp only[List.length_drop,List.length_take]; omega))) λa A=>?_;refine atk (v:=pA g2 0) A 4 rfl hP (V.partD (cN .slnil) 0 rfl (.refl _)) (λ_ V=>qe RxC_fld_121_0 rfl rfl) λa A=>?_;refine zm (by kernel_rfl) (jv (us:=[.int .u8 (((btL l 0:Nat):Int)),.string (bsL []),.string (bsL [])]) A V 5 rfl rfl rfl (ql rfl rfl rfl (by kernel_rfl) V 0 rfl rfl rfl) 0 rfl rfl rfl rfl ?_);intro w38 V;refine⟨(V.partD (cN .slnil) 0 rfl (.refl _)),?_⟩;refine atk A 6 rfl hP (V.partD (cN .slnil) 0 rfl (.refl _)) (λ_ V=>zk rfl) λa A=>?_;refine zx (by kernel_rfl) ?_;have hs:ut l=true:=(by unfold ut; simp; omega);exact hJ5 _ _ ⟨l.drop 1,btL l 0,⟨by unfold unS; rw[hs]; rfl,by unfold sgB; rw[hs]; try rfl,by first | exact Nat.le_refl _ | (simp only[List.length_drop]; omega)⟩,A.keep _ ⟨rfl,rfl,rfl,rfl,trivial⟩,V⟩
  ·have hb37':=ne_of_beq_false hb37;refine sdc A qg hb37 λa A=>?_;iterate 2 refine sdm A λa A=>?_
   refine sdo (v:=.int .u8 (((btL l 0:Nat):Int))) A (vv (s:=l) (i:=0) Tryz.underlying9 rfl rfl (by first | rfl | omega) (by first | omega | (simp only[List.length_drop,List.length_take]; omega))) λa A=>?_;rcases tf ((((btL l 0:Nat):Int)==45))with hb39 | hb39
   ·have hb39':=eq_of_beq hb39;refine sdc A qg hb39 λa A=>?_;iterate 2 refine sdk (v:=bV true) A λa A=>?_
    refine qa (hK35 _ _ (ct A ?_));refine jt (S:=fun w1=>St w w1 [] [] []) (by kernel_rfl) ?_;replace V:=V.drew;refine atk A 0 rfl hP (V.partD (cN .slnil) 0 rfl (.refl _)) (λ_ V=>qx rfl) λa A=>?_;refine atk (v:=.int .u8 (((btL l 0:Nat):Int))) A 1 rfl hP (V.partD (cN .slnil) 0 rfl (.refl _)) (λ_ V=>vv (s:=l) (i:=0) Tryz.underlying9 rfl rfl (by first | rfl | omega) (by first | omega | (simp only[List.length_drop,List.length_take]; omega))) λa A=>?_;refine atk A 2 rfl hP (V.partD (cN .slnil) 0 rfl (.refl _)) (λ_ V=>qx rfl) λa A=>?_;refine atk (v:=.string (bsL (l.drop 1))) A 3 rfl hP (V.partD (cN .slnil) 0 rfl (.refl _)) (λ_ V=>xr (p:=1) (s:=l) Tryz.underlying9 rfl rfl (by first | rfl | omega) (by first | omega | (simp only[List.length_drop,List.length_take]; omega))) λa A=>?_;refine atk (v:=pA g2 0) A 4 rfl hP (V.partD (cN .slnil) 0 rfl (.refl _)) (λ_ V=>qe RxC_fld_121_0 rfl rfl) λa A=>?_;refine zm (by kernel_rfl) (jv (us:=[.int .u8 (((btL l 0:Nat):Int)),.string (bsL []),.string (bsL [])]) A V 5 rfl rfl rfl (ql rfl rfl rfl (by kernel_rfl) V 0 rfl rfl rfl) 0 rfl rfl rfl rfl ?_);intro w40 V;refine⟨(V.partD (cN .slnil) 0 rfl (.refl _)),?_⟩;refine atk A 6 rfl hP (V.partD (cN .slnil) 0 rfl (.refl _)) (λ_ V=>zk rfl) λa A=>?_;refine zx (by kernel_rfl) ?_;have hs:ut l=true:=(by unfold ut; simp; omega);exact hJ5 _ _ ⟨l.drop 1,btL l 0,⟨by unfold unS; rw[hs]; rfl,by unfold sgB; rw[hs]; try rfl,by first | exact Nat.le_refl _ | (simp only[List.length_drop]; omega)⟩,A.keep _ ⟨rfl,rfl,rfl,rfl,trivial⟩,V⟩
   ·have hb39':=ne_of_beq_false hb39;refine sdc A qg hb39 λa A=>?_;iterate 2 refine sdk (v:=bV false) A λa A=>?_
    refine qa (hK35 _ _ (cf A ?_));refine wp_skip ?_;have hs:ut l=false:=(by unfold ut; first | (simp; omega) | (subst_vars; decide));exact hJ5 _ _ ⟨l,0,⟨by unfold unS; rw[hs]; rfl,by unfold sgB; rw[hs]; try rfl,by first | exact Nat.le_refl _ | (simp only[List.length_drop]; omega)⟩,A.keep _ ⟨rfl,rfl,rfl,rfl,trivial⟩,V⟩
def LenR(k:Nat)(r:Rat):Prop:=(words r.num.natAbs).length≤k∧(words r.den).length≤k
theorem LenR.mono{k m:Nat}{r:Rat}(h:LenR k r)(hk:k≤m):LenR m r:=⟨Nat.le_trans h.1 hk,Nat.le_trans h.2 hk⟩
theorem zuh{x:Int}{d k:Nat}(hd:d≠0)(h1:(words x.natAbs).length≤k)(h2:(words d).length≤k){u:Rat}(hu:mkRat x d=u):LenR k u:=by
 subst hu;unfold LenR;rw[←jbj x hd,←jca x hd];exact⟨ztc h1,ztc h2⟩
def zcg(b:Bool)(x:Nat):Int×Int:=if x≤9223372036854775807+b.toNat then(sgn b x,0)else(0,4)
def yw(q:Q6):Int×Int:=if jf q=true then(if qea q=true then zcg q.b1 (val q.t1)else(0,10))else(0,2)
theorem zpe{q:Q6}(h:jf q=false):yw q=(0,2):=if_neg (by rw[h]; decide)
theorem zib{q:Q6}(h:jf q=true)(h1:qea q=false):yw q=(0,10):=by
 unfold yw;rw[if_pos h,if_neg (by rw[h1]; decide)]
theorem zic{q:Q6}(h:qea q=true):jf q=true:=by
 unfold qea at h;rw[Bool.and_eq_true]at h;exact h.1
theorem zch{b:Bool}{x:Nat}(h:qea (Q6.whole b x)=true):yw (Q6.whole b x)=zcg b x:=by
 unfold yw;rw[if_pos (zic h),if_pos h];show zcg b (val (words x))=_;rw[val_words]
theorem qmi{x:Nat}(h0:x≠0)(h:x<4294967296):words x=[x]:=by
 rw[words_pos (by omega),show x / 4294967296=0 from by omega,words_zero,Nat.mod_eq_of_lt h]
theorem zci{x:Nat}(h0:4294967296≤x)(h:x<18446744073709551616):words x=[x%4294967296,x / 4294967296]:=by
 rw[words_pos (by omega),qmi (by omega) (by omega)]
theorem qig{x y:Nat}(hx:(words x).length≤512)(hy:(words y).length≤512):cmpS (words x) (words y)=cmpN x y:=by
 unfold cmpS;simp only[jr hx,jr hy,val_words,Bool.and_self,if_true]
theorem jgf(x y:Nat)(hx:x<9223372036854775808)(hy:y<9223372036854775808):bits .or .i64 (x:Int) (y:Int)=((x ||| y:Nat):Int):=by
 have h1:x ||| y<2^63:=Nat.or_lt_two_pow (n:=63) hx hy;have h2:(2:Nat)^63=9223372036854775808:=rfl;have e:(BitVec.ofInt IntKind.i64.bits (x:Int) ||| BitVec.ofInt IntKind.i64.bits (y:Int)).toNat=x ||| y:=by
  rw[BitVec.ofInt_natCast,BitVec.ofInt_natCast,BitVec.toNat_or,BitVec.toNat_ofNat,BitVec.toNat_ofNat];show x%18446744073709551616 ||| y%18446744073709551616=_;rw[Nat.mod_eq_of_lt (by omega),Nat.mod_eq_of_lt (by omega)]
 show IntKind.i64.wrap ((BitVec.ofInt IntKind.i64.bits (x:Int) ||| BitVec.ofInt IntKind.i64.bits (y:Int)).toNat:Int)=_;rw[e];exact in_i64 (by omega) (by omega)
theorem qrj{d:Nat}(h:d<9223372036854775808):bits .or .i64 0 ((d:Nat):Int)=((d:Nat):Int):=by
 have:=jgf 0 d (by decide) h;rw[Nat.zero_or]at this;exact this
theorem jpf{d0 d1:Nat}(h0:d0<4294967296)(h1:d1<2147483648):bits .or .i64 ((d0:Nat):Int) ((d1*4294967296:Nat):Int)=((d0+d1*4294967296:Nat):Int):=by
 rw[jgf d0 (d1*4294967296) (by omega) (by omega)];have e:d0 ||| d1*4294967296=d1*4294967296+d0:=by
  have:=Nat.two_pow_add_eq_or_of_lt (i:=32) (b:=d0) h0 d1;rw[show(2:Nat)^32=4294967296 from rfl]at this;rw[Nat.or_comm,Nat.mul_comm,←this]
 rw[e,Nat.add_comm]
theorem qmj{d:Nat}(h:d<9223372036854775808):IntKind.i64.wrap (((d:Nat):Int)*2^0)=((d:Nat):Int):=by
 rw[Int.pow_zero,Int.mul_one];exact in_i64 (by omega) (by omega)
theorem zyj{d:Nat}(h:d<2147483648):IntKind.i64.wrap (((d:Nat):Int)*2^32)=((d*4294967296:Nat):Int):=by
 rw[show((2:Int)^32)=4294967296 from rfl];rw[in_i64 (by omega) (by omega)];omega
theorem zui{d y:Nat}(h:d<2147483648)(hy:d*4294967296=y):IntKind.i64.wrap (((d:Nat):Int)*2^32)=((y:Nat):Int):=hy▸zyj h
theorem jtg{d0 d1 y x:Nat}(h0:d0<4294967296)(h1:d1<2147483648)(hy:d1*4294967296=y)(hx:d0+y=x):bits .or .i64 ((d0:Nat):Int) ((y:Nat):Int)=((x:Nat):Int):=by
 subst hy hx;exact jpf h0 h1
theorem qih{d:Nat}(h:d<4294967296):IntKind.i64.wrap ((d:Nat):Int)=((d:Nat):Int):=in_i64 (by omega) (by omega)
theorem qva{m:List UInt8}(h:1<m.length):∃a c t,m=a::c::t:=by
 match m with
 | [] => simp at h
 | [a] => simp at h
 | a :: c :: t => exact ⟨a, c, t, rfl⟩
theorem zpf{told ex:Bool}{k:Nat}{m:List UInt8}(h:1<m.length)(h35:btL m 0=35)(hr:xi (btL m 1)≠0)(ht:told=false):jy told ex k m=jy true ex (xi (btL m 1)) (m.drop 2):=by
 obtain⟨a,c,t,rfl⟩:=qva h;have e1:btL (a::c::t) 0=a.toNat:=rfl;have e2:btL (a::c::t) 1=c.toNat:=rfl;rw[e1]at h35;rw[e2]at hr ⊢;rw[jy,if_pos h35,if_pos ⟨hr,ht⟩];rfl
theorem qfa{told ex:Bool}{k:Nat}{m:List UInt8}(h:1<m.length)(h35:btL m 0=35)(hn:xi (btL m 1)=0∨told=true)(hc:btL m 1=101∨btL m 1=69)(he:ex=false):jy told ex k m=jy told true k (m.drop 2):=by
 obtain⟨a,c,t,rfl⟩:=qva h;have e1:btL (a::c::t) 0=a.toNat:=rfl;have e2:btL (a::c::t) 1=c.toNat:=rfl;rw[e1]at h35;rw[e2]at hn hc;have h2:¬(xi c.toNat≠0∧told=false):=by
  rintro⟨k1,k2⟩;rcases hn with hn | hn
  ·exact k1 hn
  ·rw[hn]at k2; cases k2
 rw[jy,if_pos h35,if_neg h2,if_pos ⟨hc,he⟩];rfl
theorem qab{told ex:Bool}{k:Nat}{m:List UInt8}(h:1<m.length)(h35:btL m 0=35)(hn:xi (btL m 1)=0∨told=true)(hc:¬(btL m 1=101∨btL m 1=69)∨ex=true):jy told ex k m=(m,k):=by
 obtain⟨a,c,t,rfl⟩:=qva h;have e1:btL (a::c::t) 0=a.toNat:=rfl;have e2:btL (a::c::t) 1=c.toNat:=rfl;rw[e1]at h35;rw[e2]at hn hc;have h2:¬(xi c.toNat≠0∧told=false):=by
  rintro⟨k1,k2⟩;rcases hn with hn | hn
  ·exact k1 hn
  ·rw[hn]at k2; cases k2
 have h3:¬((c.toNat=101∨c.toNat=69)∧ex=false):=by
  rintro⟨k1,k2⟩;rcases hc with hc | hc
  ·exact hc k1
  ·rw[hc]at k2; cases k2
 rw[jy,if_pos h35,if_neg h2,if_neg h3]
theorem zpg{told ex:Bool}{k:Nat}{m:List UInt8}(h:¬1<m.length):jy told ex k m=(m,k):=by
 match m with
 | [] => rfl
 | [a] => rfl
 | a :: c :: t => simp at h
theorem zph{told ex:Bool}{k:Nat}{m:List UInt8}(h35:btL m 0≠35):jy told ex k m=(m,k):=by
 match m with
 | [] => rfl
 | [a] => rfl
 | a :: c :: t => rw [jy, if_neg (show ¬ a.toNat = 35 from h35)]
def rdN(r:Nat)(l:List UInt8):List Nat×Int:=if l=[]then([1],0)else readS (bsL l) (r:Int)
theorem yj{r:Nat}{l:List UInt8}(h:rdE r l=0):rdN r l=(words (zj r l),0)∧(words (zj r l)).length≤512:=by
 unfold rdN zj;unfold rdE at h;by_cases hl:l=[]
 ·rw[if_pos hl,if_pos hl,qhd]; exact⟨rfl,by decide⟩
 ·rw[if_neg hl]at h;rw[if_neg hl,if_neg hl];exact jfh h
theorem zuj{r:Nat}{l:List UInt8}(h:rdE r l≠0):rdN r l=([],rdE r l):=by
 unfold rdN;unfold rdE at h ⊢;by_cases hl:l=[]
 ·rw[if_pos hl]at h; exact absurd rfl h
 ·rw[if_neg hl]at h;rw[if_neg hl,if_neg hl];exact zyh h
theorem jb{r:Nat}{n:Nl}(h:vq r n=0):rdE r n.2.1=0∧rdE r n.2.2=0:=by
 unfold vq at h
 split at h
 ·rename_i k; exact absurd h k
 ·rename_i k; exact⟨by simpa using k,h⟩
theorem xbd(n:Nat):(((n:Nat):Int)==45)=decide (n=45):=by
 by_cases h:n=45
 ·subst h; rfl
 ·rw[decide_eq_false h,beq_eq_false_iff_ne]; omega
theorem qvb(l:List UInt8):(((sgB l:Nat):Int) != 0)=ut l:=by
 unfold sgB;by_cases h:ut l=true
 ·rw[h,if_pos rfl];unfold ut at h;simp only[Bool.or_eq_true,decide_eq_true_eq]at h;rw[bne_iff_ne];omega
 ·have h:=Bool.eq_false_iff.2 h;rw[h]; rfl
theorem jpg{x y:Int}{d e:Nat}(hd:d≠0)(he:e≠0):Q6.rat (mkRat x d) (mkRat y e)=⟨rb x,words (rt x d),words (rq x d),rb y,words (rt y e),words (rq y e)⟩:=by
 unfold Q6.rat;rw[←jbj x hd,←jca x hd,←jta x hd,←jbj y he,←jca y he,←jta y he]
theorem qha{r:Nat}{n m:Nl}(h:vq r n≠0∨vq r m≠0):vm r n m=(Q6.zero,4):=by unfold vm; rw[if_pos h]
theorem qii{r:Nat}{n m:Nl}(h1:vq r n=0)(h2:vq r m=0)(h:zj r n.2.2=0∨zj r m.2.2=0):vm r n m=(Q6.zero,3):=by unfold vm; rw[if_neg (by rintro(k | k); exact k h1; exact k h2),if_pos h]
theorem jph{r:Nat}{n m:Nl}(h1:vq r n=0)(h2:vq r m=0)(k1:zj r n.2.2≠0)(k2:zj r m.2.2≠0):vm r n m=(⟨rb (sgn (decide (n.1=45)) (zj r n.2.1)),words (rt (sgn (decide (n.1=45)) (zj r n.2.1)) (zj r n.2.2)),words (rq (sgn (decide (n.1=45)) (zj r n.2.1)) (zj r n.2.2)),rb (sgn (decide (m.1=45)) (zj r m.2.1)),words (rt (sgn (decide (m.1=45)) (zj r m.2.1)) (zj r m.2.2)),words (rq (sgn (decide (m.1=45)) (zj r m.2.1)) (zj r m.2.2))⟩,0):=by
 unfold vm;rw[if_neg (by rintro(k | k); exact k h1; exact k h2),if_neg (by rintro(k | k); exact k1 k; exact k2 k)];unfold zbj;rw[jpg k1 k2]
theorem qbh{b:Bool}{n k:Nat}(h:(words n).length≤k):(words (sgn b n).natAbs).length≤k:=by
 have e:(sgn b n).natAbs=n:=by cases b<;>simp[sgn]
 rw[e]; exact h
theorem RxD_is1_5: Is1 Tryz.prog 5:=⟨⟨_,Tryz.underlying5,rfl⟩,by kernel_rfl⟩
theorem RxD_is1_9: Is1 Tryz.prog 9:=⟨⟨_,Tryz.underlying9,rfl⟩,by kernel_rfl⟩
theorem RxD_fld_121_0: FieldAt Tryz.prog 121 0 0:=⟨_,_,Tryz.underlying121,rfl,rfl,by kernel_rfl⟩
theorem RxD_fld_121_1: FieldAt Tryz.prog 121 1 1:=⟨_,_,Tryz.underlying121,rfl,rfl,by kernel_rfl⟩
theorem RxD_fld_121_2: FieldAt Tryz.prog 121 2 2:=⟨_,_,Tryz.underlying121,rfl,rfl,by kernel_rfl⟩
theorem RxD_isS_121: IsS Tryz.prog 121 3:=⟨⟨_,Tryz.underlying121⟩,by kernel_rfl⟩
theorem RxD_isS_146: IsS Tryz.prog 146 2:=⟨⟨_,Tryz.underlying146⟩,by kernel_rfl⟩
theorem qqj{w:World}{r:Nat}{l:List UInt8}(hl:l.length≤9223372036854775807):Calls Tryz.prog 92 #[.string (bsL l),iV ((r:Nat):Int)] w fun e w'=>e=.returned (.tuple #[.string (bsL ((jy false false r l).1)),iV (((jy false false r l).2:Nat):Int)])∧Below w.heap.size w w':=by
 have V:St w w [] [] []:=St.start w;refine qn (l:=[(0,.string (bsL l)),(1,iV (((r:Nat):Int)))]) Tryz.func92 rfl Tryz.ntmps92 rfl rfl ?_;intro Q hret hnorm hP a A;refine wsk fun K1 hK1=>wrl ?_;iterate 2 refine sda A λa A=>?_
 refine qa (hK1 _ _ (wsk fun K2 hK2=>wrl ?_));iterate 2 refine sda A λa A=>?_
 refine qa (hK2 _ _ (wsk fun K3 hK3=>wp_block (jd (fun m a w1=>∃(q:List UInt8) (k:Nat) (told:Bool) (ex:Bool),m=1+q.length∧(jy told ex k q=jy false false r l∧q.length≤l.length)∧Sl a 47 [(0,.string (bsL q)),(1,iV (((k:Nat):Int))),(6,bV told),(7,bV ex)]∧St w w1 [] [] []) _ ⟨l,r,false,false,rfl,⟨rfl,Nat.le_refl _⟩,A.keep _ ⟨rfl,rfl,rfl,rfl,trivial⟩,V⟩ ?_)));clear V A;rintro m a w4 ⟨q,k,told,ex,rfl,hinv6,A,V⟩ K5 hK5;have hq:=hinv6.2;refine wsk fun K7 hK7=>wsk fun K8 hK8=>wrl (mv A rfl rfl rfl λa A=>?_);refine sdo A (qoj Tryz.underlying9 rfl) λa A=>?_;rcases tf (decide (1<((q.length:Nat):Int)))with hb9 | hb9
 ·have hb9':=of_decide_eq_true hb9;refine sdc A zn hb9 λa A=>?_;iterate 2 refine sdm A λa A=>?_
  refine sdo (v:=.int .u8 (((btL q 0:Nat):Int))) A (vv (s:=q) (i:=0) Tryz.underlying9 rfl rfl (by first | rfl | omega) (by first | omega | (simp only[List.length_drop,List.length_take]; omega))) λa A=>?_;rcases tf ((((btL q 0:Nat):Int)==35))with hb10 | hb10
  ·have hb10':=eq_of_beq hb10;refine sdc A qg hb10 λa A=>?_;refine sdk (v:=bV true) A λa A=>?_;refine qa (hK8 _ _ (ct A ?_));refine wp_skip (hK7 _ _ (wp_block (wsk fun K11 hK11=>wrl (mv A rfl rfl rfl λa A=>?_))));refine sdo (v:=.int .u8 (((btL q 1:Nat):Int))) A (vv (s:=q) (i:=1) Tryz.underlying9 rfl rfl (by first | rfl | omega) (by first | omega | (simp only[List.length_drop,List.length_take]; omega))) λa A=>?_;refine sct A (ef rfl rfl) (zia rfl) ?_;rintro _ w13 ⟨rfl,hb12⟩;replace V:=V.call hb12;refine⟨_,rfl,?_⟩;intro a A;refine sda A λa A=>?_;refine qa (hK11 _ _ (wsk fun K14 hK14=>wp_block (wsk fun K15 hK15=>wrl (mv A rfl rfl rfl λa A=>?_))));rcases tf (decide (0<((xi (btL q 1):Nat):Int)))with hb16 | hb16
   ·have hb16':=of_decide_eq_true hb16;refine sdc A zn hb16 λa A=>?_;iterate 2 refine sdm A λa A=>?_
    refine sdo (v:=bV (!told)) A (qp rfl ze) λa A=>?_;refine sdo (v:=bV (!told)) A (jl rfl rfl rfl rfl) λa A=>?_;refine sda A λa A=>?_;refine qa (hK15 _ _ ?_);refine wp_cond_split (t:=!told) (A.ev rfl) (fun hc17=>?_) (fun hc17=>?_)
    ·refine wrl (mv A rfl rfl rfl λa A=>?_);iterate 2 refine sda A λa A=>?_
     refine qa (hK14 _ _ (wrl (mv A rfl rfl rfl λa A=>?_)));refine sdo (v:=.string (bsL (q.drop 2))) A (xr (p:=2) (s:=q) Tryz.underlying9 rfl rfl (by first | rfl | omega) (by first | omega | (simp only[List.length_drop,List.length_take]; omega))) λa A=>?_;refine sda A λa A=>?_;refine qa ?_;refine hK5 _ _ _ (by simp only[List.length_drop]; omega) ⟨q.drop 2,xi (btL q 1),true,ex,rfl,⟨(zpf (by omega) (by omega) (by omega) (by simpa using hc17)).symm.trans hinv6.1,by simp only[List.length_drop]; omega⟩,A.keep _ ⟨rfl,rfl,rfl,rfl,trivial⟩,V⟩
    ·refine wsk fun K18 hK18=>wrl (mv A rfl rfl rfl λa A=>?_);refine sdo (v:=.int .u8 (((btL q 1:Nat):Int))) A (vv (s:=q) (i:=1) Tryz.underlying9 rfl rfl (by first | rfl | omega) (by first | omega | (simp only[List.length_drop,List.length_take]; omega))) λa A=>?_;rcases tf ((((btL q 1:Nat):Int)==101))with hb19 | hb19
     ·have hb19':=eq_of_beq hb19;refine sdc A qg hb19 λa A=>?_;refine sdm A λa A=>?_;iterate 3 refine qf A rfl rfl rfl λa A=>?_
      refine sdk (v:=bV true) A λa A=>?_;iterate 2 refine sdm A λa A=>?_
      refine sdo (v:=bV (!ex)) A (qp rfl ze) λa A=>?_;refine sdo (v:=bV (!ex)) A (jl rfl rfl rfl rfl) λa A=>?_;refine sda A λa A=>?_;refine qa (hK18 _ _ ?_);refine wp_cond_split (t:=!ex) (A.ev rfl) (fun hc20=>?_) (fun hc20=>?_)
      ·refine wrl (sda A λa A=>?_);refine qa (hK14 _ _ (wrl (mv A rfl rfl rfl λa A=>?_)));refine sdo (v:=.string (bsL (q.drop 2))) A (xr (p:=2) (s:=q) Tryz.underlying9 rfl rfl (by first | rfl | omega) (by first | omega | (simp only[List.length_drop,List.length_take]; omega))) λa A=>?_;refine sda A λa A=>?_;refine qa ?_;refine hK5 _ _ _ (by simp only[List.length_drop]; omega) ⟨q.drop 2,k,told,true,rfl,⟨(qfa (by omega) (by omega) (Or.inr (by simpa using hc17)) (by omega) (by simpa using hc20)).symm.trans hinv6.1,by simp only[List.length_drop]; omega⟩,A.keep _ ⟨rfl,rfl,rfl,rfl,trivial⟩,V⟩
      ·refine wsk fun K21 hK21=>wrl ?_;iterate 2 refine sdm A λa A=>?_
       iterate 2 refine sda A λa A=>?_
       refine qa (hK21 _ _ (wp_ret (hret _ _ (en2 A rfl (qj rfl) (qj rfl) ?_))));have e9:jy false false r l=(q,k):=hinv6.1.symm.trans (qab (by omega) (by omega) (Or.inr (by simpa using hc17)) (Or.inr (by simpa using hc20)));exact⟨by rw[e9],V.bel⟩
     ·have hb19':=ne_of_beq_false hb19;refine sdc A qg hb19 λa A=>?_;iterate 2 refine sdm A λa A=>?_
      refine sdo (v:=.int .u8 (((btL q 1:Nat):Int))) A (vv (s:=q) (i:=1) Tryz.underlying9 rfl rfl (by first | rfl | omega) (by first | omega | (simp only[List.length_drop,List.length_take]; omega))) λa A=>?_;rcases tf ((((btL q 1:Nat):Int)==69))with hb22 | hb22
      ·have hb22':=eq_of_beq hb22;refine sdc A qg hb22 λa A=>?_;refine sdk (v:=bV true) A λa A=>?_;iterate 2 refine sdm A λa A=>?_
       refine sdo (v:=bV (!ex)) A (qp rfl ze) λa A=>?_;refine sdo (v:=bV (!ex)) A (jl rfl rfl rfl rfl) λa A=>?_;refine sda A λa A=>?_;refine qa (hK18 _ _ ?_);refine wp_cond_split (t:=!ex) (A.ev rfl) (fun hc23=>?_) (fun hc23=>?_)
       ·refine wrl (sda A λa A=>?_);refine qa (hK14 _ _ (wrl (mv A rfl rfl rfl λa A=>?_)));refine sdo (v:=.string (bsL (q.drop 2))) A (xr (p:=2) (s:=q) Tryz.underlying9 rfl rfl (by first | rfl | omega) (by first | omega | (simp only[List.length_drop,List.length_take]; omega))) λa A=>?_;refine sda A λa A=>?_;refine qa ?_;refine hK5 _ _ _ (by simp only[List.length_drop]; omega) ⟨q.drop 2,k,told,true,rfl,⟨(qfa (by omega) (by omega) (Or.inr (by simpa using hc17)) (by omega) (by simpa using hc23)).symm.trans hinv6.1,by simp only[List.length_drop]; omega⟩,A.keep _ ⟨rfl,rfl,rfl,rfl,trivial⟩,V⟩
       ·refine wsk fun K24 hK24=>wrl ?_;iterate 2 refine sdm A λa A=>?_
        iterate 2 refine sda A λa A=>?_
        refine qa (hK24 _ _ (wp_ret (hret _ _ (en2 A rfl (qj rfl) (qj rfl) ?_))));have e9:jy false false r l=(q,k):=hinv6.1.symm.trans (qab (by omega) (by omega) (Or.inr (by simpa using hc17)) (Or.inr (by simpa using hc23)));exact⟨by rw[e9],V.bel⟩
      ·have hb22':=ne_of_beq_false hb22;refine sdc A qg hb22 λa A=>?_;refine sdk (v:=bV false) A λa A=>?_;refine sdm A λa A=>?_;iterate 2 refine qf A rfl rfl rfl λa A=>?_
       refine sdk (v:=bV false) A λa A=>?_;refine sda A λa A=>?_;refine qa (hK18 _ _ (cf A ?_));refine wsk fun K25 hK25=>wrl ?_;iterate 2 refine sdm A λa A=>?_
       iterate 2 refine sda A λa A=>?_
       refine qa (hK25 _ _ (wp_ret (hret _ _ (en2 A rfl (qj rfl) (qj rfl) ?_))));have e9:jy false false r l=(q,k):=hinv6.1.symm.trans (qab (by omega) (by omega) (Or.inr (by simpa using hc17)) (Or.inl (by omega)));exact⟨by rw[e9],V.bel⟩
   ·have hb16':=of_decide_eq_false hb16;refine sdc A zn hb16 λa A=>?_;refine sdm A λa A=>?_;iterate 2 refine qf A rfl rfl rfl λa A=>?_
    refine sdk (v:=bV false) A λa A=>?_;refine sda A λa A=>?_;refine qa (hK15 _ _ (cf A ?_));refine wsk fun K26 hK26=>wrl (mv A rfl rfl rfl λa A=>?_);refine sdo (v:=.int .u8 (((btL q 1:Nat):Int))) A (vv (s:=q) (i:=1) Tryz.underlying9 rfl rfl (by first | rfl | omega) (by first | omega | (simp only[List.length_drop,List.length_take]; omega))) λa A=>?_;rcases tf ((((btL q 1:Nat):Int)==101))with hb27 | hb27
    ·have hb27':=eq_of_beq hb27;refine sdc A qg hb27 λa A=>?_;refine sdm A λa A=>?_;iterate 3 refine qf A rfl rfl rfl λa A=>?_
     refine sdk (v:=bV true) A λa A=>?_;iterate 2 refine sdm A λa A=>?_
     refine sdo (v:=bV (!ex)) A (qp rfl ze) λa A=>?_;refine sdo (v:=bV (!ex)) A (jl rfl rfl rfl rfl) λa A=>?_;refine sda A λa A=>?_;refine qa (hK26 _ _ ?_);refine wp_cond_split (t:=!ex) (A.ev rfl) (fun hc28=>?_) (fun hc28=>?_)
     ·refine wrl (sda A λa A=>?_);refine qa (hK14 _ _ (wrl (mv A rfl rfl rfl λa A=>?_)));refine sdo (v:=.string (bsL (q.drop 2))) A (xr (p:=2) (s:=q) Tryz.underlying9 rfl rfl (by first | rfl | omega) (by first | omega | (simp only[List.length_drop,List.length_take]; omega))) λa A=>?_;refine sda A λa A=>?_;refine qa ?_;refine hK5 _ _ _ (by simp only[List.length_drop]; omega) ⟨q.drop 2,k,told,true,rfl,⟨(qfa (by omega) (by omega) (Or.inl (by omega)) (by omega) (by simpa using hc28)).symm.trans hinv6.1,by simp only[List.length_drop]; omega⟩,A.keep _ ⟨rfl,rfl,rfl,rfl,trivial⟩,V⟩
     ·refine wsk fun K29 hK29=>wrl ?_;iterate 2 refine sdm A λa A=>?_
      iterate 2 refine sda A λa A=>?_
      refine qa (hK29 _ _ (wp_ret (hret _ _ (en2 A rfl (qj rfl) (qj rfl) ?_))));have e9:jy false false r l=(q,k):=hinv6.1.symm.trans (qab (by omega) (by omega) (Or.inl (by omega)) (Or.inr (by simpa using hc28)));exact⟨by rw[e9],V.bel⟩
    ·have hb27':=ne_of_beq_false hb27;refine sdc A qg hb27 λa A=>?_;iterate 2 refine sdm A λa A=>?_
     refine sdo (v:=.int .u8 (((btL q 1:Nat):Int))) A (vv (s:=q) (i:=1) Tryz.underlying9 rfl rfl (by first | rfl | omega) (by first | omega | (simp only[List.length_drop,List.length_take]; omega))) λa A=>?_;rcases tf ((((btL q 1:Nat):Int)==69))with hb30 | hb30
     ·have hb30':=eq_of_beq hb30;refine sdc A qg hb30 λa A=>?_;refine sdk (v:=bV true) A λa A=>?_;iterate 2 refine sdm A λa A=>?_
      refine sdo (v:=bV (!ex)) A (qp rfl ze) λa A=>?_;refine sdo (v:=bV (!ex)) A (jl rfl rfl rfl rfl) λa A=>?_;refine sda A λa A=>?_;refine qa (hK26 _ _ ?_);refine wp_cond_split (t:=!ex) (A.ev rfl) (fun hc31=>?_) (fun hc31=>?_)
      ·refine wrl (sda A λa A=>?_);refine qa (hK14 _ _ (wrl (mv A rfl rfl rfl λa A=>?_)));refine sdo (v:=.string (bsL (q.drop 2))) A (xr (p:=2) (s:=q) Tryz.underlying9 rfl rfl (by first | rfl | omega) (by first | omega | (simp only[List.length_drop,List.length_take]; omega))) λa A=>?_;refine sda A λa A=>?_;refine qa ?_;refine hK5 _ _ _ (by simp only[List.length_drop]; omega) ⟨q.drop 2,k,told,true,rfl,⟨(qfa (by omega) (by omega) (Or.inl (by omega)) (by omega) (by simpa using hc31)).symm.trans hinv6.1,by simp only[List.length_drop]; omega⟩,A.keep _ ⟨rfl,rfl,rfl,rfl,trivial⟩,V⟩
      ·refine wsk fun K32 hK32=>wrl ?_;iterate 2 refine sdm A λa A=>?_
       iterate 2 refine sda A λa A=>?_
       refine qa (hK32 _ _ (wp_ret (hret _ _ (en2 A rfl (qj rfl) (qj rfl) ?_))));have e9:jy false false r l=(q,k):=hinv6.1.symm.trans (qab (by omega) (by omega) (Or.inl (by omega)) (Or.inr (by simpa using hc31)));exact⟨by rw[e9],V.bel⟩
     ·have hb30':=ne_of_beq_false hb30;refine sdc A qg hb30 λa A=>?_;refine sdk (v:=bV false) A λa A=>?_;refine sdm A λa A=>?_;iterate 2 refine qf A rfl rfl rfl λa A=>?_
      refine sdk (v:=bV false) A λa A=>?_;refine sda A λa A=>?_;refine qa (hK26 _ _ (cf A ?_));refine wsk fun K33 hK33=>wrl ?_;iterate 2 refine sdm A λa A=>?_
      iterate 2 refine sda A λa A=>?_
      refine qa (hK33 _ _ (wp_ret (hret _ _ (en2 A rfl (qj rfl) (qj rfl) ?_))));have e9:jy false false r l=(q,k):=hinv6.1.symm.trans (qab (by omega) (by omega) (Or.inl (by omega)) (Or.inl (by omega)));exact⟨by rw[e9],V.bel⟩
  ·have hb10':=ne_of_beq_false hb10;refine sdc A qg hb10 λa A=>?_;refine sdk (v:=bV false) A λa A=>?_;refine qa (hK8 _ _ (cf A ?_));refine wp_exit (hK3 _ _ (wsk fun K34 hK34=>wrl ?_));iterate 2 refine sdm A λa A=>?_
   iterate 2 refine sda A λa A=>?_
   refine qa (hK34 _ _ (wp_ret (hret _ _ (en2 A rfl (qj rfl) (qj rfl) ?_))));have e9:jy false false r l=(q,k):=hinv6.1.symm.trans (zph (by omega));exact⟨by rw[e9],V.bel⟩
 ·have hb9':=of_decide_eq_false hb9;refine sdc A zn hb9 λa A=>?_;refine sdm A λa A=>?_;iterate 3 refine qf A rfl rfl rfl λa A=>?_
  refine sdk (v:=bV false) A λa A=>?_;refine qa (hK8 _ _ (cf A ?_));refine wp_exit (hK3 _ _ (wsk fun K35 hK35=>wrl ?_));iterate 2 refine sdm A λa A=>?_
  iterate 2 refine sda A λa A=>?_
  refine qa (hK35 _ _ (wp_ret (hret _ _ (en2 A rfl (qj rfl) (qj rfl) ?_))));have e9:jy false false r l=(q,k):=hinv6.1.symm.trans (zpg (by omega));exact⟨by rw[e9],V.bel⟩
theorem zcj(r:Nat)(l:List UInt8):(reD r l).length≤l.length:=by
 have e:(unS l).length≤l.length:=by unfold unS; split; rw[List.length_drop]; omega; exact Nat.le_refl _
 have e1:(qD r l).length≤l.length:=by unfold qD; rw[List.length_drop]; omega
 unfold reD
 split
 ·rw[List.length_drop,List.length_drop]; omega
 ·exact e1
theorem zda{w:World}{r:Nat}{l:List UInt8}(hr:RadN r)(hl:l.length≤9223372036854775807):Calls Tryz.prog 93 #[.string (bsL l),iV ((r:Nat):Int)] w fun e w'=>e=.returned (.tuple #[.agg #[.int .u8 (((reP r l).1:Nat):Int),.string (bsL (reP r l).2.1),.string (bsL (reP r l).2.2)],.agg #[.int .u8 (((imP r l).1:Nat):Int),.string (bsL (imP r l).2.1),.string (bsL (imP r l).2.2)],bV (okP r l)])∧Below w.heap.size w w':=by
 have V:St w w [] [] []:=St.start w;refine qn (l:=[(0,.string (bsL l)),(1,iV (((r:Nat):Int)))]) Tryz.func93 rfl Tryz.ntmps93 rfl rfl ?_;intro Q hret hnorm hP a A;refine wsk fun K1 hK1=>wrl (qy (vs:=[.int .u8 0,.string (bsL []),.string (bsL [])]) (t:=121) A V rfl rfl rfl pg (qk (z:=.agg #[.int .u8 0,.string (bsL []),.string (bsL [])]) (by kernel_rfl) rfl) rfl ?_);intro g2 w3 V a A;refine qy (vs:=[.int .u8 0,.string (bsL []),.string (bsL [])]) (t:=121) A V rfl rfl rfl pg (qk (z:=.agg #[.int .u8 0,.string (bsL []),.string (bsL [])]) (by kernel_rfl) rfl) rfl ?_;intro g4 w5 V a A;refine sda A λa A=>?_;refine qa (hK1 _ _ (wsk fun K6 hK6=>wrl (sdo (v:=.agg #[.int .u8 0,.string (bsL [48]),.string (bsL [])]) A (qs rfl (fun w=>by kernel_rfl)) λa A=>?_)));refine qy (vs:=[.int .u8 0,.string (bsL []),.string (bsL [])]) (t:=121) A V rfl rfl rfl pg (qk (z:=.agg #[.int .u8 0,.string (bsL []),.string (bsL [])]) (by kernel_rfl) rfl) rfl ?_;intro g7 w8 V a A;refine zf (us:=[.int .u8 0,.string (bsL [48]),.string (bsL [])]) A V rfl rfl (ql rfl rfl rfl (by kernel_rfl) V 0 rfl rfl rfl) 0 rfl rfl rfl rfl ?_;intro w9 V;refine qa (hK6 _ _ (wsk fun K10 hK10=>wrl ?_));iterate 2 refine sdm A λa A=>?_
 refine sct A (ef rfl rfl) (qgj (l:=l) hr (by first | omega | (have h9:=zcj r l; omega))) ?_;rintro _ w12 ⟨rfl,hb11⟩;replace V:=V.call hb11;refine⟨_,rfl,?_⟩;intro a A;refine sdm A λa A=>?_;iterate 2 refine sdo A (qi (vs:=[.agg #[.int .u8 (((sgB l:Nat):Int)),.string (bsL (tpD r l)),.string (bsL (boD r l))],.string (bsL (reD r l))]) rfl rfl) λa A=>?_
 refine qy (vs:=[.int .u8 0,.string (bsL []),.string (bsL [])]) (t:=121) A V rfl rfl rfl pg (qk (z:=.agg #[.int .u8 0,.string (bsL []),.string (bsL [])]) (by kernel_rfl) rfl) rfl ?_;intro g13 w14 V a A;refine zf (us:=[.int .u8 (((sgB l:Nat):Int)),.string (bsL (tpD r l)),.string (bsL (boD r l))]) A V rfl rfl (ql rfl rfl rfl (by kernel_rfl) V 0 rfl rfl rfl) 0 rfl rfl rfl rfl ?_;intro w15 V;refine sda A λa A=>?_;refine qa (hK10 _ _ (wsk fun K16 hK16=>wsk fun K17 hK17=>wrl (mv A rfl rfl rfl λa A=>?_)));rcases tf (decide (reD r l=([]:List UInt8)))with hb18 | hb18
 ·have hb18':=of_decide_eq_true hb18;have hb18n:(reD r l).length=0:=by rw[hb18']; rfl
  refine sdo (v:=bV true) A (qb rfl rfl (fun w=>(vg (a:=reD r l) (b:=[]) Tryz.underlying9 w).trans (by rw[hb18]; try rfl))) λa A=>?_;refine qa (hK17 _ _ (ct A ?_));refine wsk fun K19 hK19=>jt (S:=fun w1=>St w w1 [(g13,[.int .u8 (((sgB l:Nat):Int)),.string (bsL (tpD r l)),.string (bsL (boD r l))]),(g7,[.int .u8 0,.string (bsL [48]),.string (bsL [])])] [] []) (by kernel_rfl) ?_;replace V:=V.drew;refine atk A 0 rfl hP (V.partD (cC (cC (cN (cN .slnil)))) 0 rfl (.refl _)) (λ_ V=>qr V RxD_isS_121 rfl 0 rfl (cs:=[.int .u8 (((sgB l:Nat):Int)),.string (bsL (tpD r l)),.string (bsL (boD r l))]) rfl rfl) λa A=>?_;refine atk A 1 rfl hP (V.partD (cC (cC (cN (cN .slnil)))) 0 rfl (.refl _)) (λ_ V=>qr V RxD_isS_121 rfl 1 rfl (cs:=[.int .u8 0,.string (bsL [48]),.string (bsL [])]) rfl rfl) λa A=>?_;refine atk (v:=pA g13 1) A 2 rfl hP (V.partD (cC (cC (cN (cN .slnil)))) 0 rfl (.refl _)) (λ_ V=>qe RxD_fld_121_1 rfl rfl) λa A=>?_;refine atk A 3 rfl hP (V.partD (cC (cC (cN (cN .slnil)))) 0 rfl (.refl _)) (λ_ V=>qh V RxD_is1_9 rfl 0 rfl rfl) λa A=>?_;rcases tf (decide (tpD r l=([]:List UInt8)))with hb20 | hb20
  ·have hb20':=of_decide_eq_true hb20;have hb20n:(tpD r l).length=0:=(by rw[hb20']; rfl);refine atk (v:=bV false) A 4 rfl hP (V.partD (cC (cC (cN (cN .slnil)))) 0 rfl (.refl _)) (λ_ V=>qb rfl rfl (fun w=>(qdg (a:=tpD r l) (b:=[]) Tryz.underlying9 w).trans (by rw[hb20]; try rfl))) λa A=>?_;refine zm (by kernel_rfl) (jv (us:=[.int .u8 (((sgB l:Nat):Int)),.string (bsL (tpD r l)),.string (bsL (boD r l))]) A V 5 rfl rfl rfl (ql rfl rfl rfl (by kernel_rfl) V 3 rfl rfl rfl) 3 rfl rfl rfl rfl ?_);intro w21 V;refine⟨(V.partD (cC (cC (cN (cN .slnil)))) 0 rfl (.refl _)),?_⟩;refine zm (by kernel_rfl) (jv (us:=[.int .u8 0,.string (bsL [48]),.string (bsL [])]) A V 6 rfl rfl rfl (ql rfl rfl rfl (by kernel_rfl) V 2 rfl rfl rfl) 2 rfl rfl rfl rfl ?_);intro w22 V;refine⟨(V.partD (cC (cC (cN (cN .slnil)))) 0 rfl (.refl _)),?_⟩;refine atk A 7 rfl hP (V.partD (cC (cC (cN (cN .slnil)))) 0 rfl (.refl _)) (λ_ V=>zk rfl) λa A=>?_;refine zx (by kernel_rfl) ?_;refine hK19 _ _ (wp_ret (hret _ _ (en3 A rfl (zq V RxD_isS_121 rfl 3 rfl (cs:=[.int .u8 (((sgB l:Nat):Int)),.string (bsL (tpD r l)),.string (bsL (boD r l))]) rfl rfl) (zq V RxD_isS_121 rfl 2 rfl (cs:=[.int .u8 0,.string (bsL [48]),.string (bsL [])]) rfl rfl) (qj rfl) ?_)));have e1:reP r l=nlD r l:=(by unfold reP; rw[if_pos hb18']);have e2:imP r l=nl0:=(by unfold imP; rw[if_pos hb18']);have e3:okP r l=false:=(by unfold okP; simp[hb18',hb20']);rw[e1,e2,e3];exact⟨rfl,V.bel⟩
  ·have hb20':=of_decide_eq_false hb20;have hb20n:¬(tpD r l).length=0:=fun k=>hb20' (List.length_eq_zero_iff.1 k);refine atk (v:=bV true) A 4 rfl hP (V.partD (cC (cC (cN (cN .slnil)))) 0 rfl (.refl _)) (λ_ V=>qb rfl rfl (fun w=>(qdg (a:=tpD r l) (b:=[]) Tryz.underlying9 w).trans (by rw[hb20]; try rfl))) λa A=>?_;refine zm (by kernel_rfl) (jv (us:=[.int .u8 (((sgB l:Nat):Int)),.string (bsL (tpD r l)),.string (bsL (boD r l))]) A V 5 rfl rfl rfl (ql rfl rfl rfl (by kernel_rfl) V 3 rfl rfl rfl) 3 rfl rfl rfl rfl ?_);intro w23 V;refine⟨(V.partD (cC (cC (cN (cN .slnil)))) 0 rfl (.refl _)),?_⟩;refine zm (by kernel_rfl) (jv (us:=[.int .u8 0,.string (bsL [48]),.string (bsL [])]) A V 6 rfl rfl rfl (ql rfl rfl rfl (by kernel_rfl) V 2 rfl rfl rfl) 2 rfl rfl rfl rfl ?_);intro w24 V;refine⟨(V.partD (cC (cC (cN (cN .slnil)))) 0 rfl (.refl _)),?_⟩;refine atk A 7 rfl hP (V.partD (cC (cC (cN (cN .slnil)))) 0 rfl (.refl _)) (λ_ V=>zk rfl) λa A=>?_;refine zx (by kernel_rfl) ?_;refine hK19 _ _ (wp_ret (hret _ _ (en3 A rfl (zq V RxD_isS_121 rfl 3 rfl (cs:=[.int .u8 (((sgB l:Nat):Int)),.string (bsL (tpD r l)),.string (bsL (boD r l))]) rfl rfl) (zq V RxD_isS_121 rfl 2 rfl (cs:=[.int .u8 0,.string (bsL [48]),.string (bsL [])]) rfl rfl) (qj rfl) ?_)));have e1:reP r l=nlD r l:=(by unfold reP; rw[if_pos hb18']);have e2:imP r l=nl0:=(by unfold imP; rw[if_pos hb18']);have e3:okP r l=true:=(by unfold okP; simp[hb18',hb20']);rw[e1,e2,e3];exact⟨rfl,V.bel⟩
 ·have hb18':=of_decide_eq_false hb18;have hb18n:¬(reD r l).length=0:=fun k=>hb18' (List.length_eq_zero_iff.1 k);refine sdo (v:=bV false) A (qb rfl rfl (fun w=>(vg (a:=reD r l) (b:=[]) Tryz.underlying9 w).trans (by rw[hb18]; try rfl))) λa A=>?_;refine qa (hK17 _ _ (cf A ?_));refine wp_skip (hK16 _ _ (wsk fun K25 hK25=>wsk fun K26 hK26=>wrl (mv A rfl rfl rfl λa A=>?_)));rcases tf (qfg (reD r l))with hb27 | hb27
  ·refine sct A (ef rfl rfl) (qej hb27) ?_;rintro _ w29 ⟨rfl,hb28⟩;replace V:=V.call hb28;refine⟨_,rfl,?_⟩;intro a A;refine qa (hK26 _ _ (ct A ?_));refine wsk fun K30 hK30=>jt (S:=fun w1=>St w w1 [(g13,[.int .u8 (((sgB l:Nat):Int)),.string (bsL (tpD r l)),.string (bsL (boD r l))]),(g7,[.int .u8 0,.string (bsL [48]),.string (bsL [])])] [] []) (by kernel_rfl) ?_;replace V:=V.drew;refine atk A 0 rfl hP (V.partD (cC (cC (cN (cN .slnil)))) 0 rfl (.refl _)) (λ_ V=>qr V RxD_isS_121 rfl 1 rfl (cs:=[.int .u8 0,.string (bsL [48]),.string (bsL [])]) rfl rfl) λa A=>?_;refine atk A 1 rfl hP (V.partD (cC (cC (cN (cN .slnil)))) 0 rfl (.refl _)) (λ_ V=>qr V RxD_isS_121 rfl 0 rfl (cs:=[.int .u8 (((sgB l:Nat):Int)),.string (bsL (tpD r l)),.string (bsL (boD r l))]) rfl rfl) λa A=>?_;refine atk (v:=pA g13 0) A 2 rfl hP (V.partD (cC (cC (cN (cN .slnil)))) 0 rfl (.refl _)) (λ_ V=>qe RxD_fld_121_0 rfl rfl) λa A=>?_;refine atk A 3 rfl hP (V.partD (cC (cC (cN (cN .slnil)))) 0 rfl (.refl _)) (λ_ V=>qh V RxD_is1_5 rfl 0 rfl rfl) λa A=>?_;rcases tf ((((sgB l:Nat):Int) != 0))with hb31 | hb31
   ·have hb31':=bne_iff_ne.1 hb31;refine atk (v:=bV true) A 4 rfl hP (V.partD (cC (cC (cN (cN .slnil)))) 0 rfl (.refl _)) (λ_ V=>qb rfl rfl (fun w=>(za w).trans (by rw[hb31]))) λa A=>?_;refine zm (by kernel_rfl) (jv (us:=[.int .u8 0,.string (bsL [48]),.string (bsL [])]) A V 5 rfl rfl rfl (ql rfl rfl rfl (by kernel_rfl) V 3 rfl rfl rfl) 3 rfl rfl rfl rfl ?_);intro w32 V;refine⟨(V.partD (cC (cC (cN (cN .slnil)))) 0 rfl (.refl _)),?_⟩;refine zm (by kernel_rfl) (jv (us:=[.int .u8 (((sgB l:Nat):Int)),.string (bsL (tpD r l)),.string (bsL (boD r l))]) A V 6 rfl rfl rfl (ql rfl rfl rfl (by kernel_rfl) V 2 rfl rfl rfl) 2 rfl rfl rfl rfl ?_);intro w33 V;refine⟨(V.partD (cC (cC (cN (cN .slnil)))) 0 rfl (.refl _)),?_⟩;refine atk A 7 rfl hP (V.partD (cC (cC (cN (cN .slnil)))) 0 rfl (.refl _)) (λ_ V=>zk rfl) λa A=>?_;refine zx (by kernel_rfl) ?_;refine hK30 _ _ (wp_ret (hret _ _ (en3 A rfl (zq V RxD_isS_121 rfl 3 rfl (cs:=[.int .u8 0,.string (bsL [48]),.string (bsL [])]) rfl rfl) (zq V RxD_isS_121 rfl 2 rfl (cs:=[.int .u8 (((sgB l:Nat):Int)),.string (bsL (tpD r l)),.string (bsL (boD r l))]) rfl rfl) (qj rfl) ?_)));rw[qvb]at hb31;have e1:reP r l=nl0:=(by unfold reP; rw[if_neg hb18',hb27]; rfl);have e2:imP r l=nlD r l:=(by unfold imP; rw[if_neg hb18',hb27]; rfl);have e3:okP r l=true:=(by unfold okP; simp[hb18',hb27,hb31]);rw[e1,e2,e3];exact⟨rfl,V.bel⟩
   ·have hb31':=bne_eq_false_iff_eq.1 hb31;refine atk (v:=bV false) A 4 rfl hP (V.partD (cC (cC (cN (cN .slnil)))) 0 rfl (.refl _)) (λ_ V=>qb rfl rfl (fun w=>(za w).trans (by rw[hb31]))) λa A=>?_;refine zm (by kernel_rfl) (jv (us:=[.int .u8 0,.string (bsL [48]),.string (bsL [])]) A V 5 rfl rfl rfl (ql rfl rfl rfl (by kernel_rfl) V 3 rfl rfl rfl) 3 rfl rfl rfl rfl ?_);intro w34 V;refine⟨(V.partD (cC (cC (cN (cN .slnil)))) 0 rfl (.refl _)),?_⟩;refine zm (by kernel_rfl) (jv (us:=[.int .u8 (((sgB l:Nat):Int)),.string (bsL (tpD r l)),.string (bsL (boD r l))]) A V 6 rfl rfl rfl (ql rfl rfl rfl (by kernel_rfl) V 2 rfl rfl rfl) 2 rfl rfl rfl rfl ?_);intro w35 V;refine⟨(V.partD (cC (cC (cN (cN .slnil)))) 0 rfl (.refl _)),?_⟩;refine atk A 7 rfl hP (V.partD (cC (cC (cN (cN .slnil)))) 0 rfl (.refl _)) (λ_ V=>zk rfl) λa A=>?_;refine zx (by kernel_rfl) ?_;refine hK30 _ _ (wp_ret (hret _ _ (en3 A rfl (zq V RxD_isS_121 rfl 3 rfl (cs:=[.int .u8 0,.string (bsL [48]),.string (bsL [])]) rfl rfl) (zq V RxD_isS_121 rfl 2 rfl (cs:=[.int .u8 (((sgB l:Nat):Int)),.string (bsL (tpD r l)),.string (bsL (boD r l))]) rfl rfl) (qj rfl) ?_)));rw[qvb]at hb31;have e1:reP r l=nl0:=(by unfold reP; rw[if_neg hb18',hb27]; rfl);have e2:imP r l=nlD r l:=(by unfold imP; rw[if_neg hb18',hb27]; rfl);have e3:okP r l=false:=(by unfold okP; simp[hb18',hb27,hb31]);rw[e1,e2,e3];exact⟨rfl,V.bel⟩
  ·refine sct A (ef rfl rfl) (qej hb27) ?_;rintro _ w37 ⟨rfl,hb36⟩;replace V:=V.call hb36;refine⟨_,rfl,?_⟩;intro a A;refine qa (hK26 _ _ (cf A ?_));refine wp_skip (hK25 _ _ (wsk fun K38 hK38=>wrl ?_));iterate 2 refine sdm A λa A=>?_
   refine sct A (ef rfl rfl) (qgj (l:=reD r l) hr (by first | omega | (have h9:=zcj r l; omega))) ?_;rintro _ w40 ⟨rfl,hb39⟩;replace V:=V.call hb39;refine⟨_,rfl,?_⟩;intro a A;refine sdm A λa A=>?_;iterate 2 refine sdo A (qi (vs:=[.agg #[.int .u8 (((sgB (reD r l):Nat):Int)),.string (bsL (tpD r (reD r l))),.string (bsL (boD r (reD r l)))],.string (bsL (reD r (reD r l)))]) rfl rfl) λa A=>?_
   refine qy (vs:=[.int .u8 0,.string (bsL []),.string (bsL [])]) (t:=121) A V rfl rfl rfl pg (qk (z:=.agg #[.int .u8 0,.string (bsL []),.string (bsL [])]) (by kernel_rfl) rfl) rfl ?_;intro g41 w42 V a A;refine zf (us:=[.int .u8 (((sgB (reD r l):Nat):Int)),.string (bsL (tpD r (reD r l))),.string (bsL (boD r (reD r l)))]) A V rfl rfl (ql rfl rfl rfl (by kernel_rfl) V 0 rfl rfl rfl) 0 rfl rfl rfl rfl ?_;intro w43 V;refine sda A λa A=>?_;refine qa (hK38 _ _ (wsk fun K44 hK44=>jt (S:=fun w1=>St w w1 [(g41,[.int .u8 (((sgB (reD r l):Nat):Int)),.string (bsL (tpD r (reD r l))),.string (bsL (boD r (reD r l)))]),(g13,[.int .u8 (((sgB l:Nat):Int)),.string (bsL (tpD r l)),.string (bsL (boD r l))]),(g7,[.int .u8 0,.string (bsL [48]),.string (bsL [])])] [] []) (by kernel_rfl) ?_));replace V:=V.drew;refine atk A 0 rfl hP (V.partD (cC (cC (cC (cN (cN .slnil))))) 0 rfl (.refl _)) (λ_ V=>qr V RxD_isS_121 rfl 1 rfl (cs:=[.int .u8 (((sgB l:Nat):Int)),.string (bsL (tpD r l)),.string (bsL (boD r l))]) rfl rfl) λa A=>?_;refine atk A 1 rfl hP (V.partD (cC (cC (cC (cN (cN .slnil))))) 0 rfl (.refl _)) (λ_ V=>qr V RxD_isS_121 rfl 0 rfl (cs:=[.int .u8 (((sgB (reD r l):Nat):Int)),.string (bsL (tpD r (reD r l))),.string (bsL (boD r (reD r l)))]) rfl rfl) λa A=>?_;refine atk (v:=pA g13 1) A 2 rfl hP (V.partD (cC (cC (cC (cN (cN .slnil))))) 0 rfl (.refl _)) (λ_ V=>qe RxD_fld_121_1 rfl rfl) λa A=>?_;refine atk A 3 rfl hP (V.partD (cC (cC (cC (cN (cN .slnil))))) 0 rfl (.refl _)) (λ_ V=>qh V RxD_is1_9 rfl 1 rfl rfl) λa A=>?_;rcases tf (decide (tpD r l=([]:List UInt8)))with hb45 | hb45
   ·have hb45':=of_decide_eq_true hb45;have hb45n:(tpD r l).length=0:=(by rw[hb45']; rfl);refine atk (v:=bV false) A 4 rfl hP (V.partD (cC (cC (cC (cN (cN .slnil))))) 0 rfl (.refl _)) (λ_ V=>qb rfl rfl (fun w=>(qdg (a:=tpD r l) (b:=[]) Tryz.underlying9 w).trans (by rw[hb45]; try rfl))) λa A=>?_;refine atk A 5 rfl hP (V.partD (cC (cC (cC (cN (cN .slnil))))) 0 rfl (.refl _)) (λ_ V=>qx rfl) λa A=>?_;refine qka A 6 rfl rfl rfl rfl hP (V.partD (cC (cC (cC (cN (cN .slnil))))) 0 rfl (.refl _)) λa A=>?_;refine qka A 7 rfl rfl rfl rfl hP (V.partD (cC (cC (cC (cN (cN .slnil))))) 0 rfl (.refl _)) λa A=>?_;refine qka A 8 rfl rfl rfl rfl hP (V.partD (cC (cC (cC (cN (cN .slnil))))) 0 rfl (.refl _)) λa A=>?_;refine atk (v:=bV false) A 9 rfl hP (V.partD (cC (cC (cC (cN (cN .slnil))))) 0 rfl (.refl _)) (λ_ V=>jl rfl rfl rfl rfl) λa A=>?_;refine atk A 10 rfl hP (V.partD (cC (cC (cC (cN (cN .slnil))))) 0 rfl (.refl _)) (λ_ V=>qx rfl) λa A=>?_;refine qka A 11 rfl rfl rfl rfl hP (V.partD (cC (cC (cC (cN (cN .slnil))))) 0 rfl (.refl _)) λa A=>?_;refine qka A 12 rfl rfl rfl rfl hP (V.partD (cC (cC (cC (cN (cN .slnil))))) 0 rfl (.refl _)) λa A=>?_;refine atk (v:=bV false) A 13 rfl hP (V.partD (cC (cC (cC (cN (cN .slnil))))) 0 rfl (.refl _)) (λ_ V=>jl rfl rfl rfl rfl) λa A=>?_;refine zm (by kernel_rfl) (jv (us:=[.int .u8 (((sgB l:Nat):Int)),.string (bsL (tpD r l)),.string (bsL (boD r l))]) A V 14 rfl rfl rfl (ql rfl rfl rfl (by kernel_rfl) V 4 rfl rfl rfl) 4 rfl rfl rfl rfl ?_);intro w46 V;refine⟨(V.partD (cC (cC (cC (cN (cN .slnil))))) 0 rfl (.refl _)),?_⟩;refine zm (by kernel_rfl) (jv (us:=[.int .u8 (((sgB (reD r l):Nat):Int)),.string (bsL (tpD r (reD r l))),.string (bsL (boD r (reD r l)))]) A V 15 rfl rfl rfl (ql rfl rfl rfl (by kernel_rfl) V 3 rfl rfl rfl) 3 rfl rfl rfl rfl ?_);intro w47 V;refine⟨(V.partD (cC (cC (cC (cN (cN .slnil))))) 0 rfl (.refl _)),?_⟩;refine atk A 16 rfl hP (V.partD (cC (cC (cC (cN (cN .slnil))))) 0 rfl (.refl _)) (λ_ V=>zk rfl) λa A=>?_
    refine zx (by kernel_rfl) ?_;refine hK44 _ _ (wp_ret (hret _ _ (en3 A rfl (zq V RxD_isS_121 rfl 4 rfl (cs:=[.int .u8 (((sgB l:Nat):Int)),.string (bsL (tpD r l)),.string (bsL (boD r l))]) rfl rfl) (zq V RxD_isS_121 rfl 3 rfl (cs:=[.int .u8 (((sgB (reD r l):Nat):Int)),.string (bsL (tpD r (reD r l))),.string (bsL (boD r (reD r l)))]) rfl rfl) (qj rfl) ?_)));have e1:reP r l=nlD r l:=(by unfold reP; rw[if_neg hb18',hb27]; rfl);have e2:imP r l=nlD r (reD r l):=(by unfold imP; rw[if_neg hb18',hb27]; rfl);have e3:okP r l=false:=(by unfold okP; simp[hb18',hb27,hb45']);rw[e1,e2,e3];exact⟨rfl,V.bel⟩
   ·have hb45':=of_decide_eq_false hb45;have hb45n:¬(tpD r l).length=0:=fun k=>hb45' (List.length_eq_zero_iff.1 k);refine atk (v:=bV true) A 4 rfl hP (V.partD (cC (cC (cC (cN (cN .slnil))))) 0 rfl (.refl _)) (λ_ V=>qb rfl rfl (fun w=>(qdg (a:=tpD r l) (b:=[]) Tryz.underlying9 w).trans (by rw[hb45]; try rfl))) λa A=>?_;refine atk A 5 rfl hP (V.partD (cC (cC (cC (cN (cN .slnil))))) 0 rfl (.refl _)) (λ_ V=>qx rfl) λa A=>?_;refine atk (v:=pA g41 0) A 6 rfl hP (V.partD (cC (cC (cC (cN (cN .slnil))))) 0 rfl (.refl _)) (λ_ V=>qe RxD_fld_121_0 rfl rfl) λa A=>?_;refine atk A 7 rfl hP (V.partD (cC (cC (cC (cN (cN .slnil))))) 0 rfl (.refl _)) (λ_ V=>qh V RxD_is1_5 rfl 0 rfl rfl) λa A=>?_;rcases tf ((((sgB (reD r l):Nat):Int) != 0))with hb48 | hb48
    ·have hb48':=bne_iff_ne.1 hb48;refine atk (v:=bV true) A 8 rfl hP (V.partD (cC (cC (cC (cN (cN .slnil))))) 0 rfl (.refl _)) (λ_ V=>qb rfl rfl (fun w=>(za w).trans (by rw[hb48]))) λa A=>?_;refine atk (v:=bV true) A 9 rfl hP (V.partD (cC (cC (cC (cN (cN .slnil))))) 0 rfl (.refl _)) (λ_ V=>jl rfl rfl rfl rfl) λa A=>?_;refine atk A 10 rfl hP (V.partD (cC (cC (cC (cN (cN .slnil))))) 0 rfl (.refl _)) (λ_ V=>qx rfl) λa A=>?_;refine atk A 11 rfl hP (V.partD (cC (cC (cC (cN (cN .slnil))))) 0 rfl (.refl _)) (λ_ V=>qx rfl) λa A=>?_;rcases tf (qfg (reD r (reD r l)))with hb49 | hb49
     ·refine zm (by kernel_rfl) (xk A 12 rfl rfl rfl rfl (jk  rfl rfl (fun w=>by kernel_rfl)) (qej hb49) ?_);rintro _ w51 ⟨rfl,hb50⟩;replace V:=V.call hb50;refine⟨_,rfl,(V.partD (cC (cC (cC (cN (cN .slnil))))) 0 rfl (.refl _)),?_⟩;intro a A;refine atk (v:=bV true) A 13 rfl hP (V.partD (cC (cC (cC (cN (cN .slnil))))) 0 rfl (.refl _)) (λ_ V=>jl rfl rfl rfl rfl) λa A=>?_;refine zm (by kernel_rfl) (jv (us:=[.int .u8 (((sgB l:Nat):Int)),.string (bsL (tpD r l)),.string (bsL (boD r l))]) A V 14 rfl rfl rfl (ql rfl rfl rfl (by kernel_rfl) V 4 rfl rfl rfl) 4 rfl rfl rfl rfl ?_);intro w52 V;refine⟨(V.partD (cC (cC (cC (cN (cN .slnil))))) 0 rfl (.refl _)),?_⟩;refine zm (by kernel_rfl) (jv (us:=[.int .u8 (((sgB (reD r l):Nat):Int)),.string (bsL (tpD r (reD r l))),.string (bsL (boD r (reD r l)))]) A V 15 rfl rfl rfl (ql rfl rfl rfl (by kernel_rfl) V 3 rfl rfl rfl) 3 rfl rfl rfl rfl ?_);intro w53 V;refine⟨(V.partD (cC (cC (cC (cN (cN .slnil))))) 0 rfl (.refl _)),?_⟩;refine atk A 16 rfl hP (V.partD (cC (cC (cC (cN (cN .slnil))))) 0 rfl (.refl _)) (λ_ V=>zk rfl) λa A=>?_;refine zx (by kernel_rfl) ?_;refine hK44 _ _ (wp_ret (hret _ _ (en3 A rfl (zq V RxD_isS_121 rfl 4 rfl (cs:=[.int .u8 (((sgB l:Nat):Int)),.string (bsL (tpD r l)),.string (bsL (boD r l))]) rfl rfl) (zq V RxD_isS_121 rfl 3 rfl (cs:=[.int .u8 (((sgB (reD r l):Nat):Int)),.string (bsL (tpD r (reD r l))),.string (bsL (boD r (reD r l)))]) rfl rfl) (qj rfl) ?_)));rw[qvb]at hb48;have e1:reP r l=nlD r l:=(by unfold reP; rw[if_neg hb18',hb27]; rfl);have e2:imP r l=nlD r (reD r l):=(by unfold imP; rw[if_neg hb18',hb27]; rfl);have e3:okP r l=true:=(by unfold okP; simp[hb18',hb27,hb45',hb48,hb49]);rw[e1,e2,e3];exact⟨rfl,V.bel⟩
     ·refine zm (by kernel_rfl) (xk A 12 rfl rfl rfl rfl (jk  rfl rfl (fun w=>by kernel_rfl)) (qej hb49) ?_);rintro _ w55 ⟨rfl,hb54⟩;replace V:=V.call hb54;refine⟨_,rfl,(V.partD (cC (cC (cC (cN (cN .slnil))))) 0 rfl (.refl _)),?_⟩;intro a A;refine atk (v:=bV false) A 13 rfl hP (V.partD (cC (cC (cC (cN (cN .slnil))))) 0 rfl (.refl _)) (λ_ V=>jl rfl rfl rfl rfl) λa A=>?_;refine zm (by kernel_rfl) (jv (us:=[.int .u8 (((sgB l:Nat):Int)),.string (bsL (tpD r l)),.string (bsL (boD r l))]) A V 14 rfl rfl rfl (ql rfl rfl rfl (by kernel_rfl) V 4 rfl rfl rfl) 4 rfl rfl rfl rfl ?_);intro w56 V;refine⟨(V.partD (cC (cC (cC (cN (cN .slnil))))) 0 rfl (.refl _)),?_⟩;refine zm (by kernel_rfl) (jv (us:=[.int .u8 (((sgB (reD r l):Nat):Int)),.string (bsL (tpD r (reD r l))),.string (bsL (boD r (reD r l)))]) A V 15 rfl rfl rfl (ql rfl rfl rfl (by kernel_rfl) V 3 rfl rfl rfl) 3 rfl rfl rfl rfl ?_);intro w57 V;refine⟨(V.partD (cC (cC (cC (cN (cN .slnil))))) 0 rfl (.refl _)),?_⟩;refine atk A 16 rfl hP (V.partD (cC (cC (cC (cN (cN .slnil))))) 0 rfl (.refl _)) (λ_ V=>zk rfl) λa A=>?_;refine zx (by kernel_rfl) ?_;refine hK44 _ _ (wp_ret (hret _ _ (en3 A rfl (zq V RxD_isS_121 rfl 4 rfl (cs:=[.int .u8 (((sgB l:Nat):Int)),.string (bsL (tpD r l)),.string (bsL (boD r l))]) rfl rfl) (zq V RxD_isS_121 rfl 3 rfl (cs:=[.int .u8 (((sgB (reD r l):Nat):Int)),.string (bsL (tpD r (reD r l))),.string (bsL (boD r (reD r l)))]) rfl rfl) (qj rfl) ?_)));rw[qvb]at hb48;have e1:reP r l=nlD r l:=(by unfold reP; rw[if_neg hb18',hb27]; rfl);have e2:imP r l=nlD r (reD r l):=(by unfold imP; rw[if_neg hb18',hb27]; rfl);have e3:okP r l=false:=(by unfold okP; simp[hb18',hb27,hb45',hb48,hb49]);rw[e1,e2,e3];exact⟨rfl,V.bel⟩
    ·have hb48':=bne_eq_false_iff_eq.1 hb48;refine atk (v:=bV false) A 8 rfl hP (V.partD (cC (cC (cC (cN (cN .slnil))))) 0 rfl (.refl _)) (λ_ V=>qb rfl rfl (fun w=>(za w).trans (by rw[hb48]))) λa A=>?_;refine atk (v:=bV false) A 9 rfl hP (V.partD (cC (cC (cC (cN (cN .slnil))))) 0 rfl (.refl _)) (λ_ V=>jl rfl rfl rfl rfl) λa A=>?_;refine atk A 10 rfl hP (V.partD (cC (cC (cC (cN (cN .slnil))))) 0 rfl (.refl _)) (λ_ V=>qx rfl) λa A=>?_;refine qka A 11 rfl rfl rfl rfl hP (V.partD (cC (cC (cC (cN (cN .slnil))))) 0 rfl (.refl _)) λa A=>?_;refine qka A 12 rfl rfl rfl rfl hP (V.partD (cC (cC (cC (cN (cN .slnil))))) 0 rfl (.refl _)) λa A=>?_;refine atk (v:=bV false) A 13 rfl hP (V.partD (cC (cC (cC (cN (cN .slnil))))) 0 rfl (.refl _)) (λ_ V=>jl rfl rfl rfl rfl) λa A=>?_;refine zm (by kernel_rfl) (jv (us:=[.int .u8 (((sgB l:Nat):Int)),.string (bsL (tpD r l)),.string (bsL (boD r l))]) A V 14 rfl rfl rfl (ql rfl rfl rfl (by kernel_rfl) V 4 rfl rfl rfl) 4 rfl rfl rfl rfl ?_);intro w58 V;refine⟨(V.partD (cC (cC (cC (cN (cN .slnil))))) 0 rfl (.refl _)),?_⟩;refine zm (by kernel_rfl) (jv (us:=[.int .u8 (((sgB (reD r l):Nat):Int)),.string (bsL (tpD r (reD r l))),.string (bsL (boD r (reD r l)))]) A V 15 rfl rfl rfl (ql rfl rfl rfl (by kernel_rfl) V 3 rfl rfl rfl) 3 rfl rfl rfl rfl ?_);intro w59 V;refine⟨(V.partD (cC (cC (cC (cN (cN .slnil))))) 0 rfl (.refl _)),?_⟩;refine atk A 16 rfl hP (V.partD (cC (cC (cC (cN (cN .slnil))))) 0 rfl (.refl _)) (λ_ V=>zk rfl) λa A=>?_;refine zx (by kernel_rfl) ?_;refine hK44 _ _ (wp_ret (hret _ _ (en3 A rfl (zq V RxD_isS_121 rfl 4 rfl (cs:=[.int .u8 (((sgB l:Nat):Int)),.string (bsL (tpD r l)),.string (bsL (boD r l))]) rfl rfl) (zq V RxD_isS_121 rfl 3 rfl (cs:=[.int .u8 (((sgB (reD r l):Nat):Int)),.string (bsL (tpD r (reD r l))),.string (bsL (boD r (reD r l)))]) rfl rfl) (qj rfl) ?_)));rw[qvb]at hb48;have e1:reP r l=nlD r l:=by unfold reP; rw[if_neg hb18',hb27]; rfl
     have e2:imP r l=nlD r (reD r l):=(by unfold imP; rw[if_neg hb18',hb27]; rfl);have e3:okP r l=false:=(by unfold okP; simp[hb18',hb27,hb45',hb48]);rw[e1,e2,e3];exact⟨rfl,V.bel⟩
theorem kj{w:World}{r:Nat}{l:List UInt8}(hr:RadN r)(hl:l.length≤9223372036854775807):Calls Tryz.prog 141 #[.string (bsL l),iV ((r:Nat):Int)] w (Ans w (rdN r l)):=by
 have V:St w w [] [] []:=St.start w;refine qn (l:=[(0,.string (bsL l)),(1,iV (((r:Nat):Int)))]) Tryz.func141 rfl Tryz.ntmps141 rfl rfl ?_;intro Q hret hnorm hP a A;refine wsk fun K1 hK1=>wrl ?_;iterate 2 refine sda A λa A=>?_
 refine qa (hK1 _ _ (wsk fun K2 hK2=>wsk fun K3 hK3=>wrl (mv A rfl rfl rfl λa A=>?_)));rcases tf (decide (l=([]:List UInt8)))with hb4 | hb4
 ·have hb4':=of_decide_eq_true hb4;have hb4n:(l).length=0:=by rw[hb4']; rfl
  refine sdo (v:=bV true) A (qb rfl rfl (fun w=>(vg (a:=l) (b:=[]) Tryz.underlying9 w).trans (by rw[hb4]; try rfl))) λa A=>?_;refine qa (hK3 _ _ (ct A ?_));refine wsk fun K5 hK5=>wrl (sct A (ef rfl rfl) (juc _) ?_);rintro _ w10 ⟨ro6,rc7,rfl,ho8,hb9⟩;replace V:=V.call hb9;replace V:=V.addR ho8.rd;refine⟨_,rfl,?_⟩;intro a A;iterate 2 refine sda A λa A=>?_
  refine qa (hK5 _ _ (wp_ret (hret _ _ (en2 A rfl (qj rfl) (qj rfl) ?_))));rw[show rdN r l=([1],0)from by unfold rdN; rw[if_pos hb4']];exact⟨_,_,rfl,ho8,V.bel⟩
 ·have hb4':=of_decide_eq_false hb4;have hb4n:¬(l).length=0:=fun k=>hb4' (List.length_eq_zero_iff.1 k);refine sdo (v:=bV false) A (qb rfl rfl (fun w=>(vg (a:=l) (b:=[]) Tryz.underlying9 w).trans (by rw[hb4]; try rfl))) λa A=>?_;refine qa (hK3 _ _ (cf A ?_));refine wp_skip (hK2 _ _ (wsk fun K11 hK11=>wrl ?_));iterate 2 refine sdm A λa A=>?_
  refine sct A (ef rfl rfl) (read_any (bsL l) ((r:Nat):Int) _ (by rw[uq]; exact hl) (by omega) (by rcases hr with h | h | h | h<;>subst h<;>decide)) ?_;rintro _ w16 ⟨ro12,rc13,rfl,ho14,hb15⟩;replace V:=V.call hb15;replace V:=V.addR ho14.rd;refine⟨_,rfl,?_⟩;intro a A;iterate 2 refine sdo A (qi (vs:=[.slice ro12 (((readS (bsL l) (r:Int)).1).length) rc13,iV ((readS (bsL l) (r:Int)).2)]) rfl rfl) λa A=>?_
  iterate 2 refine sda A λa A=>?_
  refine qa (hK11 _ _ (wp_ret (hret _ _ (en2 A rfl (qj rfl) (qj rfl) ?_))));rw[show rdN r l=readS (bsL l) (r:Int)from by unfold rdN; rw[if_neg hb4']];exact⟨_,_,rfl,ho14,V.bel⟩
theorem qdh{w:World}{r:Nat}{n:Nl}(hr:RadN r)(hl1:n.2.1.length≤9223372036854775807)(hl2:n.2.2.length≤9223372036854775807)(h1:rdE r n.2.1=0)(h2:rdE r n.2.2=0):Calls Tryz.prog 121 #[.agg #[.int .u8 (((n.1:Nat):Int)),.string (bsL n.2.1),.string (bsL n.2.2)],iV ((r:Nat):Int)] w fun e w'=>∃o c o' c',e=.returned (.tuple #[.agg #[bV (rb (sgn (decide (n.1=45)) (zj r n.2.1))),.slice o (words (sgn (decide (n.1=45)) (zj r n.2.1)).natAbs).length c],.slice o' (words (zj r n.2.2)).length c',iV 0])∧Sc w' o c (words (sgn (decide (n.1=45)) (zj r n.2.1)).natAbs)∧Sc w' o' c' (words (zj r n.2.2))∧Below w.heap.size w w':=by
 have V:St w w [] [] []:=St.start w;refine qn (l:=[(0,.agg #[.int .u8 (((n.1:Nat):Int)),.string (bsL n.2.1),.string (bsL n.2.2)]),(1,iV (((r:Nat):Int)))]) Tryz.func121 rfl Tryz.ntmps121 rfl rfl ?_;intro Q hret hnorm hP a A;refine wsk fun K1 hK1=>wrl (qy A V rfl rfl rfl pg (zd rfl rfl) rfl ?_);intro g2 w3 V a A;refine qy (vs:=[bV false,.slice none 0 0]) (t:=146) A V rfl rfl rfl pg (qk (z:=.agg #[bV false,.slice none 0 0]) (by kernel_rfl) rfl) rfl ?_;intro g4 w5 V a A;iterate 2 refine sda A λa A=>?_
 refine qa (hK1 _ _ (wsk fun K6 hK6=>wrl (sdo (v:=pA g2 1) A (qe RxD_fld_121_1 rfl rfl) λa A=>?_)));refine sdo A (qh V RxD_is1_9 rfl 1 rfl rfl) λa A=>?_;refine sdm A λa A=>?_;refine sct A (ef rfl rfl) ((by have h:=kj (w:=w5) (r:=r) (l:=n.2.1) hr hl1; rw[(yj h1).1]at h; exact h)) ?_;rintro _ w11 ⟨ro7,rc8,rfl,ho9,hb10⟩;replace V:=V.call hb10;replace V:=V.addR ho9.rd;refine⟨_,rfl,?_⟩;intro a A;refine sdm A λa A=>?_;iterate 2 refine sdo A (qi (vs:=[.slice ro7 ((words (zj r n.2.1)).length) rc8,iV 0]) rfl rfl) λa A=>?_
 iterate 2 refine sda A λa A=>?_
 refine qa (hK6 _ _ (wsk fun K12 hK12=>wsk fun K13 hK13=>wrl (mv A rfl rfl rfl λa A=>?_)));refine sdo (v:=bV false) A dbK λa A=>?_;refine qa (hK13 _ _ (cf A ?_));refine wp_skip (hK12 _ _ (wsk fun K14 hK14=>wrl (sdo (v:=pA g2 2) A (qe RxD_fld_121_2 rfl rfl) λa A=>?_)));refine sdo A (qh V RxD_is1_9 rfl 1 rfl rfl) λa A=>?_;refine sdm A λa A=>?_;refine sct A (ef rfl rfl) ((by have h:=kj (w:=w11) (r:=r) (l:=n.2.2) hr hl2; rw[(yj h2).1]at h; exact h)) ?_;rintro _ w19 ⟨ro15,rc16,rfl,ho17,hb18⟩;replace V:=V.call hb18;replace V:=V.addR ho17.rd;refine⟨_,rfl,?_⟩;intro a A;refine sdm A λa A=>?_;iterate 2 refine sdo A (qi (vs:=[.slice ro15 ((words (zj r n.2.2)).length) rc16,iV 0]) rfl rfl) λa A=>?_
 iterate 2 refine sda A λa A=>?_
 refine qa (hK14 _ _ (wsk fun K20 hK20=>wsk fun K21 hK21=>wrl (mv A rfl rfl rfl λa A=>?_)));refine sdo (v:=bV false) A dbK λa A=>?_;refine qa (hK21 _ _ (cf A ?_));refine wp_skip (hK20 _ _ (wsk fun K22 hK22=>wrl (sdo (v:=pA g2 0) A (qe RxD_fld_121_0 rfl rfl) λa A=>?_)));refine sdo A (qh V RxD_is1_5 rfl 1 rfl rfl) λa A=>?_;refine sdo (v:=bV ((((n.1:Nat):Int)==45))) A (qb rfl rfl qg) λa A=>?_;refine sdm A λa A=>?_;refine sct A (ef rfl rfl) (zhj (b:=(((n.1:Nat):Int)==45)) (n:=zj r n.2.1) (z:=sgn (decide (n.1=45)) (zj r n.2.1)) ⟨(V.rd 1 rfl),ho9.nocap,ho9.caps⟩ (by rw[xbd])) ?_;rintro _ w27 ⟨zo23,zc24,rfl,hs25,hb26⟩;replace V:=V.call hb26;replace V:=V.addR hs25.rd;refine⟨_,rfl,?_⟩;intro a A;refine sdm A λa A=>?_;refine zf (us:=[bV ((rb (sgn (decide (n.1=45)) (zj r n.2.1)))),.slice zo23 ((words (sgn (decide (n.1=45)) (zj r n.2.1)).natAbs).length) zc24]) A V rfl rfl (ql rfl rfl rfl (by kernel_rfl) V 0 rfl rfl rfl) 0 rfl rfl rfl rfl ?_;intro w28 V;iterate 2 refine sda A λa A=>?_
 refine qa (hK22 _ _ (wp_ret (hret _ _ (en3 A rfl (zq V RxD_isS_146 rfl 0 rfl (cs:=[bV ((rb (sgn (decide (n.1=45)) (zj r n.2.1)))),.slice zo23 ((words (sgn (decide (n.1=45)) (zj r n.2.1)).natAbs).length) zc24]) rfl rfl) (qj rfl) (qj rfl) ?_))));exact⟨_,_,_,_,rfl,⟨(V.rd 0 rfl),hs25.nil,hs25.cap⟩,⟨(V.rd 1 rfl),ho17.nocap,ho17.caps⟩,V.bel⟩
theorem zpi{w:World}{r:Nat}{n:Nl}(hr:RadN r)(hl1:n.2.1.length≤9223372036854775807)(hl2:n.2.2.length≤9223372036854775807)(h1:rdE r n.2.1≠0):Calls Tryz.prog 121 #[.agg #[.int .u8 (((n.1:Nat):Int)),.string (bsL n.2.1),.string (bsL n.2.2)],iV ((r:Nat):Int)] w fun e w'=>e=.returned (.tuple #[.agg #[bV false,.slice none 0 0],.slice none 0 0,iV (rdE r n.2.1)])∧Below w.heap.size w w':=by
 have V:St w w [] [] []:=St.start w;refine qn (l:=[(0,.agg #[.int .u8 (((n.1:Nat):Int)),.string (bsL n.2.1),.string (bsL n.2.2)]),(1,iV (((r:Nat):Int)))]) Tryz.func121 rfl Tryz.ntmps121 rfl rfl ?_;intro Q hret hnorm hP a A;refine wsk fun K1 hK1=>wrl (qy A V rfl rfl rfl pg (zd rfl rfl) rfl ?_);intro g2 w3 V a A;refine qy (vs:=[bV false,.slice none 0 0]) (t:=146) A V rfl rfl rfl pg (qk (z:=.agg #[bV false,.slice none 0 0]) (by kernel_rfl) rfl) rfl ?_;intro g4 w5 V a A;iterate 2 refine sda A λa A=>?_
 refine qa (hK1 _ _ (wsk fun K6 hK6=>wrl (sdo (v:=pA g2 1) A (qe RxD_fld_121_1 rfl rfl) λa A=>?_)));refine sdo A (qh V RxD_is1_9 rfl 1 rfl rfl) λa A=>?_;refine sdm A λa A=>?_;refine sct A (ef rfl rfl) ((by have h:=kj (w:=w5) (r:=r) (l:=n.2.1) hr hl1; rw[zuj h1]at h; exact h)) ?_;rintro _ w11 ⟨ro7,rc8,rfl,ho9,hb10⟩;replace V:=V.call hb10;replace V:=V.addR ho9.rd;refine⟨_,rfl,?_⟩;intro a A;refine sdm A λa A=>?_;iterate 2 refine sdo A (qi (vs:=[.slice ro7 0 rc8,iV ((rdE r n.2.1))]) rfl rfl) λa A=>?_
 iterate 2 refine sda A λa A=>?_
 refine qa (hK6 _ _ (wsk fun K12 hK12=>wsk fun K13 hK13=>wrl (mv A rfl rfl rfl λa A=>?_)));refine sdo (v:=bV true) A (qb rfl rfl (fun w=>(za w).trans (by rw[show(((rdE r n.2.1) != 0))=true from(bne_iff_ne.2 h1)]))) λa A=>?_;refine qa (hK13 _ _ (ct A ?_));refine wsk fun K14 hK14=>wrl (sdo (v:=.agg #[bV false,.slice none 0 0]) A (qs rfl (fun w=>by kernel_rfl)) λa A=>?_);refine sdm A λa A=>?_;refine zf (us:=[bV false,.slice none 0 0]) A V rfl rfl (ql rfl rfl rfl (by kernel_rfl) V 0 rfl rfl rfl) 0 rfl rfl rfl rfl ?_;intro w15 V;iterate 2 refine sda A λa A=>?_
 refine qa (hK14 _ _ (wp_ret (hret _ _ (en3 A rfl (zq V RxD_isS_146 rfl 0 rfl (cs:=[bV false,.slice none 0 0]) rfl rfl) (qj rfl) (qj rfl) ?_))));exact⟨rfl,V.bel⟩
theorem zpj{w:World}{r:Nat}{n:Nl}(hr:RadN r)(hl1:n.2.1.length≤9223372036854775807)(hl2:n.2.2.length≤9223372036854775807)(h1:rdE r n.2.1=0)(h2:rdE r n.2.2≠0):Calls Tryz.prog 121 #[.agg #[.int .u8 (((n.1:Nat):Int)),.string (bsL n.2.1),.string (bsL n.2.2)],iV ((r:Nat):Int)] w fun e w'=>e=.returned (.tuple #[.agg #[bV false,.slice none 0 0],.slice none 0 0,iV (rdE r n.2.2)])∧Below w.heap.size w w':=by
 have V:St w w [] [] []:=St.start w;refine qn (l:=[(0,.agg #[.int .u8 (((n.1:Nat):Int)),.string (bsL n.2.1),.string (bsL n.2.2)]),(1,iV (((r:Nat):Int)))]) Tryz.func121 rfl Tryz.ntmps121 rfl rfl ?_;intro Q hret hnorm hP a A;refine wsk fun K1 hK1=>wrl (qy A V rfl rfl rfl pg (zd rfl rfl) rfl ?_);intro g2 w3 V a A;refine qy (vs:=[bV false,.slice none 0 0]) (t:=146) A V rfl rfl rfl pg (qk (z:=.agg #[bV false,.slice none 0 0]) (by kernel_rfl) rfl) rfl ?_;intro g4 w5 V a A;iterate 2 refine sda A λa A=>?_
 refine qa (hK1 _ _ (wsk fun K6 hK6=>wrl (sdo (v:=pA g2 1) A (qe RxD_fld_121_1 rfl rfl) λa A=>?_)));refine sdo A (qh V RxD_is1_9 rfl 1 rfl rfl) λa A=>?_;refine sdm A λa A=>?_;refine sct A (ef rfl rfl) ((by have h:=kj (w:=w5) (r:=r) (l:=n.2.1) hr hl1; rw[(yj h1).1]at h; exact h)) ?_;rintro _ w11 ⟨ro7,rc8,rfl,ho9,hb10⟩;replace V:=V.call hb10;replace V:=V.addR ho9.rd;refine⟨_,rfl,?_⟩;intro a A;refine sdm A λa A=>?_;iterate 2 refine sdo A (qi (vs:=[.slice ro7 ((words (zj r n.2.1)).length) rc8,iV 0]) rfl rfl) λa A=>?_
 iterate 2 refine sda A λa A=>?_
 refine qa (hK6 _ _ (wsk fun K12 hK12=>wsk fun K13 hK13=>wrl (mv A rfl rfl rfl λa A=>?_)));refine sdo (v:=bV false) A dbK λa A=>?_;refine qa (hK13 _ _ (cf A ?_));refine wp_skip (hK12 _ _ (wsk fun K14 hK14=>wrl (sdo (v:=pA g2 2) A (qe RxD_fld_121_2 rfl rfl) λa A=>?_)));refine sdo A (qh V RxD_is1_9 rfl 1 rfl rfl) λa A=>?_;refine sdm A λa A=>?_;refine sct A (ef rfl rfl) ((by have h:=kj (w:=w11) (r:=r) (l:=n.2.2) hr hl2; rw[zuj h2]at h; exact h)) ?_;rintro _ w19 ⟨ro15,rc16,rfl,ho17,hb18⟩;replace V:=V.call hb18;replace V:=V.addR ho17.rd;refine⟨_,rfl,?_⟩;intro a A;refine sdm A λa A=>?_;iterate 2 refine sdo A (qi (vs:=[.slice ro15 0 rc16,iV ((rdE r n.2.2))]) rfl rfl) λa A=>?_
 iterate 2 refine sda A λa A=>?_
 refine qa (hK14 _ _ (wsk fun K20 hK20=>wsk fun K21 hK21=>wrl (mv A rfl rfl rfl λa A=>?_)));refine sdo (v:=bV true) A (qb rfl rfl (fun w=>(za w).trans (by rw[show(((rdE r n.2.2) != 0))=true from(bne_iff_ne.2 h2)]))) λa A=>?_;refine qa (hK21 _ _ (ct A ?_));refine wsk fun K22 hK22=>wrl (sdo (v:=.agg #[bV false,.slice none 0 0]) A (qs rfl (fun w=>by kernel_rfl)) λa A=>?_);refine sdm A λa A=>?_;refine zf (us:=[bV false,.slice none 0 0]) A V rfl rfl (ql rfl rfl rfl (by kernel_rfl) V 0 rfl rfl rfl) 0 rfl rfl rfl rfl ?_;intro w23 V;iterate 2 refine sda A λa A=>?_
 refine qa (hK22 _ _ (wp_ret (hret _ _ (en3 A rfl (zq V RxD_isS_146 rfl 0 rfl (cs:=[bV false,.slice none 0 0]) rfl rfl) (qj rfl) (qj rfl) ?_))));exact⟨rfl,V.bel⟩
theorem qij{w:World}{r:Nat}{n:Nl}(hr:RadN r)(hl1:n.2.1.length≤9223372036854775807)(hl2:n.2.2.length≤9223372036854775807)(h:vq r n≠0):Calls Tryz.prog 121 #[.agg #[.int .u8 (((n.1:Nat):Int)),.string (bsL n.2.1),.string (bsL n.2.2)],iV ((r:Nat):Int)] w fun e w'=>e=.returned (.tuple #[.agg #[bV false,.slice none 0 0],.slice none 0 0,iV (vq r n)])∧Below w.heap.size w w':=by
 unfold vq at h ⊢;by_cases h1:rdE r n.2.1=0
 ·rw[if_neg (by simpa using h1)]at h ⊢;exact zpj hr hl1 hl2 h1 h
 ·rw[if_pos h1];exact zpi hr hl1 hl2 h1
theorem RxE_isS_121: IsS Tryz.prog 121 3:=⟨⟨_,Tryz.underlying121⟩,by kernel_rfl⟩
theorem RxE_isS_146: IsS Tryz.prog 146 2:=⟨⟨_,Tryz.underlying146⟩,by kernel_rfl⟩
theorem RxE_isS_26: IsS Tryz.prog 26 6:=⟨⟨_,Tryz.underlying26⟩,by kernel_rfl⟩
theorem zqa{w:World}{r:Nat}{n m:Nl}(hr:RadN r)(hl1:n.2.1.length≤9223372036854775807)(hl2:n.2.2.length≤9223372036854775807)(hk1:m.2.1.length≤9223372036854775807)(hk2:m.2.2.length≤9223372036854775807)(h1:vq r n≠0)(h2:vq r m≠0):Calls Tryz.prog 94 #[.agg #[.int .u8 (((n.1:Nat):Int)),.string (bsL n.2.1),.string (bsL n.2.2)],.agg #[.int .u8 (((m.1:Nat):Int)),.string (bsL m.2.1),.string (bsL m.2.2)],iV ((r:Nat):Int)] w (AnsN w (vm r n m)):=by
 have V:St w w [] [] []:=St.start w;refine qn (l:=[(0,.agg #[.int .u8 (((n.1:Nat):Int)),.string (bsL n.2.1),.string (bsL n.2.2)]),(1,.agg #[.int .u8 (((m.1:Nat):Int)),.string (bsL m.2.1),.string (bsL m.2.2)]),(2,iV (((r:Nat):Int)))]) Tryz.func94 rfl Tryz.ntmps94 rfl rfl ?_;intro Q hret hnorm hP a A;refine wsk fun K1 hK1=>wrl (qy A V rfl rfl rfl pg (zd rfl rfl) rfl ?_);intro g2 w3 V a A;refine qy A V rfl rfl rfl pg (zd rfl rfl) rfl ?_;intro g4 w5 V a A;refine qy (vs:=[bV false,.slice none 0 0,.slice none 0 0,bV false,.slice none 0 0,.slice none 0 0]) (t:=26) A V rfl rfl rfl pg (qk (z:=.agg #[bV false,.slice none 0 0,.slice none 0 0,bV false,.slice none 0 0,.slice none 0 0]) (by kernel_rfl) rfl) rfl ?_;intro g6 w7 V a A;refine sda A λa A=>?_;refine qa (hK1 _ _ (wsk fun K8 hK8=>wrl (sdo A (qr V RxE_isS_121 rfl 2 rfl (cs:=[.int .u8 (((n.1:Nat):Int)),.string (bsL n.2.1),.string (bsL n.2.2)]) rfl rfl) λa A=>?_)));refine sdm A λa A=>?_;refine sct A (ef rfl rfl) (qij hr hl1 hl2 h1) ?_;rintro _ w10 ⟨rfl,hb9⟩;replace V:=V.call hb9;refine⟨_,rfl,?_⟩;intro a A;refine sdm A λa A=>?_;iterate 3 refine sdo A (qi (vs:=[.agg #[bV false,.slice none 0 0],.slice none 0 0,iV ((vq r n))]) rfl rfl) λa A=>?_
 refine qy (vs:=[bV false,.slice none 0 0]) (t:=146) A V rfl rfl rfl pg (qk (z:=.agg #[bV false,.slice none 0 0]) (by kernel_rfl) rfl) rfl ?_;intro g11 w12 V a A;refine zf (us:=[bV false,.slice none 0 0]) A V rfl rfl (ql rfl rfl rfl (by kernel_rfl) V 0 rfl rfl rfl) 0 rfl rfl rfl rfl ?_;intro w13 V;iterate 2 refine sda A λa A=>?_
 refine qa (hK8 _ _ (wsk fun K14 hK14=>wrl (sdo A (qr V RxE_isS_121 rfl 2 rfl (cs:=[.int .u8 (((m.1:Nat):Int)),.string (bsL m.2.1),.string (bsL m.2.2)]) rfl rfl) λa A=>?_)));refine sdm A λa A=>?_;refine sct A (ef rfl rfl) (qij hr hk1 hk2 h2) ?_;rintro _ w16 ⟨rfl,hb15⟩;replace V:=V.call hb15;refine⟨_,rfl,?_⟩;intro a A;refine sdm A λa A=>?_;iterate 3 refine sdo A (qi (vs:=[.agg #[bV false,.slice none 0 0],.slice none 0 0,iV ((vq r m))]) rfl rfl) λa A=>?_
 refine qy (vs:=[bV false,.slice none 0 0]) (t:=146) A V rfl rfl rfl pg (qk (z:=.agg #[bV false,.slice none 0 0]) (by kernel_rfl) rfl) rfl ?_;intro g17 w18 V a A;refine zf (us:=[bV false,.slice none 0 0]) A V rfl rfl (ql rfl rfl rfl (by kernel_rfl) V 0 rfl rfl rfl) 0 rfl rfl rfl rfl ?_;intro w19 V;iterate 2 refine sda A λa A=>?_
 refine qa (hK14 _ _ (wsk fun K20 hK20=>wsk fun K21 hK21=>wrl (mv A rfl rfl rfl λa A=>?_)));refine sdo (v:=bV true) A (qb rfl rfl (fun w=>(za w).trans (by rw[show(((vq r n) != 0))=true from(bne_iff_ne.2 h1)]))) λa A=>?_;refine sdm A λa A=>?_;iterate 2 refine qf A rfl rfl rfl λa A=>?_
 refine sdk (v:=bV true) A λa A=>?_;refine qa (hK21 _ _ (ct A ?_));refine wsk fun K22 hK22=>wrl (sdo (v:=.agg #[bV false,.slice none 0 0,.slice none 0 0,bV false,.slice none 0 0,.slice none 0 0]) A (qs rfl (fun w=>by kernel_rfl)) λa A=>?_);refine zf (us:=[bV false,.slice none 0 0,.slice none 0 0,bV false,.slice none 0 0,.slice none 0 0]) A V rfl rfl (ql rfl rfl rfl (by kernel_rfl) V 2 rfl rfl rfl) 2 rfl rfl rfl rfl ?_;intro w23 V;refine sda A λa A=>?_;refine qa (hK22 _ _ (wp_ret (hret _ _ (en2 A rfl (zq V RxE_isS_26 rfl 2 rfl (cs:=[bV false,.slice none 0 0,.slice none 0 0,bV false,.slice none 0 0,.slice none 0 0]) rfl rfl) (qj rfl) ?_))));rw[qha (by first | exact Or.inl h1 | exact Or.inr h2)];exact⟨none,0,none,0,none,0,none,0,rfl,⟨Sc.none _,Sc.none _,Sc.none _,Sc.none _⟩,V.bel⟩
theorem zqb{w:World}{r:Nat}{n m:Nl}(hr:RadN r)(hl1:n.2.1.length≤9223372036854775807)(hl2:n.2.2.length≤9223372036854775807)(hk1:m.2.1.length≤9223372036854775807)(hk2:m.2.2.length≤9223372036854775807)(h1:vq r n≠0)(h2:vq r m=0):Calls Tryz.prog 94 #[.agg #[.int .u8 (((n.1:Nat):Int)),.string (bsL n.2.1),.string (bsL n.2.2)],.agg #[.int .u8 (((m.1:Nat):Int)),.string (bsL m.2.1),.string (bsL m.2.2)],iV ((r:Nat):Int)] w (AnsN w (vm r n m)):=by
 have V:St w w [] [] []:=St.start w;refine qn (l:=[(0,.agg #[.int .u8 (((n.1:Nat):Int)),.string (bsL n.2.1),.string (bsL n.2.2)]),(1,.agg #[.int .u8 (((m.1:Nat):Int)),.string (bsL m.2.1),.string (bsL m.2.2)]),(2,iV (((r:Nat):Int)))]) Tryz.func94 rfl Tryz.ntmps94 rfl rfl ?_;intro Q hret hnorm hP a A;refine wsk fun K1 hK1=>wrl (qy A V rfl rfl rfl pg (zd rfl rfl) rfl ?_);intro g2 w3 V a A;refine qy A V rfl rfl rfl pg (zd rfl rfl) rfl ?_;intro g4 w5 V a A;refine qy (vs:=[bV false,.slice none 0 0,.slice none 0 0,bV false,.slice none 0 0,.slice none 0 0]) (t:=26) A V rfl rfl rfl pg (qk (z:=.agg #[bV false,.slice none 0 0,.slice none 0 0,bV false,.slice none 0 0,.slice none 0 0]) (by kernel_rfl) rfl) rfl ?_;intro g6 w7 V a A;refine sda A λa A=>?_;refine qa (hK1 _ _ (wsk fun K8 hK8=>wrl (sdo A (qr V RxE_isS_121 rfl 2 rfl (cs:=[.int .u8 (((n.1:Nat):Int)),.string (bsL n.2.1),.string (bsL n.2.2)]) rfl rfl) λa A=>?_)));refine sdm A λa A=>?_;refine sct A (ef rfl rfl) (qij hr hl1 hl2 h1) ?_;rintro _ w10 ⟨rfl,hb9⟩;replace V:=V.call hb9;refine⟨_,rfl,?_⟩;intro a A;refine sdm A λa A=>?_;iterate 3 refine sdo A (qi (vs:=[.agg #[bV false,.slice none 0 0],.slice none 0 0,iV ((vq r n))]) rfl rfl) λa A=>?_
 refine qy (vs:=[bV false,.slice none 0 0]) (t:=146) A V rfl rfl rfl pg (qk (z:=.agg #[bV false,.slice none 0 0]) (by kernel_rfl) rfl) rfl ?_;intro g11 w12 V a A;refine zf (us:=[bV false,.slice none 0 0]) A V rfl rfl (ql rfl rfl rfl (by kernel_rfl) V 0 rfl rfl rfl) 0 rfl rfl rfl rfl ?_;intro w13 V;iterate 2 refine sda A λa A=>?_
 refine qa (hK8 _ _ (wsk fun K14 hK14=>wrl (sdo A (qr V RxE_isS_121 rfl 2 rfl (cs:=[.int .u8 (((m.1:Nat):Int)),.string (bsL m.2.1),.string (bsL m.2.2)]) rfl rfl) λa A=>?_)));refine sdm A λa A=>?_;refine sct A (ef rfl rfl) (qdh (n:=m) hr hk1 hk2 (jb h2).1 (jb h2).2) ?_;rintro _ w22 ⟨zo15,zc16,zo17,zc18,rfl,hs19,hs20,hb21⟩;replace V:=V.call hb21;replace V:=V.addR hs19.rd;replace V:=V.addR hs20.rd;refine⟨_,rfl,?_⟩;intro a A;refine sdm A λa A=>?_;iterate 3 refine sdo A (qi (vs:=[.agg #[bV ((rb (sgn (decide (m.1=45)) (zj r m.2.1)))),.slice zo15 ((words (sgn (decide (m.1=45)) (zj r m.2.1)).natAbs).length) zc16],.slice zo17 ((words (zj r m.2.2)).length) zc18,iV 0]) rfl rfl) λa A=>?_
 refine qy (vs:=[bV false,.slice none 0 0]) (t:=146) A V rfl rfl rfl pg (qk (z:=.agg #[bV false,.slice none 0 0]) (by kernel_rfl) rfl) rfl ?_;intro g23 w24 V a A;refine zf (us:=[bV ((rb (sgn (decide (m.1=45)) (zj r m.2.1)))),.slice zo15 ((words (sgn (decide (m.1=45)) (zj r m.2.1)).natAbs).length) zc16]) A V rfl rfl (ql rfl rfl rfl (by kernel_rfl) V 0 rfl rfl rfl) 0 rfl rfl rfl rfl ?_;intro w25 V;iterate 2 refine sda A λa A=>?_
 refine qa (hK14 _ _ (wsk fun K26 hK26=>wsk fun K27 hK27=>wrl (mv A rfl rfl rfl λa A=>?_)));refine sdo (v:=bV true) A (qb rfl rfl (fun w=>(za w).trans (by rw[show(((vq r n) != 0))=true from(bne_iff_ne.2 h1)]))) λa A=>?_;refine sdm A λa A=>?_;iterate 2 refine qf A rfl rfl rfl λa A=>?_
 refine sdk (v:=bV true) A λa A=>?_;refine qa (hK27 _ _ (ct A ?_));refine wsk fun K28 hK28=>wrl (sdo (v:=.agg #[bV false,.slice none 0 0,.slice none 0 0,bV false,.slice none 0 0,.slice none 0 0]) A (qs rfl (fun w=>by kernel_rfl)) λa A=>?_);refine zf (us:=[bV false,.slice none 0 0,.slice none 0 0,bV false,.slice none 0 0,.slice none 0 0]) A V rfl rfl (ql rfl rfl rfl (by kernel_rfl) V 2 rfl rfl rfl) 2 rfl rfl rfl rfl ?_;intro w29 V;refine sda A λa A=>?_;refine qa (hK28 _ _ (wp_ret (hret _ _ (en2 A rfl (zq V RxE_isS_26 rfl 2 rfl (cs:=[bV false,.slice none 0 0,.slice none 0 0,bV false,.slice none 0 0,.slice none 0 0]) rfl rfl) (qj rfl) ?_))));rw[qha (by first | exact Or.inl h1 | exact Or.inr h2)];exact⟨none,0,none,0,none,0,none,0,rfl,⟨Sc.none _,Sc.none _,Sc.none _,Sc.none _⟩,V.bel⟩
theorem zqc{w:World}{r:Nat}{n m:Nl}(hr:RadN r)(hl1:n.2.1.length≤9223372036854775807)(hl2:n.2.2.length≤9223372036854775807)(hk1:m.2.1.length≤9223372036854775807)(hk2:m.2.2.length≤9223372036854775807)(h1:vq r n=0)(h2:vq r m≠0):Calls Tryz.prog 94 #[.agg #[.int .u8 (((n.1:Nat):Int)),.string (bsL n.2.1),.string (bsL n.2.2)],.agg #[.int .u8 (((m.1:Nat):Int)),.string (bsL m.2.1),.string (bsL m.2.2)],iV ((r:Nat):Int)] w (AnsN w (vm r n m)):=by
 have V:St w w [] [] []:=St.start w;refine qn (l:=[(0,.agg #[.int .u8 (((n.1:Nat):Int)),.string (bsL n.2.1),.string (bsL n.2.2)]),(1,.agg #[.int .u8 (((m.1:Nat):Int)),.string (bsL m.2.1),.string (bsL m.2.2)]),(2,iV (((r:Nat):Int)))]) Tryz.func94 rfl Tryz.ntmps94 rfl rfl ?_;intro Q hret hnorm hP a A;refine wsk fun K1 hK1=>wrl (qy A V rfl rfl rfl pg (zd rfl rfl) rfl ?_);intro g2 w3 V a A;refine qy A V rfl rfl rfl pg (zd rfl rfl) rfl ?_;intro g4 w5 V a A;refine qy (vs:=[bV false,.slice none 0 0,.slice none 0 0,bV false,.slice none 0 0,.slice none 0 0]) (t:=26) A V rfl rfl rfl pg (qk (z:=.agg #[bV false,.slice none 0 0,.slice none 0 0,bV false,.slice none 0 0,.slice none 0 0]) (by kernel_rfl) rfl) rfl ?_;intro g6 w7 V a A;refine sda A λa A=>?_;refine qa (hK1 _ _ (wsk fun K8 hK8=>wrl (sdo A (qr V RxE_isS_121 rfl 2 rfl (cs:=[.int .u8 (((n.1:Nat):Int)),.string (bsL n.2.1),.string (bsL n.2.2)]) rfl rfl) λa A=>?_)));refine sdm A λa A=>?_;refine sct A (ef rfl rfl) (qdh (n:=n) hr hl1 hl2 (jb h1).1 (jb h1).2) ?_;rintro _ w16 ⟨zo9,zc10,zo11,zc12,rfl,hs13,hs14,hb15⟩;replace V:=V.call hb15;replace V:=V.addR hs13.rd;replace V:=V.addR hs14.rd;refine⟨_,rfl,?_⟩;intro a A;refine sdm A λa A=>?_;iterate 3 refine sdo A (qi (vs:=[.agg #[bV ((rb (sgn (decide (n.1=45)) (zj r n.2.1)))),.slice zo9 ((words (sgn (decide (n.1=45)) (zj r n.2.1)).natAbs).length) zc10],.slice zo11 ((words (zj r n.2.2)).length) zc12,iV 0]) rfl rfl) λa A=>?_
 refine qy (vs:=[bV false,.slice none 0 0]) (t:=146) A V rfl rfl rfl pg (qk (z:=.agg #[bV false,.slice none 0 0]) (by kernel_rfl) rfl) rfl ?_;intro g17 w18 V a A;refine zf (us:=[bV ((rb (sgn (decide (n.1=45)) (zj r n.2.1)))),.slice zo9 ((words (sgn (decide (n.1=45)) (zj r n.2.1)).natAbs).length) zc10]) A V rfl rfl (ql rfl rfl rfl (by kernel_rfl) V 0 rfl rfl rfl) 0 rfl rfl rfl rfl ?_;intro w19 V;iterate 2 refine sda A λa A=>?_
 refine qa (hK8 _ _ (wsk fun K20 hK20=>wrl (sdo A (qr V RxE_isS_121 rfl 2 rfl (cs:=[.int .u8 (((m.1:Nat):Int)),.string (bsL m.2.1),.string (bsL m.2.2)]) rfl rfl) λa A=>?_)));refine sdm A λa A=>?_;refine sct A (ef rfl rfl) (qij hr hk1 hk2 h2) ?_;rintro _ w22 ⟨rfl,hb21⟩;replace V:=V.call hb21;refine⟨_,rfl,?_⟩;intro a A;refine sdm A λa A=>?_;iterate 3 refine sdo A (qi (vs:=[.agg #[bV false,.slice none 0 0],.slice none 0 0,iV ((vq r m))]) rfl rfl) λa A=>?_
 refine qy (vs:=[bV false,.slice none 0 0]) (t:=146) A V rfl rfl rfl pg (qk (z:=.agg #[bV false,.slice none 0 0]) (by kernel_rfl) rfl) rfl ?_;intro g23 w24 V a A;refine zf (us:=[bV false,.slice none 0 0]) A V rfl rfl (ql rfl rfl rfl (by kernel_rfl) V 0 rfl rfl rfl) 0 rfl rfl rfl rfl ?_;intro w25 V;iterate 2 refine sda A λa A=>?_
 refine qa (hK20 _ _ (wsk fun K26 hK26=>wsk fun K27 hK27=>wrl (mv A rfl rfl rfl λa A=>?_)));refine sdo (v:=bV false) A dbK λa A=>?_;iterate 2 refine sdm A λa A=>?_
 refine sdo (v:=bV true) A (qb rfl rfl (fun w=>(za w).trans (by rw[show(((vq r m) != 0))=true from(bne_iff_ne.2 h2)]))) λa A=>?_;refine sdk (v:=bV true) A λa A=>?_;refine qa (hK27 _ _ (ct A ?_));refine wsk fun K28 hK28=>wrl (sdo (v:=.agg #[bV false,.slice none 0 0,.slice none 0 0,bV false,.slice none 0 0,.slice none 0 0]) A (qs rfl (fun w=>by kernel_rfl)) λa A=>?_);refine zf (us:=[bV false,.slice none 0 0,.slice none 0 0,bV false,.slice none 0 0,.slice none 0 0]) A V rfl rfl (ql rfl rfl rfl (by kernel_rfl) V 2 rfl rfl rfl) 2 rfl rfl rfl rfl ?_;intro w29 V;refine sda A λa A=>?_;refine qa (hK28 _ _ (wp_ret (hret _ _ (en2 A rfl (zq V RxE_isS_26 rfl 2 rfl (cs:=[bV false,.slice none 0 0,.slice none 0 0,bV false,.slice none 0 0,.slice none 0 0]) rfl rfl) (qj rfl) ?_))));rw[qha (by first | exact Or.inl h1 | exact Or.inr h2)];exact⟨none,0,none,0,none,0,none,0,rfl,⟨Sc.none _,Sc.none _,Sc.none _,Sc.none _⟩,V.bel⟩
theorem zqd{w:World}{r:Nat}{n m:Nl}(hr:RadN r)(hl1:n.2.1.length≤9223372036854775807)(hl2:n.2.2.length≤9223372036854775807)(hk1:m.2.1.length≤9223372036854775807)(hk2:m.2.2.length≤9223372036854775807)(h1:vq r n=0)(h2:vq r m=0)(kn:zj r n.2.2≠0)(km:zj r m.2.2≠0):Calls Tryz.prog 94 #[.agg #[.int .u8 (((n.1:Nat):Int)),.string (bsL n.2.1),.string (bsL n.2.2)],.agg #[.int .u8 (((m.1:Nat):Int)),.string (bsL m.2.1),.string (bsL m.2.2)],iV ((r:Nat):Int)] w (AnsN w (vm r n m)):=by
 have jn:=uf.2 kn;have jm:=uf.2 km;have V:St w w [] [] []:=St.start w;refine qn (l:=[(0,.agg #[.int .u8 (((n.1:Nat):Int)),.string (bsL n.2.1),.string (bsL n.2.2)]),(1,.agg #[.int .u8 (((m.1:Nat):Int)),.string (bsL m.2.1),.string (bsL m.2.2)]),(2,iV (((r:Nat):Int)))]) Tryz.func94 rfl Tryz.ntmps94 rfl rfl ?_;intro Q hret hnorm hP a A;refine wsk fun K1 hK1=>wrl (qy A V rfl rfl rfl pg (zd rfl rfl) rfl ?_);intro g2 w3 V a A;refine qy A V rfl rfl rfl pg (zd rfl rfl) rfl ?_;intro g4 w5 V a A;refine qy (vs:=[bV false,.slice none 0 0,.slice none 0 0,bV false,.slice none 0 0,.slice none 0 0]) (t:=26) A V rfl rfl rfl pg (qk (z:=.agg #[bV false,.slice none 0 0,.slice none 0 0,bV false,.slice none 0 0,.slice none 0 0]) (by kernel_rfl) rfl) rfl ?_;intro g6 w7 V a A;refine sda A λa A=>?_;refine qa (hK1 _ _ (wsk fun K8 hK8=>wrl (sdo A (qr V RxE_isS_121 rfl 2 rfl (cs:=[.int .u8 (((n.1:Nat):Int)),.string (bsL n.2.1),.string (bsL n.2.2)]) rfl rfl) λa A=>?_)));refine sdm A λa A=>?_;refine sct A (ef rfl rfl) (qdh (n:=n) hr hl1 hl2 (jb h1).1 (jb h1).2) ?_;rintro _ w16 ⟨zo9,zc10,zo11,zc12,rfl,hs13,hs14,hb15⟩;replace V:=V.call hb15;replace V:=V.addR hs13.rd;replace V:=V.addR hs14.rd;refine⟨_,rfl,?_⟩;intro a A;refine sdm A λa A=>?_;iterate 3 refine sdo A (qi (vs:=[.agg #[bV ((rb (sgn (decide (n.1=45)) (zj r n.2.1)))),.slice zo9 ((words (sgn (decide (n.1=45)) (zj r n.2.1)).natAbs).length) zc10],.slice zo11 ((words (zj r n.2.2)).length) zc12,iV 0]) rfl rfl) λa A=>?_
 refine qy (vs:=[bV false,.slice none 0 0]) (t:=146) A V rfl rfl rfl pg (qk (z:=.agg #[bV false,.slice none 0 0]) (by kernel_rfl) rfl) rfl ?_;intro g17 w18 V a A;refine zf (us:=[bV ((rb (sgn (decide (n.1=45)) (zj r n.2.1)))),.slice zo9 ((words (sgn (decide (n.1=45)) (zj r n.2.1)).natAbs).length) zc10]) A V rfl rfl (ql rfl rfl rfl (by kernel_rfl) V 0 rfl rfl rfl) 0 rfl rfl rfl rfl ?_;intro w19 V;iterate 2 refine sda A λa A=>?_
 refine qa (hK8 _ _ (wsk fun K20 hK20=>wrl (sdo A (qr V RxE_isS_121 rfl 2 rfl (cs:=[.int .u8 (((m.1:Nat):Int)),.string (bsL m.2.1),.string (bsL m.2.2)]) rfl rfl) λa A=>?_)));refine sdm A λa A=>?_;refine sct A (ef rfl rfl) (qdh (n:=m) hr hk1 hk2 (jb h2).1 (jb h2).2) ?_;rintro _ w28 ⟨zo21,zc22,zo23,zc24,rfl,hs25,hs26,hb27⟩;replace V:=V.call hb27;replace V:=V.addR hs25.rd;replace V:=V.addR hs26.rd;refine⟨_,rfl,?_⟩;intro a A;refine sdm A λa A=>?_;iterate 3 refine sdo A (qi (vs:=[.agg #[bV ((rb (sgn (decide (m.1=45)) (zj r m.2.1)))),.slice zo21 ((words (sgn (decide (m.1=45)) (zj r m.2.1)).natAbs).length) zc22],.slice zo23 ((words (zj r m.2.2)).length) zc24,iV 0]) rfl rfl) λa A=>?_
 refine qy (vs:=[bV false,.slice none 0 0]) (t:=146) A V rfl rfl rfl pg (qk (z:=.agg #[bV false,.slice none 0 0]) (by kernel_rfl) rfl) rfl ?_;intro g29 w30 V a A;refine zf (us:=[bV ((rb (sgn (decide (m.1=45)) (zj r m.2.1)))),.slice zo21 ((words (sgn (decide (m.1=45)) (zj r m.2.1)).natAbs).length) zc22]) A V rfl rfl (ql rfl rfl rfl (by kernel_rfl) V 0 rfl rfl rfl) 0 rfl rfl rfl rfl ?_;intro w31 V;iterate 2 refine sda A λa A=>?_
 refine qa (hK20 _ _ (wsk fun K32 hK32=>wsk fun K33 hK33=>wrl (mv A rfl rfl rfl λa A=>?_)));refine sdo (v:=bV false) A dbK λa A=>?_;iterate 2 refine sdm A λa A=>?_
 refine sdo (v:=bV false) A dbK λa A=>?_;refine sdk (v:=bV false) A λa A=>?_;refine qa (hK33 _ _ (cf A ?_));refine wp_skip (hK32 _ _ (wsk fun K34 hK34=>wsk fun K35 hK35=>wrl (mv A rfl rfl rfl λa A=>?_)));refine sdo A (zh Tryz.underlying22 rfl) λa A=>?_;refine sdo (v:=bV false) A (qb rfl rfl (fun w=>(qg w).trans (by rw[show(((((words (zj r n.2.2)).length:Nat):Int)==0))=false from(beq_eq_false_iff_ne.2 (by omega))]))) λa A=>?_;iterate 2 refine sdm A λa A=>?_
 refine sdo A (zh Tryz.underlying22 rfl) λa A=>?_;refine sdo (v:=bV false) A (qb rfl rfl (fun w=>(qg w).trans (by rw[show(((((words (zj r m.2.2)).length:Nat):Int)==0))=false from(beq_eq_false_iff_ne.2 (by omega))]))) λa A=>?_;refine sdk (v:=bV false) A λa A=>?_;refine qa (hK35 _ _ (cf A ?_));refine wp_skip (hK34 _ _ (wsk fun K36 hK36=>jt (S:=fun w1=>St w w1 [(g29,[bV ((rb (sgn (decide (m.1=45)) (zj r m.2.1)))),.slice zo21 ((words (sgn (decide (m.1=45)) (zj r m.2.1)).natAbs).length) zc22]),(g17,[bV ((rb (sgn (decide (n.1=45)) (zj r n.2.1)))),.slice zo9 ((words (sgn (decide (n.1=45)) (zj r n.2.1)).natAbs).length) zc10]),(g4,[.int .u8 (((m.1:Nat):Int)),.string (bsL m.2.1),.string (bsL m.2.2)]),(g2,[.int .u8 (((n.1:Nat):Int)),.string (bsL n.2.1),.string (bsL n.2.2)])] [(zo23,words (zj r m.2.2)),(zo21,words (sgn (decide (m.1=45)) (zj r m.2.1)).natAbs),(zo11,words (zj r n.2.2)),(zo9,words (sgn (decide (n.1=45)) (zj r n.2.1)).natAbs)] []) (by kernel_rfl) ?_));replace V:=V.drew;refine atk A 0 rfl hP (V.partD (cC (cC (cN (cC (cC .slnil))))) 0 rfl (.refl _)) (λ_ V=>qr V RxE_isS_146 rfl 1 rfl (cs:=[bV ((rb (sgn (decide (n.1=45)) (zj r n.2.1)))),.slice zo9 ((words (sgn (decide (n.1=45)) (zj r n.2.1)).natAbs).length) zc10]) rfl rfl) λa A=>?_;refine atk A 1 rfl hP (V.partD (cC (cC (cN (cC (cC .slnil))))) 0 rfl (.refl _)) (λ_ V=>qx rfl) λa A=>?_;refine atk A 3 rfl hP (V.partD (cC (cC (cN (cC (cC .slnil))))) 0 rfl (.refl _)) (λ_ V=>qr V RxE_isS_146 rfl 0 rfl (cs:=[bV ((rb (sgn (decide (m.1=45)) (zj r m.2.1)))),.slice zo21 ((words (sgn (decide (m.1=45)) (zj r m.2.1)).natAbs).length) zc22]) rfl rfl) λa A=>?_;refine atk A 4 rfl hP (V.partD (cC (cC (cN (cC (cC .slnil))))) 0 rfl (.refl _)) (λ_ V=>qx rfl) λa A=>?_
 refine zm (by kernel_rfl) (xk A 2 rfl rfl rfl rfl (jk  rfl rfl (fun w=>by kernel_rfl)) (qqd (x:=(sgn (decide (n.1=45)) (zj r n.2.1))) (d:=(zj r n.2.2)) ⟨(V.rd 3 rfl),hs13.nil,hs13.cap⟩ ⟨(V.rd 2 rfl),hs14.nil,hs14.cap⟩ (qbh (Nat.le_trans (yj (jb h1).1).2 (by decide))) (Nat.le_trans (yj (jb h1).2).2 (by decide)) kn) ?_);rintro _ w41 ⟨f37_1,f37_c1,f37_2,f37_c2,rfl,hs38,hs39,hb40⟩;replace V:=V.call hb40;replace V:=V.addR hs38.rd;replace V:=V.addR hs39.rd;refine⟨_,rfl,(V.partD (cC (cC (cN (cC (cC .slnil))))) 2 rfl (.refl _)),?_⟩;intro a A;refine zm (by kernel_rfl) (xk A 5 rfl rfl rfl rfl (jk  rfl rfl (fun w=>by kernel_rfl)) (qqd (x:=(sgn (decide (m.1=45)) (zj r m.2.1))) (d:=(zj r m.2.2)) ⟨(V.rd 3 rfl),hs25.nil,hs25.cap⟩ ⟨(V.rd 2 rfl),hs26.nil,hs26.cap⟩ (qbh (Nat.le_trans (yj (jb h2).1).2 (by decide))) (Nat.le_trans (yj (jb h2).2).2 (by decide)) km) ?_);rintro _ w46 ⟨f42_1,f42_c1,f42_2,f42_c2,rfl,hs43,hs44,hb45⟩;replace V:=V.call hb45;replace V:=V.addR hs43.rd;replace V:=V.addR hs44.rd;refine⟨_,rfl,(V.partD (cC (cC (cN (cC (cC .slnil))))) 4 rfl (.refl _)),?_⟩;intro a A;refine atk (v:=.agg #[bV ((rb (sgn (decide (n.1=45)) (zj r n.2.1)))),.slice f37_1 ((words (rt (sgn (decide (n.1=45)) (zj r n.2.1)) (zj r n.2.2))).length) f37_c1,.slice f37_2 ((words (rq (sgn (decide (n.1=45)) (zj r n.2.1)) (zj r n.2.2))).length) f37_c2,bV ((rb (sgn (decide (m.1=45)) (zj r m.2.1)))),.slice f42_1 ((words (rt (sgn (decide (m.1=45)) (zj r m.2.1)) (zj r m.2.2))).length) f42_c1,.slice f42_2 ((words (rq (sgn (decide (m.1=45)) (zj r m.2.1)) (zj r m.2.2))).length) f42_c2]) A 6 rfl hP (V.partD (cC (cC (cN (cC (cC .slnil))))) 4 rfl (.refl _)) (λ_ V=>qs rfl (fun w=>by kernel_rfl)) λa A=>?_
 refine zm (by kernel_rfl) (jv (us:=[bV ((rb (sgn (decide (n.1=45)) (zj r n.2.1)))),.slice f37_1 ((words (rt (sgn (decide (n.1=45)) (zj r n.2.1)) (zj r n.2.2))).length) f37_c1,.slice f37_2 ((words (rq (sgn (decide (n.1=45)) (zj r n.2.1)) (zj r n.2.2))).length) f37_c2,bV ((rb (sgn (decide (m.1=45)) (zj r m.2.1)))),.slice f42_1 ((words (rt (sgn (decide (m.1=45)) (zj r m.2.1)) (zj r m.2.2))).length) f42_c1,.slice f42_2 ((words (rq (sgn (decide (m.1=45)) (zj r m.2.1)) (zj r m.2.2))).length) f42_c2]) A V 7 rfl rfl rfl (ql rfl rfl rfl (by kernel_rfl) V 2 rfl rfl rfl) 2 rfl rfl rfl rfl ?_);intro w47 V;refine⟨(V.partD (cC (cC (cN (cC (cC .slnil))))) 4 rfl (.refl _)),?_⟩;refine atk A 8 rfl hP (V.partD (cC (cC (cN (cC (cC .slnil))))) 4 rfl (.refl _)) (λ_ V=>zk rfl) λa A=>?_;refine zx (by kernel_rfl) ?_;refine hK36 _ _ (wp_ret (hret _ _ (en2 A rfl (zq V RxE_isS_26 rfl 2 rfl (cs:=[bV ((rb (sgn (decide (n.1=45)) (zj r n.2.1)))),.slice f37_1 ((words (rt (sgn (decide (n.1=45)) (zj r n.2.1)) (zj r n.2.2))).length) f37_c1,.slice f37_2 ((words (rq (sgn (decide (n.1=45)) (zj r n.2.1)) (zj r n.2.2))).length) f37_c2,bV ((rb (sgn (decide (m.1=45)) (zj r m.2.1)))),.slice f42_1 ((words (rt (sgn (decide (m.1=45)) (zj r m.2.1)) (zj r m.2.2))).length) f42_c1,.slice f42_2 ((words (rq (sgn (decide (m.1=45)) (zj r m.2.1)) (zj r m.2.2))).length) f42_c2]) rfl rfl) (qj rfl) ?_)));rw[jph h1 h2 kn km];exact⟨f37_1,f37_c1,f37_2,f37_c2,f42_1,f42_c1,f42_2,f42_c2,rfl,⟨⟨(V.rd 3 rfl),hs38.nil,hs38.cap⟩,⟨(V.rd 2 rfl),hs39.nil,hs39.cap⟩,⟨(V.rd 1 rfl),hs43.nil,hs43.cap⟩,⟨(V.rd 0 rfl),hs44.nil,hs44.cap⟩⟩,V.bel⟩
theorem qyj{w:World}{r:Nat}{n m:Nl}(hr:RadN r)(hl1:n.2.1.length≤9223372036854775807)(hl2:n.2.2.length≤9223372036854775807)(hk1:m.2.1.length≤9223372036854775807)(hk2:m.2.2.length≤9223372036854775807)(h1:vq r n=0)(h2:vq r m=0)(kz:zj r n.2.2=0∨zj r m.2.2=0):Calls Tryz.prog 94 #[.agg #[.int .u8 (((n.1:Nat):Int)),.string (bsL n.2.1),.string (bsL n.2.2)],.agg #[.int .u8 (((m.1:Nat):Int)),.string (bsL m.2.1),.string (bsL m.2.2)],iV ((r:Nat):Int)] w (AnsN w (vm r n m)):=by
 have jz:(words (zj r n.2.2)).length=0∨(words (zj r m.2.2)).length=0:=by
  rcases kz with h | h
  ·left; rw[h,words_zero]; rfl
  ·right; rw[h,words_zero]; rfl
 have V:St w w [] [] []:=St.start w;refine qn (l:=[(0,.agg #[.int .u8 (((n.1:Nat):Int)),.string (bsL n.2.1),.string (bsL n.2.2)]),(1,.agg #[.int .u8 (((m.1:Nat):Int)),.string (bsL m.2.1),.string (bsL m.2.2)]),(2,iV (((r:Nat):Int)))]) Tryz.func94 rfl Tryz.ntmps94 rfl rfl ?_;intro Q hret hnorm hP a A;refine wsk fun K1 hK1=>wrl (qy A V rfl rfl rfl pg (zd rfl rfl) rfl ?_);intro g2 w3 V a A;refine qy A V rfl rfl rfl pg (zd rfl rfl) rfl ?_;intro g4 w5 V a A;refine qy (vs:=[bV false,.slice none 0 0,.slice none 0 0,bV false,.slice none 0 0,.slice none 0 0]) (t:=26) A V rfl rfl rfl pg (qk (z:=.agg #[bV false,.slice none 0 0,.slice none 0 0,bV false,.slice none 0 0,.slice none 0 0]) (by kernel_rfl) rfl) rfl ?_;intro g6 w7 V a A;refine sda A λa A=>?_;refine qa (hK1 _ _ (wsk fun K8 hK8=>wrl (sdo A (qr V RxE_isS_121 rfl 2 rfl (cs:=[.int .u8 (((n.1:Nat):Int)),.string (bsL n.2.1),.string (bsL n.2.2)]) rfl rfl) λa A=>?_)));refine sdm A λa A=>?_;refine sct A (ef rfl rfl) (qdh (n:=n) hr hl1 hl2 (jb h1).1 (jb h1).2) ?_;rintro _ w16 ⟨zo9,zc10,zo11,zc12,rfl,hs13,hs14,hb15⟩;replace V:=V.call hb15;replace V:=V.addR hs13.rd;replace V:=V.addR hs14.rd;refine⟨_,rfl,?_⟩;intro a A;refine sdm A λa A=>?_;iterate 3 refine sdo A (qi (vs:=[.agg #[bV ((rb (sgn (decide (n.1=45)) (zj r n.2.1)))),.slice zo9 ((words (sgn (decide (n.1=45)) (zj r n.2.1)).natAbs).length) zc10],.slice zo11 ((words (zj r n.2.2)).length) zc12,iV 0]) rfl rfl) λa A=>?_
 refine qy (vs:=[bV false,.slice none 0 0]) (t:=146) A V rfl rfl rfl pg (qk (z:=.agg #[bV false,.slice none 0 0]) (by kernel_rfl) rfl) rfl ?_;intro g17 w18 V a A;refine zf (us:=[bV ((rb (sgn (decide (n.1=45)) (zj r n.2.1)))),.slice zo9 ((words (sgn (decide (n.1=45)) (zj r n.2.1)).natAbs).length) zc10]) A V rfl rfl (ql rfl rfl rfl (by kernel_rfl) V 0 rfl rfl rfl) 0 rfl rfl rfl rfl ?_;intro w19 V;iterate 2 refine sda A λa A=>?_
 refine qa (hK8 _ _ (wsk fun K20 hK20=>wrl (sdo A (qr V RxE_isS_121 rfl 2 rfl (cs:=[.int .u8 (((m.1:Nat):Int)),.string (bsL m.2.1),.string (bsL m.2.2)]) rfl rfl) λa A=>?_)));refine sdm A λa A=>?_;refine sct A (ef rfl rfl) (qdh (n:=m) hr hk1 hk2 (jb h2).1 (jb h2).2) ?_;rintro _ w28 ⟨zo21,zc22,zo23,zc24,rfl,hs25,hs26,hb27⟩;replace V:=V.call hb27;replace V:=V.addR hs25.rd;replace V:=V.addR hs26.rd;refine⟨_,rfl,?_⟩;intro a A;refine sdm A λa A=>?_;iterate 3 refine sdo A (qi (vs:=[.agg #[bV ((rb (sgn (decide (m.1=45)) (zj r m.2.1)))),.slice zo21 ((words (sgn (decide (m.1=45)) (zj r m.2.1)).natAbs).length) zc22],.slice zo23 ((words (zj r m.2.2)).length) zc24,iV 0]) rfl rfl) λa A=>?_
 refine qy (vs:=[bV false,.slice none 0 0]) (t:=146) A V rfl rfl rfl pg (qk (z:=.agg #[bV false,.slice none 0 0]) (by kernel_rfl) rfl) rfl ?_;intro g29 w30 V a A;refine zf (us:=[bV ((rb (sgn (decide (m.1=45)) (zj r m.2.1)))),.slice zo21 ((words (sgn (decide (m.1=45)) (zj r m.2.1)).natAbs).length) zc22]) A V rfl rfl (ql rfl rfl rfl (by kernel_rfl) V 0 rfl rfl rfl) 0 rfl rfl rfl rfl ?_;intro w31 V;iterate 2 refine sda A λa A=>?_
 refine qa (hK20 _ _ (wsk fun K32 hK32=>wsk fun K33 hK33=>wrl (mv A rfl rfl rfl λa A=>?_)));refine sdo (v:=bV false) A dbK λa A=>?_;iterate 2 refine sdm A λa A=>?_
 refine sdo (v:=bV false) A dbK λa A=>?_;refine sdk (v:=bV false) A λa A=>?_;refine qa (hK33 _ _ (cf A ?_));refine wp_skip (hK32 _ _ (wsk fun K34 hK34=>wsk fun K35 hK35=>wrl (mv A rfl rfl rfl λa A=>?_)));refine sdo A (zh Tryz.underlying22 rfl) λa A=>?_;rcases tf (((((words (zj r n.2.2)).length:Nat):Int)==0))with hb36 | hb36
 ·have hb36':=eq_of_beq hb36;refine sdc A qg hb36 λa A=>?_;refine sdm A λa A=>?_;iterate 3 refine qf A rfl rfl rfl λa A=>?_
  refine sdk (v:=bV true) A λa A=>?_;refine qa (hK35 _ _ (ct A ?_));refine wsk fun K37 hK37=>wrl (sdo (v:=.agg #[bV false,.slice none 0 0,.slice none 0 0,bV false,.slice none 0 0,.slice none 0 0]) A (qs rfl (fun w=>by kernel_rfl)) λa A=>?_);refine zf (us:=[bV false,.slice none 0 0,.slice none 0 0,bV false,.slice none 0 0,.slice none 0 0]) A V rfl rfl (ql rfl rfl rfl (by kernel_rfl) V 2 rfl rfl rfl) 2 rfl rfl rfl rfl ?_;intro w38 V;refine sda A λa A=>?_;refine qa (hK37 _ _ (wp_ret (hret _ _ (en2 A rfl (zq V RxE_isS_26 rfl 2 rfl (cs:=[bV false,.slice none 0 0,.slice none 0 0,bV false,.slice none 0 0,.slice none 0 0]) rfl rfl) (qj rfl) ?_))));rw[qii h1 h2 kz];exact⟨none,0,none,0,none,0,none,0,rfl,⟨Sc.none _,Sc.none _,Sc.none _,Sc.none _⟩,V.bel⟩
 ·have hb36':=ne_of_beq_false hb36;refine sdc A qg hb36 λa A=>?_;iterate 2 refine sdm A λa A=>?_
  refine sdo A (zh Tryz.underlying22 rfl) λa A=>?_;refine sdo (v:=bV true) A (qb rfl rfl (fun w=>(qg w).trans (by rw[show(((((words (zj r m.2.2)).length:Nat):Int)==0))=true from(beq_iff_eq.2 (by omega))]))) λa A=>?_;refine sdk (v:=bV true) A λa A=>?_;refine qa (hK35 _ _ (ct A ?_));refine wsk fun K39 hK39=>wrl (sdo (v:=.agg #[bV false,.slice none 0 0,.slice none 0 0,bV false,.slice none 0 0,.slice none 0 0]) A (qs rfl (fun w=>by kernel_rfl)) λa A=>?_);refine zf (us:=[bV false,.slice none 0 0,.slice none 0 0,bV false,.slice none 0 0,.slice none 0 0]) A V rfl rfl (ql rfl rfl rfl (by kernel_rfl) V 2 rfl rfl rfl) 2 rfl rfl rfl rfl ?_;intro w40 V;refine sda A λa A=>?_;refine qa (hK39 _ _ (wp_ret (hret _ _ (en2 A rfl (zq V RxE_isS_26 rfl 2 rfl (cs:=[bV false,.slice none 0 0,.slice none 0 0,bV false,.slice none 0 0,.slice none 0 0]) rfl rfl) (qj rfl) ?_))));rw[qii h1 h2 kz];exact⟨none,0,none,0,none,0,none,0,rfl,⟨Sc.none _,Sc.none _,Sc.none _,Sc.none _⟩,V.bel⟩
theorem zqe{w:World}{r:Nat}{n m:Nl}(hr:RadN r)(hl1:n.2.1.length≤9223372036854775807)(hl2:n.2.2.length≤9223372036854775807)(hk1:m.2.1.length≤9223372036854775807)(hk2:m.2.2.length≤9223372036854775807):Calls Tryz.prog 94 #[.agg #[.int .u8 (((n.1:Nat):Int)),.string (bsL n.2.1),.string (bsL n.2.2)],.agg #[.int .u8 (((m.1:Nat):Int)),.string (bsL m.2.1),.string (bsL m.2.2)],iV ((r:Nat):Int)] w (AnsN w (vm r n m)):=by
 by_cases h1:vq r n=0
 ·by_cases h2:vq r m=0
  ·by_cases kn:zj r n.2.2=0
   ·exact qyj hr hl1 hl2 hk1 hk2 h1 h2 (.inl kn)
   ·by_cases km:zj r m.2.2=0
    ·exact qyj hr hl1 hl2 hk1 hk2 h1 h2 (.inr km)
    ·exact zqd hr hl1 hl2 hk1 hk2 h1 h2 kn km
  ·exact zqc hr hl1 hl2 hk1 hk2 h1 h2
 ·by_cases h2:vq r m=0
  ·exact zqb hr hl1 hl2 hk1 hk2 h1 h2
  ·exact zqa hr hl1 hl2 hk1 hk2 h1 h2
theorem zdb(r:Nat)(l:List UInt8):(nlD r l).2.1.length≤l.length∧(nlD r l).2.2.length≤l.length:=by
 have e:(unS l).length≤l.length:=by unfold unS; split; rw[List.length_drop]; omega; exact Nat.le_refl _
 have e1:(qD r l).length≤l.length:=by unfold qD; rw[List.length_drop]; omega
 unfold nlD;refine⟨?_,?_⟩
 ·show(tpD r l).length≤_;unfold tpD;rw[List.length_take]; omega
 ·show(boD r l).length≤_;unfold boD
  split
  ·rw[List.length_take,List.length_drop]; omega
  ·simp
theorem jpi(r:Nat)(l:List UInt8):(reP r l).2.1.length≤l.length+1∧(reP r l).2.2.length≤l.length+1:=by
 have h:=zdb r l;unfold reP
 split
 ·omega
 ·split
  ·exact⟨by simp[nl0],by simp[nl0]⟩
  ·omega
theorem jpj(r:Nat)(l:List UInt8):(imP r l).2.1.length≤l.length+1∧(imP r l).2.2.length≤l.length+1:=by
 have h:=zdb r l;have h1:=zdb r (reD r l);have h2:=zcj r l;unfold imP
 split
 ·exact⟨by simp[nl0],by simp[nl0]⟩
 ·split
  ·omega
  ·omega
theorem qpa{r k:Nat}{l b:List UInt8}(hr:RadN r)(hPx:jy false false r l=(b,k)):vf l ((r:Nat):Int)=if okP k b=true then(if l.length≤16384 then vm k (reP k b) (imP k b)else(Q6.zero,4))else(Q6.zero,5):=by
 have h:ka ((r:Nat):Int)=true:=by rcases hr with h | h | h | h<;>subst h<;>decide
 unfold vf;rw[h,if_pos rfl,Int.toNat_natCast,hPx]
theorem zqf{r:Nat}(hr:RadN r):ka ((r:Nat):Int)=true:=by rcases hr with h | h | h | h<;>subst h<;>decide
theorem jgg{w:World}{r k:Nat}{l b:List UInt8}(hr:RadN r)(hl:l.length≤9223372036854775807)(hPx:jy false false r l=(b,k)):Calls Tryz.prog 64 #[.string (bsL l),iV ((r:Nat):Int)] w (AnsN w (vf l ((r:Nat):Int))):=by
 have hk:RadN k:=by have h:=jfj hr false false l; rw[hPx]at h; exact h
 have hb:b.length≤l.length:=by have h:=jga false false r l; rw[hPx]at h; exact h
 have q1:=jpi k b;have q2:=jpj k b;have V:St w w [] [] []:=St.start w;refine qn (l:=[(0,.string (bsL l)),(1,iV (((r:Nat):Int)))]) Tryz.func64 rfl Tryz.ntmps64 rfl rfl ?_;intro Q hret hnorm hP a A;refine wsk fun K1 hK1=>wrl (qy (vs:=[bV false,.slice none 0 0,.slice none 0 0,bV false,.slice none 0 0,.slice none 0 0]) (t:=26) A V rfl rfl rfl pg (qk (z:=.agg #[bV false,.slice none 0 0,.slice none 0 0,bV false,.slice none 0 0,.slice none 0 0]) (by kernel_rfl) rfl) rfl ?_);intro g2 w3 V a A;refine sda A λa A=>?_;refine qa (hK1 _ _ (wsk fun K4 hK4=>wsk fun K5 hK5=>wrl (mv A rfl rfl rfl λa A=>?_)));refine sct A (ef rfl rfl) (qmh (zqf hr)) ?_;rintro _ w7 ⟨rfl,hb6⟩;replace V:=V.call hb6;refine⟨_,rfl,?_⟩;intro a A;refine sdo (v:=bV false) A (qp rfl ze) λa A=>?_;refine qa (hK5 _ _ (cf A ?_));refine wp_skip (hK4 _ _ (wsk fun K8 hK8=>wrl ?_));iterate 2 refine sdm A λa A=>?_
 refine sct A (ef rfl rfl) ((by have h:=qqj (w:=w7) (r:=r) (l:=l) hl; rw[hPx]at h; exact h)) ?_;rintro _ w10 ⟨rfl,hb9⟩;replace V:=V.call hb9;refine⟨_,rfl,?_⟩;intro a A;refine sdm A λa A=>?_;iterate 2 refine sdo A (qi (vs:=[.string (bsL b),iV (((k:Nat):Int))]) rfl rfl) λa A=>?_
 iterate 2 refine sda A λa A=>?_
 refine qa (hK8 _ _ (wsk fun K11 hK11=>wrl ?_));iterate 2 refine sdm A λa A=>?_
 refine sct A (ef rfl rfl) (zda (l:=b) hk (by omega)) ?_;rintro _ w13 ⟨rfl,hb12⟩;replace V:=V.call hb12;refine⟨_,rfl,?_⟩;intro a A;refine sdm A λa A=>?_;iterate 3 refine sdo A (qi (vs:=[.agg #[.int .u8 ((((reP k b).1:Nat):Int)),.string (bsL ((reP k b).2.1)),.string (bsL ((reP k b).2.2))],.agg #[.int .u8 ((((imP k b).1:Nat):Int)),.string (bsL ((imP k b).2.1)),.string (bsL ((imP k b).2.2))],bV (okP k b)]) rfl rfl) λa A=>?_
 refine qy (vs:=[.int .u8 0,.string (bsL []),.string (bsL [])]) (t:=121) A V rfl rfl rfl pg (qk (z:=.agg #[.int .u8 0,.string (bsL []),.string (bsL [])]) (by kernel_rfl) rfl) rfl ?_;intro g14 w15 V a A;refine qy (vs:=[.int .u8 0,.string (bsL []),.string (bsL [])]) (t:=121) A V rfl rfl rfl pg (qk (z:=.agg #[.int .u8 0,.string (bsL []),.string (bsL [])]) (by kernel_rfl) rfl) rfl ?_;intro g16 w17 V a A;refine zf (us:=[.int .u8 ((((reP k b).1:Nat):Int)),.string (bsL ((reP k b).2.1)),.string (bsL ((reP k b).2.2))]) A V rfl rfl (ql rfl rfl rfl (by kernel_rfl) V 1 rfl rfl rfl) 1 rfl rfl rfl rfl ?_;intro w18 V;refine zf (us:=[.int .u8 ((((imP k b).1:Nat):Int)),.string (bsL ((imP k b).2.1)),.string (bsL ((imP k b).2.2))]) A V rfl rfl (ql rfl rfl rfl (by kernel_rfl) V 0 rfl rfl rfl) 0 rfl rfl rfl rfl ?_;intro w19 V;refine sda A λa A=>?_;refine qa (hK11 _ _ (wsk fun K20 hK20=>wsk fun K21 hK21=>wrl (mv A rfl rfl rfl λa A=>?_)));refine sdo (v:=bV (!(okP k b))) A (qp rfl ze) λa A=>?_;refine qa (hK21 _ _ ?_);refine wp_cond_split (t:=!(okP k b)) (A.ev rfl) (fun hc22=>?_) (fun hc22=>?_)
 ·refine wsk fun K23 hK23=>wrl (sdo (v:=.agg #[bV false,.slice none 0 0,.slice none 0 0,bV false,.slice none 0 0,.slice none 0 0]) A (qs rfl (fun w=>by kernel_rfl)) λa A=>?_);refine zf (us:=[bV false,.slice none 0 0,.slice none 0 0,bV false,.slice none 0 0,.slice none 0 0]) A V rfl rfl (ql rfl rfl rfl (by kernel_rfl) V 2 rfl rfl rfl) 2 rfl rfl rfl rfl ?_;intro w24 V;refine sda A λa A=>?_;refine qa (hK23 _ _ (wp_ret (hret _ _ (en2 A rfl (zq V RxE_isS_26 rfl 2 rfl (cs:=[bV false,.slice none 0 0,.slice none 0 0,bV false,.slice none 0 0,.slice none 0 0]) rfl rfl) (qj rfl) ?_))));rw[qpa hr hPx,if_neg (by simpa using hc22)];exact⟨none,0,none,0,none,0,none,0,rfl,⟨Sc.none _,Sc.none _,Sc.none _,Sc.none _⟩,V.bel⟩
 ·refine wp_skip (hK20 _ _ (wsk fun K25 hK25=>wsk fun K26 hK26=>wrl (mv A rfl rfl rfl λa A=>?_)));refine sdo A (qoj Tryz.underlying9 rfl) λa A=>?_;rcases tf (decide (16384<((l.length:Nat):Int)))with hb27 | hb27
  ·have hb27':=of_decide_eq_true hb27;refine sdc A zn hb27 λa A=>?_;refine qa (hK26 _ _ (ct A ?_));refine wsk fun K28 hK28=>wrl (sdo (v:=.agg #[bV false,.slice none 0 0,.slice none 0 0,bV false,.slice none 0 0,.slice none 0 0]) A (qs rfl (fun w=>by kernel_rfl)) λa A=>?_);refine zf (us:=[bV false,.slice none 0 0,.slice none 0 0,bV false,.slice none 0 0,.slice none 0 0]) A V rfl rfl (ql rfl rfl rfl (by kernel_rfl) V 2 rfl rfl rfl) 2 rfl rfl rfl rfl ?_;intro w29 V;refine sda A λa A=>?_;refine qa (hK28 _ _ (wp_ret (hret _ _ (en2 A rfl (zq V RxE_isS_26 rfl 2 rfl (cs:=[bV false,.slice none 0 0,.slice none 0 0,bV false,.slice none 0 0,.slice none 0 0]) rfl rfl) (qj rfl) ?_))));rw[qpa hr hPx,if_pos (by simpa using hc22),if_neg (by omega)];exact⟨none,0,none,0,none,0,none,0,rfl,⟨Sc.none _,Sc.none _,Sc.none _,Sc.none _⟩,V.bel⟩
  ·have hb27':=of_decide_eq_false hb27;refine sdc A zn hb27 λa A=>?_;refine qa (hK26 _ _ (cf A ?_));refine wp_skip (hK25 _ _ (wsk fun K30 hK30=>wrl (sdo A (qr V RxE_isS_121 rfl 1 rfl (cs:=[.int .u8 ((((reP k b).1:Nat):Int)),.string (bsL ((reP k b).2.1)),.string (bsL ((reP k b).2.2))]) rfl rfl) λa A=>?_)));refine sdo A (qr V RxE_isS_121 rfl 0 rfl (cs:=[.int .u8 ((((imP k b).1:Nat):Int)),.string (bsL ((imP k b).2.1)),.string (bsL ((imP k b).2.2))]) rfl rfl) λa A=>?_;refine sdm A λa A=>?_;refine sct A (ef rfl rfl) (zqe hk (by omega) (by omega) (by omega) (by omega)) ?_;rintro _ w34 ⟨p31_1,p31_c1,p31_2,p31_c2,p31_3,p31_c3,p31_4,p31_c4,rfl,hn32,hb33⟩;replace V:=V.call hb33;replace V:=V.addR hn32.s1.rd;replace V:=V.addR hn32.s2.rd;replace V:=V.addR hn32.s3.rd;replace V:=V.addR hn32.s4.rd;refine⟨_,rfl,?_⟩;intro a A;iterate 2 refine sdo A (qi (vs:=[.agg #[bV ((vm k (reP k b) (imP k b)).1.b1),.slice p31_1 (((vm k (reP k b) (imP k b)).1.t1).length) p31_c1,.slice p31_2 (((vm k (reP k b) (imP k b)).1.q1).length) p31_c2,bV ((vm k (reP k b) (imP k b)).1.b2),.slice p31_3 (((vm k (reP k b) (imP k b)).1.t2).length) p31_c3,.slice p31_4 (((vm k (reP k b) (imP k b)).1.q2).length) p31_c4],iV ((vm k (reP k b) (imP k b)).2)]) rfl rfl) λa A=>?_
   refine zf (us:=[bV ((vm k (reP k b) (imP k b)).1.b1),.slice p31_1 (((vm k (reP k b) (imP k b)).1.t1).length) p31_c1,.slice p31_2 (((vm k (reP k b) (imP k b)).1.q1).length) p31_c2,bV ((vm k (reP k b) (imP k b)).1.b2),.slice p31_3 (((vm k (reP k b) (imP k b)).1.t2).length) p31_c3,.slice p31_4 (((vm k (reP k b) (imP k b)).1.q2).length) p31_c4]) A V rfl rfl (ql rfl rfl rfl (by kernel_rfl) V 2 rfl rfl rfl) 2 rfl rfl rfl rfl ?_;intro w35 V;refine sda A λa A=>?_;refine qa (hK30 _ _ (wp_ret (hret _ _ (en2 A rfl (zq V RxE_isS_26 rfl 2 rfl (cs:=[bV ((vm k (reP k b) (imP k b)).1.b1),.slice p31_1 (((vm k (reP k b) (imP k b)).1.t1).length) p31_c1,.slice p31_2 (((vm k (reP k b) (imP k b)).1.q1).length) p31_c2,bV ((vm k (reP k b) (imP k b)).1.b2),.slice p31_3 (((vm k (reP k b) (imP k b)).1.t2).length) p31_c3,.slice p31_4 (((vm k (reP k b) (imP k b)).1.q2).length) p31_c4]) rfl rfl) (qj rfl) ?_))));rw[qpa hr hPx,if_pos (by simpa using hc22),if_pos (by omega)];exact⟨p31_1,p31_c1,p31_2,p31_c2,p31_3,p31_c3,p31_4,p31_c4,rfl,⟨⟨(V.rd 3 rfl),hn32.s1.nil,hn32.s1.cap⟩,⟨(V.rd 2 rfl),hn32.s2.nil,hn32.s2.cap⟩,⟨(V.rd 1 rfl),hn32.s3.nil,hn32.s3.cap⟩,⟨(V.rd 0 rfl),hn32.s4.nil,hn32.s4.cap⟩⟩,V.bel⟩
theorem zqg{w:World}{n:Int}{l:List UInt8}(hn:ka n=false):Calls Tryz.prog 64 #[.string (bsL l),iV n] w (AnsN w (vf l n)):=by
 have V:St w w [] [] []:=St.start w;refine qn (l:=[(0,.string (bsL l)),(1,iV n)]) Tryz.func64 rfl Tryz.ntmps64 rfl rfl ?_;intro Q hret hnorm hP a A;refine wsk fun K1 hK1=>wrl (qy (vs:=[bV false,.slice none 0 0,.slice none 0 0,bV false,.slice none 0 0,.slice none 0 0]) (t:=26) A V rfl rfl rfl pg (qk (z:=.agg #[bV false,.slice none 0 0,.slice none 0 0,bV false,.slice none 0 0,.slice none 0 0]) (by kernel_rfl) rfl) rfl ?_);intro g2 w3 V a A;refine sda A λa A=>?_;refine qa (hK1 _ _ (wsk fun K4 hK4=>wsk fun K5 hK5=>wrl (mv A rfl rfl rfl λa A=>?_)));refine sct A (ef rfl rfl) (qmh hn) ?_;rintro _ w7 ⟨rfl,hb6⟩;replace V:=V.call hb6;refine⟨_,rfl,?_⟩;intro a A;refine sdo (v:=bV true) A (qp rfl ze) λa A=>?_;refine qa (hK5 _ _ (ct A ?_));refine wsk fun K8 hK8=>wrl (sdo (v:=.agg #[bV false,.slice none 0 0,.slice none 0 0,bV false,.slice none 0 0,.slice none 0 0]) A (qs rfl (fun w=>by kernel_rfl)) λa A=>?_);refine zf (us:=[bV false,.slice none 0 0,.slice none 0 0,bV false,.slice none 0 0,.slice none 0 0]) A V rfl rfl (ql rfl rfl rfl (by kernel_rfl) V 0 rfl rfl rfl) 0 rfl rfl rfl rfl ?_;intro w9 V;refine sda A λa A=>?_;refine qa (hK8 _ _ (wp_ret (hret _ _ (en2 A rfl (zq V RxE_isS_26 rfl 0 rfl (cs:=[bV false,.slice none 0 0,.slice none 0 0,bV false,.slice none 0 0,.slice none 0 0]) rfl rfl) (qj rfl) ?_))));rw[show vf l n=(Q6.zero,1)from by unfold vf; rw[hn]; rfl];exact⟨none,0,none,0,none,0,none,0,rfl,⟨Sc.none _,Sc.none _,Sc.none _,Sc.none _⟩,V.bel⟩
theorem qza{w:World}{n:Int}{l:List UInt8}(hl:l.length≤9223372036854775807):Calls Tryz.prog 64 #[.string (bsL l),iV n] w (AnsN w (vf l n)):=by
 cases h:ka n with
 | false => exact zqg h
 | true =>
  obtain⟨r,rfl,hr⟩:=zpa h;exact jgg (b:=(jy false false r l).1) (k:=(jy false false r l).2) hr hl rfl






section
variable {P:Program} {t:TypeId} {a b:Operand}
end
end Go.Proofs.YtgjohjfehgdgbaaGreatDoor
