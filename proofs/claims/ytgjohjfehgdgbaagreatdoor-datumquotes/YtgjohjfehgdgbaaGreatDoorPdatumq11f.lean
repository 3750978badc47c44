/- Sl Do Mg Mo CoU CoV CoW Mr Ml Ms Mt Mu -/
import Derived.Test.YtgjohjfehgdgbaaGreatDoorArith
import Derived.WalkKit
import Derived.WalkSpells
import Derived.WalkSmall
import Derived.Deep.OwnRows
import Derived.Laws.IdiomCopy
import Derived.ChangeKeysEq
import Derived.LoopN
import Derived.Deep.AppendLies
import Derived.OrdersHeld
import Derived.Deep.RegionHeld3
import Derived.Lib.OthersKept
import Derived.Laws.OwnMore
import Derived.Lib.TrimUEq
import Derived.Lib.RuneBytes
import Derived.Laws.BytesArg
set_option linter.unusedVariables false
set_option linter.unusedSimpArgs false
set_option maxHeartbeats 1000000
namespace Go.Proofs.YtgjohjfehgdgbaaGreatDoor.G
open Go.RowKit
abbrev pA(b o:Nat):Value:=.pointer (some ⟨b,o,none⟩)
abbrev iV(z:Int):Value:=.int .i64 z
abbrev bV(b:Bool):Value:=.bool b
abbrev aO(g:Nat):Option Addr:=some ⟨g,0,none⟩
abbrev zD: List Value:=[iV 0,iV 0,bV false,.slice none 0 0,.slice none 0 0,bV false,.slice none 0 0,.slice none 0 0,.string (⟨#[]⟩),.slice none 0 0,.slice none 0 0]
abbrev zC: Obj:=.cells zD.toArray 30
theorem ns{α:Type}{l:List α}:List.Sublist [] l:=List.nil_sublist l
theorem cN{α:Type}{l m:List α}{a:α}(h:l.Sublist m):l.Sublist (a::m):=.cons _ h
theorem cC{α:Type}{l m:List α}{a:α}(h:l.Sublist m):(a::l).Sublist (a::m):=.cons_cons _ h

def vl: List (Nat×Value)→Nat→Option Value
  | [], _ => none
  | (k, v) :: t, n => cond (Nat.beq k n) (some v) (vl t n)
def ev(l:List (Nat×Value)):Operand→Option Value
  | .tmp k => vl l k
  | .const v => some v
  | .global g => some (.pointer (some ⟨g, 0, none⟩))
  | .func f => some (.func (.func f) #[] #[])
def evs(l:List (Nat×Value)):List Operand→Option (List Value)
  | [] => some []
  | x :: xs => match ev l x, evs l xs with | some v, some vs => some (v :: vs) | _, _ => none
def evp(l:List (Nat×Value)):List (Nat×Operand)→Option (List (Nat×Value))
  | [] => some []
  | (i, x) :: xs => match ev l x, evp l xs with | some v, some vs => some ((i, v) :: vs) | _, _ => none
structure Sl(a:Act)(n:Nat)(l:List (Nat×Value)):Prop where
  size:a.tmps.size=n
  holds:∀k v,vl l k=some v→a.tmps[k]?=some v
  none_:a.defers=[]
section
variable {a:Act} {n:Nat} {l:List (Nat×Value)}
theorem Sl.ev(h:Sl a n l){x:Operand}{v:Value}(hx:ev l x=some v):a.eval x=v:=by
  cases x with
  | tmp k =>
    have:=h.holds k v hx;simp[Act.eval,Array.getD_eq_getD_getElem?,this]
  | const u => simpa [YtgjohjfehgdgbaaGreatDoor.G.ev, Act.eval] using hx
  | global g => simpa [YtgjohjfehgdgbaaGreatDoor.G.ev, Act.eval] using hx
  | func f => simpa [YtgjohjfehgdgbaaGreatDoor.G.ev, Act.eval] using hx
theorem Sl.evs(h:Sl a n l):∀{xs:List Operand} {vs:List Value},evs l xs=some vs→xs.map a.eval=vs:=by
  intro xs
  induction xs with
  | nil => intro vs hx; simp [YtgjohjfehgdgbaaGreatDoor.G.evs] at hx; simp [hx]
  | cons x xs ih =>
    intro vs hx;unfold YtgjohjfehgdgbaaGreatDoor.G.evs at hx
    split at hx
    · rename_i v us h1 h2;cases hx
      simp[h.ev h1,ih h2]
    · cases hx
theorem Sl.evp(h:Sl a n l):∀{xs:List (Nat×Operand)} {vs:List (Nat×Value)},evp l xs=some vs→xs.map (fun p=>(p.1,a.eval p.2))=vs:=by
  intro xs
  induction xs with
  | nil => intro vs hx; simp [YtgjohjfehgdgbaaGreatDoor.G.evp] at hx; simp [hx]
  | cons x xs ih =>
    intro vs hx;obtain⟨i,x⟩:=x;unfold YtgjohjfehgdgbaaGreatDoor.G.evp at hx
    split at hx
    · rename_i v us h1 h2;cases hx
      simp[h.ev h1,ih h2]
    · cases hx
theorem Sl.put(h:Sl a n l){d:Nat}(hd:Nat.blt d n=true)(v:Value):Sl (a.put (some d) v) n ((d,v)::l):=by
  refine⟨by simp[Act.put,h.size],fun k u hk=>?_,by simp[Act.put,h.none_]⟩;have hd':d<a.tmps.size:=by rw[h.size]; exact Nat.le_of_ble_eq_true hd
  unfold vl at hk;cases hb:Nat.beq d k with
  | true =>
    rw[hb]at hk;have:d=k:=Nat.eq_of_beq_eq_true hb;subst this;simp only[cond_true,Option.some.injEq]at hk;subst hk;simp[Act.put,Array.getElem?_setIfInBounds,hd']
  | false =>
    rw[hb]at hk;have hne:d≠k:=fun e=>(by rw[e,Nat.beq_refl]at hb; cases hb);simp only[cond_false]at hk;simp[Act.put,Array.getElem?_setIfInBounds,hne,h.holds k u hk]
theorem Sl.enter{args:List Value}{m:Nat}(hl:args.length≤m):Sl { tmps:=args.toArray++Array.replicate (m-args.toArray.size) undef,defers:=[] } m (args.zipIdx.map fun p=>(p.2,p.1)):=by
  refine⟨by simp; omega,fun k v hk=>?_,rfl⟩;have key:∀(xs:List Value) (o:Nat),vl ((xs.zipIdx o).map fun p=>(p.2,p.1)) k=some v→o≤k∧xs[k-o]?=some v:=by
    intro xs
    induction xs with
    | nil => intro o h; simp [vl] at h
    | cons x xs ih =>
      intro o h;simp only[List.zipIdx_cons,List.map_cons,vl]at h;cases hb:Nat.beq o k with
      | true =>
        rw[hb]at h;have:o=k:=Nat.eq_of_beq_eq_true hb;subst this;simp only[cond_true,Option.some.injEq]at h;simp[h]
      | false =>
        rw[hb]at h;have hne:o≠k:=fun e=>(by rw[e,Nat.beq_refl]at hb; cases hb);simp only[cond_false]at h;obtain⟨h1,h2⟩:=ih _ h;refine⟨by omega,?_⟩;have:k-o=(k-(o+1))+1:=(by omega);rw[this,List.getElem?_cons_succ];exact h2
  have h:=(key args 0 hk).2;simp only[Nat.sub_zero]at h;have hlt:k<args.length:=(List.getElem?_eq_some_iff.1 h).1;rw[Array.getElem?_append_left (by simpa using hlt)];simpa using h
def AllIn(l:List (Nat×Value)):List (Nat×Value)→Prop
  | [] => True
  | p :: t => vl l p.1 = some p.2 ∧ AllIn l t
theorem Sl.keep(h:Sl a n l)(l':List (Nat×Value))(hs:AllIn l l'):Sl a n l':=by
  refine⟨h.size,?_,h.none_⟩
  induction l' with
  | nil => intro k v hk; simp [vl] at hk
  | cons p t ih =>
    intro k v hk;obtain⟨d,u⟩:=p;unfold vl at hk;cases hb:Nat.beq d k with
    | true =>
      rw[hb]at hk;have:d=k:=Nat.eq_of_beq_eq_true hb;subst this;simp only[cond_true,Option.some.injEq]at hk;subst hk;exact h.holds _ _ hs.1
    | false =>
      rw[hb]at hk;exact ih hs.2 k v hk
theorem Sl.cut(h:Sl a n l)(l':List (Nat×Value))(hl:∀k v,vl l' k=some v→vl l k=some v):Sl a n l':=⟨h.size,fun k v hk=>h.holds k v (hl k v hk),h.none_⟩
end

def Does(P:Program)(l:List (Nat×Value))(o:Oper)(w:World)(v:Value)(w':World):Prop:=
  ∀ρ:Operand→Value,(∀x u,ev l x=some u→ρ x=u)→(execOp ρ o).run P w=.ok (.value v) w'
def Sets(P:Program)(l:List (Nat×Value))(o:Oper)(w:World)(w':World):Prop:=
  ∀ρ:Operand→Value,(∀x u,ev l x=some u→ρ x=u)→(execOp ρ o).run P w=.ok .skip w'
def Enters(P:Program)(l:List (Nat×Value))(o:Oper)(w:World)(f:FuncId)(vs:List Value):Prop:=
  ∀ρ:Operand→Value,(∀x u,ev l x=some u→ρ x=u)→(execOp ρ o).run P w=.ok (.enter f vs.toArray) w
def zb(l:List (Nat×Value))(ops:List Oper)(o:Oper):Bool:=
  match o.guard with
  | none => true
  | some (j, b) => match ops[j]? with
    | some oj => match oj.dst with
      | some d => match vl l d with
        | some (.bool b') => b' == b
        | _ => false
      | none => false
    | none => false
def qgb(l:List (Nat×Value))(ops:List Oper)(o:Oper):Bool:=
  match o.guard with
  | none => false
  | some (j, b) => match ops[j]? with
    | some oj => match oj.dst with
      | some d => match vl l d with
        | some (.bool b') => b' != b
        | _ => false
      | none => false
    | none => false
section
variable {P:Program} {ops:List Oper} {Q:Exit→Act→World→Prop} {a:Act} {w w':World} {n:Nat} {l:List (Nat×Value)} {o:Oper} {v:Value} {rest:List Oper}
theorem Sl.wanted(h:Sl a n l)(hp:zb l ops o=true):Region.wanted o (yielded ops.toArray a.tmps)=true:=by
  unfold Region.wanted;unfold zb at hp
  split at hp
  · rename_i hg; rw[hg]
  · rename_i j b hg;rw[hg]
    split at hp
    · rename_i oj hj
      split at hp
      · rename_i d hd
        split at hp
        · rename_i b' hb;have:=h.holds d _ hb;simp only[beq_iff_eq]at hp;simp[yielded,hj,hd,this,hp]
        · cases hp
      · cases hp
    · cases hp
theorem Sl.unwanted(h:Sl a n l)(hp:qgb l ops o=true):Region.wanted o (yielded ops.toArray a.tmps)=false:=by
  unfold Region.wanted;unfold qgb at hp
  split at hp
  · cases hp
  · rename_i j b hg;rw[hg]
    split at hp
    · rename_i oj hj
      split at hp
      · rename_i d hd
        split at hp
        · rename_i b' hb;have:=h.holds d _ hb;simp only[bne_iff_ne,ne_eq]at hp;simp[yielded,hj,hd,this,hp]
        · cases hp
      · cases hp
    · cases hp
theorem yb(hA:Sl a n l)(hg:zb l ops o=true){d:Nat}(hdst:o.dst=some d)(hd:Nat.blt d n=true)(he:Does P l o w v w')
    (hk:∀a',Sl a' n ((d,v)::l)→wpList P ops.toArray Q rest a' w'):wpList P ops.toArray Q (o::rest) a w:=by
  unfold wpList;rw[if_pos (hA.wanted hg)];refine .inl ?_;unfold Oper.wp;rw[he a.eval (fun x u hx=>hA.ev hx),Oper.upon_value,hdst];exact hk _ (hA.put hd v)
theorem qra(hA:Sl a n l)(hg:zb l ops o=true)(hdst:o.dst=none)(he:Sets P l o w w')
    (hk:wpList P ops.toArray Q rest a w'):wpList P ops.toArray Q (o::rest) a w:=by
  unfold wpList;rw[if_pos (hA.wanted hg)];refine .inl ?_;unfold Oper.wp;rw[he a.eval (fun x u hx=>hA.ev hx),Oper.upon_skip,hdst];exact hk
theorem qf(hA:Sl a n l)(hg:qgb l ops o=true){d:Nat}(hdst:o.dst=some d)(hd:Nat.blt d n=true)
    (hk:∀a',Sl a' n ((d,undef)::l)→wpList P ops.toArray Q rest a' w):wpList P ops.toArray Q (o::rest) a w:=by
  unfold wpList;rw[hA.unwanted hg,if_neg (by simp),hdst];exact hk _ (hA.put hd undef)
theorem qlg(hA:Sl a n l)(hg:zb l ops o=true){d:Nat}(hdst:o.dst=some d)(hd:Nat.blt d n=true){f:FuncId}{vs:List Value}(he:Enters P l o w f vs)
    {R:Ending→World→Prop} (hc:Calls P f vs.toArray w R)
    (hk:∀e w',R e w'→∃v,e=.returned v∧∀a',Sl a' n ((d,v)::l)→wpList P ops.toArray Q rest a' w'):wpList P ops.toArray Q (o::rest) a w:=by
  unfold wpList;rw[if_pos (hA.wanted hg)];refine .inl ?_;unfold Oper.wp;rw[he a.eval (fun x u hx=>hA.ev hx),Oper.upon_enter];refine hc.mono ?_;intro e w' hR;obtain⟨v,rfl,h⟩:=hk e w' hR;simp only[hdst];exact h _ (hA.put hd v)
theorem qa(hk:Q .normal a w):wpList P ops.toArray Q [] a w:=hk
variable {S:World→Prop} {md:Region.Mode} {fuel:Nat} {listed:Array Bool}
theorem qsb(hA:Sl a n l)(i:Nat)(hi:ops[i]?=some o)(hg:zb l ops o=true){d:Nat}(hdst:o.dst=some d)(hd:Nat.blt d n=true)(hs:Region.noSelect ops.toArray=true)(hf:Region.free md ops.toArray listed i=true)
    (hr:(Region.ready md ops.toArray listed).contains i=true) (hQ:∀c a w,Q (.panic c) (a.put o.dst v) w→Q (.panic c) a w) (hS:S w) (he:∀w,S w→Does P l o w v w)
    (hk:∀a',Sl a' n ((d,v)::l)→wpAnyH P md ops.toArray Q S fuel (listed.setIfInBounds i true) a' w):wpAnyH P md ops.toArray Q S (fuel+1) listed a w:=by
  refine wpAnyH_take (i:=i) (oi:=o) (v:=v) (by simpa using hi) hs hf hr hQ (Or.inl ⟨hA.wanted hg,fun w hw=>he w hw a.eval (fun x u hx=>hA.ev hx)⟩) hS ?_;rw[hdst];exact hk _ (hA.put hd v)
theorem qsc(hA:Sl a n l)(i:Nat)(hi:ops[i]?=some o)(hg:zb l ops o=true){d:Nat}(hdst:o.dst=some d)(hd:Nat.blt d n=true)(hP:∀c a d v w,Q (.panic c) (Act.put a d v) w→Q (.panic c) a w)(hS:S w)(he:∀w,S w→Does P l o w v w)
    (hk:∀a',Sl a' n ((d,v)::l)→wpAnyH P md ops.toArray Q S fuel (listed.setIfInBounds i true) a' w) (hs:Region.noSelect ops.toArray=true:=by kernel_rfl) (hf:Region.free md ops.toArray listed i=true:=by kernel_rfl) (hr:(Region.ready md ops.toArray listed).contains i=true:=by kernel_rfl):wpAnyH P md ops.toArray Q S (fuel+1) listed a w:=
  qsb hA i hi hg hdst hd hs hf hr (fun c a w h=>hP c a _ _ w h) hS he hk
theorem jbd(hA:Sl a n l)(i:Nat)(hi:ops[i]?=some o)(hg:zb l ops o=true){d:Nat}(hdst:o.dst=some d)(hd:Nat.blt d n=true)(he:Does P l o w v w')(hS:S w')
    (hk:∀a',Sl a' n ((d,v)::l)→wpAnyH P md ops.toArray Q S fuel (listed.setIfInBounds i true) a' w'):wpOp P ops.toArray Q i (fun a' w'=>S w'∧wpAnyH P md ops.toArray Q S fuel (listed.setIfInBounds i true) a' w') a w:=by
  unfold wpOp;simp only[List.getElem?_toArray,hi];rw[if_pos (hA.wanted hg)];refine .inl ?_;unfold Oper.wp;rw[he a.eval (fun x u hx=>hA.ev hx),Oper.upon_value,hdst];exact⟨hS,hk _ (hA.put hd v)⟩
theorem zmb(hA:Sl a n l)(i:Nat)(hi:ops[i]?=some o)(hg:zb l ops o=true)(hdst:o.dst=none)(he:Sets P l o w w')(hS:S w')
    (hk:wpAnyH P md ops.toArray Q S fuel (listed.setIfInBounds i true) a w'):wpOp P ops.toArray Q i (fun a' w'=>S w'∧wpAnyH P md ops.toArray Q S fuel (listed.setIfInBounds i true) a' w') a w:=by
  unfold wpOp;simp only[List.getElem?_toArray,hi];rw[if_pos (hA.wanted hg)];refine .inl ?_;unfold Oper.wp;rw[he a.eval (fun x u hx=>hA.ev hx),Oper.upon_skip,hdst];exact⟨hS,hk⟩
theorem xk(hA:Sl a n l)(i:Nat)(hi:ops[i]?=some o)(hg:zb l ops o=true){d:Nat}(hdst:o.dst=some d)(hd:Nat.blt d n=true)
    {f:FuncId} {vs:List Value} (he:Enters P l o w f vs) {R:Ending→World→Prop} (hc:Calls P f vs.toArray w R)
    (hk:∀e w',R e w'→∃v,e=.returned v∧S w'∧∀a',Sl a' n ((d,v)::l)→wpAnyH P md ops.toArray Q S fuel (listed.setIfInBounds i true) a' w'):wpOp P ops.toArray Q i (fun a' w'=>S w'∧wpAnyH P md ops.toArray Q S fuel (listed.setIfInBounds i true) a' w') a w:=by
  unfold wpOp;simp only[List.getElem?_toArray,hi];rw[if_pos (hA.wanted hg)];refine .inl ?_;unfold Oper.wp;rw[he a.eval (fun x u hx=>hA.ev hx),Oper.upon_enter];refine hc.mono ?_;intro e w' hR;obtain⟨v,rfl,h1,h2⟩:=hk e w' hR;simp only[hdst];exact⟨h1,h2 _ (hA.put hd v)⟩
theorem zm{i:Nat}(hr:Region.ready md ops.toArray listed=[i])(h:wpOp P ops.toArray Q i (fun a' w'=>S w'∧wpAnyH P md ops.toArray Q S fuel (listed.setIfInBounds i true) a' w') a w):wpAnyH P md ops.toArray Q S (fuel+1) listed a w:=
  wpAnyH_all hr (by simp) (fun j hj=>by rw[List.mem_singleton]at hj; subst hj; exact h)
theorem zx(hr:Region.ready md ops.toArray listed=[])(hk:Q .normal a w):wpAnyH P md ops.toArray Q S fuel listed a w:=wpAnyH_done hr hk fuel
end
def over: List Value→Nat→List Value→List Value
  | vs, _, [] => vs
  | vs, o, c :: cs => over (vs.set o c) (o + 1) cs
section
variable {P:Program} {w w':World}
structure IsS(P:Program)(t:TypeId)(n:Nat):Prop where
  und:∃fs,P.underlying t=some (.struct fs)
  size:(P.info? t).map (·.size)=some n
theorem ym{P:Program}{t:TypeId}{n:Nat}(h:(P.info? t).map (·.size)=some n):∃i,P.info? t=some i∧i.size=n:=by
  cases hi:P.info? t with
  | none => rw [hi] at h; cases h
  | some i => rw [hi] at h; exact ⟨i, rfl, by simpa using h⟩
structure Is1(P:Program)(t:TypeId):Prop where
  und:∃d,P.underlying t=some d∧(match d with | .struct _ | .array _ _=>false | _=>true)=true
  size:(P.info? t).map (·.size)=some 1
def FieldAt(P:Program)(s:TypeId)(f off:Nat):Prop:=∃fs fld,P.underlying s=some (.struct fs)∧fs[f]?=some fld∧fld.offset=off∧(P.info? fld.type).map (fun i=>Nat.beq i.size 0)=some false
theorem xt(g o j:Nat):(⟨g,o,none⟩:Addr).add j=⟨g,o+j,none⟩:=by unfold Addr.add; split<;>simp_all
theorem ko{t:TypeId}{n:Nat}(ht:IsS P t n){g o:Nat}(cs:List Value)(hl:cs.length=n)(hc:∀j v,cs[j]?=some v→w.cell? ⟨g,o+j,none⟩=some v):(loadVar t ⟨g,o,none⟩).run P w=.ok (.agg cs.toArray) w:=by
  obtain⟨fs,hu⟩:=ht.und;obtain⟨i,hi,hn⟩:=ym ht.size;have h1:(isAgg t).run P w=.ok true w:=by simp[isAgg,run_underlying hu]
  have h2:(sizeOf t).run P w=.ok cs.length w:=by simp[sizeOf,typeInfo,hi,hn,hl]
  have h3:=run_loadCells_list (P:=P) w ⟨g,o,none⟩ cs (fun j v hj=>by rw[xt]; exact hc j v hj);simp only[loadVar,Sem.run_bind,h1,Result.andThen_ok,if_true,h2,h3,Sem.run_pure]
theorem vw{t:TypeId}(ht:Is1 P t){a:Addr}{v:Value}(hc:w.cell? a=some v):(loadVar t a).run P w=.ok v w:=by
  obtain⟨d,hu,hd⟩:=ht.und;have h1:(isAgg t).run P w=.ok false w:=by
    cases d<;>first | (simp at hd; done) | simp[isAgg,run_underlying hu]
  simp only[loadVar,Sem.run_bind,h1,Result.andThen_ok,if_false,Bool.false_eq_true];simp[hc]
variable {l:List (Nat×Value)} {dst:Option Tmp} {ty:TypeId} {pos:String} {after:Array Edge} {guard:Option (Nat×Bool)} {v:Value}
theorem qx{x:Operand}(hx:ev l x=some v):Does P l ⟨dst,.move x,ty,pos,after,guard⟩ w v w:=fun ρ h=>by
  simp only[execOp,h x v hx]; rfl
theorem zk{x:Operand}(hx:ev l x=some v):Does P l ⟨dst,.assign x,ty,pos,after,guard⟩ w v w:=fun ρ h=>by
  simp only[execOp,h x v hx]; rfl
theorem jl{c x y:Operand}{b:Bool}{u u':Value}(hc:ev l c=some (.bool b))(hx:ev l x=some u)(hy:ev l y=some u')(hv:v=cond b u u'):Does P l ⟨dst,.pick c x y,ty,pos,after,guard⟩ w v w:=fun ρ h=>by
  subst hv;simp only[execOp,h c _ hc,h x _ hx,h y _ hy];cases b<;>rfl
theorem qi{x:Operand}{vs:List Value}{i:Nat}(hx:ev l x=some (.tuple vs.toArray))(hi:vs[i]?=some v):Does P l ⟨dst,.extract x i,ty,pos,after,guard⟩ w v w:=fun ρ h=>by
  simp only[execOp,h x _ hx,Instr.extract,List.getElem?_toArray,hi]; rfl
theorem xa{t:TypeId}{x:Operand}{a:Addr}(hx:ev l x=some (.pointer (some a)))(hr:(loadVar t a).run P w=.ok v w):Does P l ⟨dst,.load t x,ty,pos,after,guard⟩ w v w:=fun ρ h=>by
  simp only[execOp,h x _ hx,Instr.loadAt,Instr.sureAddr,Sem.run_bind,Sem.run_pure,Result.andThen_ok,hr]
theorem qe{s:TypeId}{x:Operand}{f g o off o':Nat}(hf:FieldAt P s f off)(hx:ev l x=some (.pointer (some ⟨g,o,none⟩)))(ho:o+off=o'):Does P l ⟨dst,.fieldAddr s x f,ty,pos,after,guard⟩ w (.pointer (some ⟨g,o',none⟩)) w:=fun ρ h=>by
  obtain⟨fs,fld,hu,hff,hoff,hm⟩:=hf;obtain⟨i,hi,hz⟩:∃i,P.info? fld.type=some i∧i.size≠0:=by
    cases hi:P.info? fld.type with
    | none => rw [hi] at hm; cases hm
    | some i =>
      rw[hi]at hm;refine⟨i,rfl,fun e=>?_⟩;simp[e]at hm
  subst ho;have h2:(sizeOf fld.type).run P w=.ok i.size w:=by simp[sizeOf,typeInfo,hi]
  simp only[execOp,h x _ hx,Instr.fieldAt,Sem.run_bind,run_underlying hu,Result.andThen_ok,hff,Instr.sureAddr,Sem.run_pure,fieldPlace,h2,if_neg hz,xt,hoff]
theorem zd{t:TypeId}{x:Operand}{u:Value}(hx:ev l x=some u){vs:List Value}(hc:u.cells=vs.toArray):Does P l ⟨dst,.box t x,ty,pos,after,guard⟩ w (.pointer (some ⟨w.heap.size,0,none⟩)) (w.alloc (.cells vs.toArray t)):=fun ρ h=>by
  simp only[execOp,h x _ hx,←hc]; rfl
theorem qk{t:TypeId}{z:Value}(hz:(P.info? t).map (·.zero)=some (some z)){vs:List Value}(hc:z.cells=vs.toArray):Does P l ⟨dst,.alloc t,ty,pos,after,guard⟩ w (.pointer (some ⟨w.heap.size,0,none⟩)) (w.alloc (.cells vs.toArray t)):=fun ρ h=>by
  cases hi:P.info? t with
  | none => rw [hi] at hz; cases hz
  | some i =>
    rw[hi]at hz;simp only[Option.map_some,Option.some.injEq]at hz;have h1:(zeroValue t).run P w=.ok z w:=(by simp[zeroValue,typeInfo,hi,hz]);simp only[execOp,Instr.alloc,Sem.run_bind,h1,Result.andThen_ok,←hc];rfl
theorem qs{t:TypeId}{parts:List (Nat×Operand)}{pv:List (Nat×Value)}(hp:evp l parts=some pv)(hb:∀w,(Instr.build t pv.toArray).run P w=.ok v w):Does P l ⟨dst,.build t parts.toArray,ty,pos,after,guard⟩ w v w:=fun ρ h=>by
  have e:parts.toArray.map (fun p=>(p.1,ρ p.2))=pv.toArray:=by
    simp only[List.map_toArray]
    congr 1
    have:∀(xs:List (Nat×Operand)) (vs:List (Nat×Value)),evp l xs=some vs→xs.map (fun p=>(p.1,ρ p.2))=vs:=by
      intro xs
      induction xs with
      | nil => intro vs hx; simp [evp] at hx; simp [hx]
      | cons x xs ih =>
        intro vs hx;obtain⟨i,x⟩:=x;unfold evp at hx
        split at hx
        · rename_i v us h1 h2;cases hx
          simp[h _ _ h1,ih _ h2]
        · cases hx
    exact this parts pv hp
  have e':(parts.toArray.map fun(i,x)=>(i,ρ x))=pv.toArray:=e;simp only[execOp,e',Sem.run_bind,hb w,Result.andThen_ok,Sem.run_pure]
theorem zp{t:TypeId}{n:Nat}{parts:List (Nat×Operand)}{pv:List (Nat×Value)}(hp:evp l parts=some pv){w':World}(hb:(Instr.buildSlice t n pv.toArray).run P w=.ok v w'):Does P l ⟨dst,.buildSlice t n parts.toArray,ty,pos,after,guard⟩ w v w':=fun ρ h=>by
  have e:parts.toArray.map (fun p=>(p.1,ρ p.2))=pv.toArray:=by
    simp only[List.map_toArray]
    congr 1
    have:∀(xs:List (Nat×Operand)) (vs:List (Nat×Value)),evp l xs=some vs→xs.map (fun p=>(p.1,ρ p.2))=vs:=by
      intro xs
      induction xs with
      | nil => intro vs hx; simp [evp] at hx; simp [hx]
      | cons x xs ih =>
        intro vs hx;obtain⟨i,x⟩:=x;unfold evp at hx
        split at hx
        · rename_i v us h1 h2;cases hx
          simp[h _ _ h1,ih _ h2]
        · cases hx
    exact this parts pv hp
  have e':(parts.toArray.map fun(i,x)=>(i,ρ x))=pv.toArray:=e;simp only[execOp,e',Sem.run_bind,hb,Result.andThen_ok,Sem.run_pure]
theorem zh{x:Operand}{t e:TypeId}{so:Option Addr}{n c:Nat}(hu:P.underlying t=some (.slice e))(hx:ev l x=some (.slice so n c)):Does P l ⟨dst,.call ⟨.builtin .len,#[x],#[t]⟩,ty,pos,after,guard⟩ w (.int .i64 n) w:=fun ρ h=>by
  have:=h x _ hx;simp[go_sem,this,Builtin.len_,run_underlying hu,goInt]
theorem qb{b:BinOp}{t t':TypeId}{x y:Operand}{u u':Value}(hx:ev l x=some u)(hy:ev l y=some u')(hr:∀w,(do eqGuard b t x y u u'; binOp b t u u':Sem Value).run P w=.ok v w):Does P l ⟨dst,.binOp b t x y t',ty,pos,after,guard⟩ w v w:=fun ρ h=>by
  simp only[execOp,h x _ hx,h y _ hy];rw[Sem.run_bind,hr w];rfl
theorem qp{b:UnOp}{t:TypeId}{x:Operand}{u:Value}(hx:ev l x=some u)(hr:∀w,(Op.unary b u).run P w=.ok v w):Does P l ⟨dst,.unOp b t x,ty,pos,after,guard⟩ w v w:=fun ρ h=>by
  simp only[execOp,h x _ hx,Sem.run_bind,hr w,Result.andThen_ok,Sem.run_pure]
theorem jk{x:Operand}{f:FuncId}{args:List Operand}{ts:Array TypeId}{vs:List Value}(hx:ev l x=some (.func (.func f) #[] #[]))(ha:evs l args=some vs)(hf:∀w,(invoke (.fn (.func f) #[]) vs.toArray).run P w=.ok (.enter f vs.toArray) w):
    Enters P l ⟨dst,.call ⟨.value x,args.toArray,ts⟩,ty,pos,after,guard⟩ w f vs:=fun ρ h=>by
  have e:args.map ρ=vs:=by
    have:∀(xs:List Operand) (vs:List Value),evs l xs=some vs→xs.map ρ=vs:=by
      intro xs
      induction xs with
      | nil => intro vs hx; simp [evs] at hx; simp [hx]
      | cons x xs ih =>
        intro vs hx;unfold evs at hx
        split at hx
        · rename_i v us h1 h2;cases hx
          simp[h _ _ h1,ih _ h2]
        · cases hx
    exact this args vs ha
  have:=hf w;simp[execOp,resolve,h x _ hx,Deferred.ofValue,e,this]
theorem zsi{ρ:Operand→Value}(h:∀x u,ev l x=some u→ρ x=u):∀(xs:List Operand) (vs:List Value),evs l xs=some vs→xs.map ρ=vs:=by
  intro xs
  induction xs with
  | nil => intro vs hx; simp [evs] at hx; simp [hx]
  | cons x xs ih =>
    intro vs hx;unfold evs at hx
    split at hx
    · rename_i v us h1 h2;cases hx
      simp[h _ _ h1,ih _ h2]
    · cases hx
theorem qjg{f:FuncId}{cs:List Operand}{vs:List Value}(hc:evs l cs=some vs):Does P l ⟨dst,.makeFunc (.func f) #[] cs.toArray,ty,pos,after,guard⟩ w (.func (.func f) #[] vs.toArray) w:=fun ρ h=>by
  have e:cs.map ρ=vs:=zsi h cs vs hc;simp[execOp,Instr.makeFunc,e]
end
section
variable {P:Program} {w w':World} {l:List (Nat×Value)} {v:Value}
def kb(P:Program)(l:List (Nat×Value))(w:World):ResultVar→Value→Prop
  | .tmp t, v => vl l t = some v
  | .cell c t, v => ∃ p, vl l c = some (.pointer (some p)) ∧ (loadVar t p).run P w = .ok v w
def AllRes(P:Program)(l:List (Nat×Value))(w:World):List ResultVar→List Value→Prop
  | [], [] => True
  | r :: rs, v :: vs => kb P l w r v ∧ AllRes P l w rs vs
  | _, _ => False
theorem AllRes.nil: AllRes P l w [] []:=trivial
theorem AllRes.cons{r:ResultVar}{v:Value}{rs:List ResultVar}{vs:List Value}(h:kb P l w r v)(t:AllRes P l w rs vs):AllRes P l w (r::rs) (v::vs):=⟨h,t⟩
variable {a:Act} {n:Nat} {fn:Func} {Z:Ending→World→Prop}
theorem qj{t:Tmp}(h:vl l t=some v):kb P l w (.tmp t) v:=h
def yd(tmps:Array Value):ResultVar→Sem Value
  | .tmp t => pure (tmps.getD t undef)
  | .cell c t => do loadVar t (← asAddr (tmps.getD c undef))
def qbi: List Value→Value
  | [x] => x
  | xs => .tuple xs.toArray
theorem Sl.res(hA:Sl a n l){r:ResultVar}(h:kb P l w r v):(yd a.tmps r).run P w=.ok v w:=by
  cases r with
  | tmp t =>
    have:=hA.holds t v h;simp[yd,Array.getD_eq_getD_getElem?,this]
  | cell c t =>
    obtain⟨p,hp,hr⟩:=h;have:=hA.holds c _ hp;simp[yd,Array.getD_eq_getD_getElem?,this,asAddr,hr]
theorem yt(hA:Sl a n l):∀(rs:List ResultVar) (vs:List Value),AllRes P l w rs vs→Sem.run P (rs.mapM (yd a.tmps)) w=.ok vs w
  | [], [], _ => by simp
  | [], _ :: _, h => h.elim
  | _ :: _, [], h => h.elim
  | r :: rs, v :: vs, h => by
    have e1:=hA.res h.1;have e2:=yt hA rs vs h.2;simp only[List.mapM_cons,Sem.run_bind,e1,Result.andThen_ok,e2,Sem.run_pure]
theorem qch(hA:Sl a n l){rs:List ResultVar}(hrs:fn.results=rs.toArray){vs:List Value}(hvs:AllRes P l w rs vs)(hv:qbi vs=v)(hz:Z (.returned v) w):bodyPost P fn Z .ret a w:=by
  refine⟨hA.none_,v,?_,hz⟩;have e:=yt hA rs vs hvs;subst hv;have e':results fn a.tmps=(do let us ← fn.results.mapM (yd a.tmps); pure (if h:us.size=1 then us[0]else .tuple us)):=by
    unfold results
    congr 1
  have e2:Sem.run P (List.toArray <$> rs.mapM (yd a.tmps)) w=.ok vs.toArray w:=by
    show Sem.run P (rs.mapM (yd a.tmps) >>= fun us=>pure us.toArray) w=_;rw[Sem.run_bind,e];rfl
  rw[e',hrs,List.mapM_toArray,Sem.run_bind,e2,Result.andThen_ok]
  match vs with
  | [] => simp [qbi]
  | [x] => simp [qbi]
  | x :: y :: r => simp [qbi]
theorem qn{f:FuncId}{fn:Func}{c:Code}{args:List Value}{n:Nat}{Z:Ending→World→Prop}(hf:P.funcs[f]?=some fn)(hb:fn.body=some c)(hn:fn.ntmps=n)(hl:Nat.ble args.length n=true)(hs:(args.zipIdx.map fun p=>(p.2,p.1))=l)
    (h:∀Q:Exit→Act→World→Prop,(∀a w,bodyPost P fn Z .ret a w→Q .ret a w)→(∀a w,bodyPost P fn Z .ret a w→Q .normal a w)→(∀c a d v w,Q (.panic c) (Act.put a d v) w→Q (.panic c) a w)→∀a,Sl a n l→c.wp P Q a w):Calls P f args.toArray w Z:=by
  subst hs;refine calls_of_wp hf hb (h _ (fun _ _ h=>h) (fun _ _ h=>h) (fun c a d v w h=>?_) _ ?_)
  · cases d<;>exact h
  · rw[hn];exact Sl.enter (Nat.le_of_ble_eq_true hl)
end
section
variable {P:Program} {w:World} {Q:Exit→Act→World→Prop} {a:Act} {c:Code}
theorem uh: ∀n m,n≤m→∀a w,Code.rounds P c Q n a w→Code.rounds P c Q m a w
  | 0, _, _, _, _, h => h.elim
  | n + 1, 0, hl, _, _, _ => by omega
  | n + 1, m + 1, hl, a, w, h => Code.wp_mono (fun e a w q => by
      cases e<;>first | exact uh n m (by omega) _ _ q | exact q) h
theorem jd(I:Nat→Act→World→Prop)(N:Nat)(h0:I N a w)(round:∀m a w,I m a w→∀K:Act→World→Prop,(∀m' a' w',m'<m→I m' a' w'→K a' w')→c.wp P (Exit.then K Q) a w):(Code.loop c).wp P Q a w:=by
  have key:∀m a w,I m a w→Code.rounds P c Q (m+1) a w:=by
    intro m
    induction m using Nat.strongRecOn with
    | _ m ih =>
      intro a w h;exact round m a w h _ (fun m' a' w' hm h'=>uh (m'+1) m (by omega) _ _ (ih m' hm a' w' h'))
  exact wp_loop_rounds (N+1) (key N a w h0)
end
section
variable {P:Program} {w w':World} {l:List (Nat×Value)} {dst:Option Tmp} {ty:TypeId} {pos:String} {after:Array Edge} {guard:Option (Nat×Bool)} {v:Value}
theorem ui{t:TypeId}{x i:Operand}{u u':Value}(hx:ev l x=some u)(hi:ev l i=some u')(hr:∀w,(Instr.indexAt t u u').run P w=.ok v w):Does P l ⟨dst,.indexAddr t x i,ty,pos,after,guard⟩ w v w:=fun ρ h=>by
  simp only[execOp,h x _ hx,h i _ hi,Sem.run_bind,hr w,Result.andThen_ok,Sem.run_pure]
theorem qkc{t e:TypeId}(hu:P.underlying t=some (.slice e))(he:(P.info? e).map (·.size)=some 1){g o n c k:Nat}(hk:k<n):∀w,(Instr.indexAt t (.slice (some ⟨g,o,none⟩) n c) (.int .i64 (k:Nat))).run P w=.ok (.pointer (some ⟨g,o+k,none⟩)) w:=fun w=>by
  obtain⟨i,hi,hs⟩:=ym he;have h2:(sizeOf e).run P w=.ok 1 w:=by simp[sizeOf,typeInfo,hi,hs]
  have h3:(0:Int)≤(k:Nat)∧((k:Nat):Int)<(n:Nat):=⟨by omega,by omega⟩;simp[Instr.indexAt,asIntOf,run_underlying hu,h2,h3,xt];intro h;omega
theorem zt{s d:TypeId}{x:Operand}{u:Value}(hx:ev l x=some u)(hr:∀w,(convert s d u).run P w=.ok v w):Does P l ⟨dst,.convert s d x,ty,pos,after,guard⟩ w v w:=fun ρ h=>by
  simp only[execOp,h x _ hx,Sem.run_bind,hr w,Result.andThen_ok,Sem.run_pure]
theorem qlh{b:Builtin}{xs:List Operand}{ts:Array TypeId}{vs:List Value}(hx:evs l xs=some vs)(hr:∀w cs,(builtin b ts ty cs vs.toArray).run P w=.ok (.value v) w):Does P l ⟨dst,.call ⟨.builtin b,xs.toArray,ts⟩,ty,pos,after,guard⟩ w v w:=fun ρ h=>by
  have e:xs.map ρ=vs:=by
    have:∀(xs:List Operand) (vs:List Value),evs l xs=some vs→xs.map ρ=vs:=by
      intro xs
      induction xs with
      | nil => intro vs hx; simp [evs] at hx; simp [hx]
      | cons x xs ih =>
        intro vs hx;unfold evs at hx
        split at hx
        · rename_i v us h1 h2;cases hx
          simp[h _ _ h1,ih _ h2]
        · cases hx
    exact this xs vs hx
  rw[BigFrame.execOp_builtin];simp only[List.map_toArray,e,hr]
end
section
variable {P:Program} {t:TypeId} {x y:Operand} {k:IntKind} {a b:Int}
theorem zs: ∀w,(do eqGuard .lss t x y (.int k a) (.int k b); binOp .lss t (.int k a) (.int k b):Sem Value).run P w=.ok (.bool (decide (a<b))) w:=fun w=>by simp[go_sem]
theorem jh: ∀w,(do eqGuard .leq t x y (.int k a) (.int k b); binOp .leq t (.int k a) (.int k b):Sem Value).run P w=.ok (.bool (decide (a≤b))) w:=fun w=>by simp[go_sem]
theorem zn: ∀w,(do eqGuard .gtr t x y (.int k a) (.int k b); binOp .gtr t (.int k a) (.int k b):Sem Value).run P w=.ok (.bool (decide (b<a))) w:=fun w=>by simp[go_sem]
theorem jc: ∀w,(do eqGuard .geq t x y (.int k a) (.int k b); binOp .geq t (.int k a) (.int k b):Sem Value).run P w=.ok (.bool (decide (b≤a))) w:=fun w=>by simp[go_sem]
theorem qg: ∀w,(do eqGuard .eql t x y (.int k a) (.int k b); binOp .eql t (.int k a) (.int k b):Sem Value).run P w=.ok (.bool (a==b)) w:=fun w=>by simp[go_sem]
theorem za: ∀w,(do eqGuard .neq t x y (.int k a) (.int k b); binOp .neq t (.int k a) (.int k b):Sem Value).run P w=.ok (.bool (a != b)) w:=fun w=>by simp[go_sem]
theorem xh(hu:P.underlying t=some .bool){c d:Bool}:∀w,(do eqGuard .eql t x y (.bool c) (.bool d); binOp .eql t (.bool c) (.bool d):Sem Value).run P w=.ok (.bool (c==d)) w:=fun w=>by
  simp[go_sem,hu,run_underlying hu]
theorem ze{c:Bool}:∀w,(Op.unary .not (.bool c)).run P w=.ok (.bool (!c)) w:=fun w=>by simp[go_sem]
end
section
variable {P:Program} {w:World} {Q:Exit→Act→World→Prop} {a:Act} {ops:List Oper} {S:World→Prop}
theorem jt{id:Nat}(hm:P.follows .mixedOrders=true)(h:wpAnyH P .any ops.toArray Q S ops.length (Array.replicate ops.length false) a w.drew):(Code.region id ops.toArray true).wp P Q a w:=
  wp_region_held (S:=S) hm (by simpa using h)
end
def qke(l:List (Nat×Value))(ops:List Oper)(o:Oper):Bool:=
  match o.guard with
  | none => false
  | some (j, b) => match ops[j]? with
    | some oj => match oj.dst with
      | some d => match vl l d with
        | some (.bool _) => false
        | some _ => true
        | none => false
      | none => false
    | none => false
section
variable {P:Program} {ops:List Oper} {Q:Exit→Act→World→Prop} {a:Act} {w w':World} {n:Nat} {l:List (Nat×Value)} {o:Oper} {v:Value} {rest:List Oper}
theorem Sl.unwantedU(h:Sl a n l)(hp:qke l ops o=true):Region.wanted o (yielded ops.toArray a.tmps)=false:=by
  unfold Region.wanted;unfold qke at hp
  split at hp
  · cases hp
  · rename_i j b hg;rw[hg]
    split at hp
    · rename_i oj hj
      split at hp
      · rename_i d hd
        split at hp
        · cases hp
        · rename_i v' hb hv;have:=h.holds d _ hv;cases v'<;>first | (exact absurd rfl (hb _)) | simp[yielded,hj,hd,this]
        · cases hp
      · cases hp
    · cases hp
theorem xx(hA:Sl a n l)(hg:qke l ops o=true){d:Nat}(hdst:o.dst=some d)(hd:Nat.blt d n=true)
    (hk:∀a',Sl a' n ((d,undef)::l)→wpList P ops.toArray Q rest a' w):wpList P ops.toArray Q (o::rest) a w:=by
  unfold wpList;rw[hA.unwantedU hg,if_neg (by simp),hdst];exact hk _ (hA.put hd undef)
end
section
variable {P:Program} {ops:List Oper} {Q:Exit→Act→World→Prop} {a:Act} {w w':World} {n:Nat} {l:List (Nat×Value)} {o:Oper} {v:Value} {rest:List Oper} {d:Nat}
theorem sdo(hA:Sl a n l)(he:Does P l o w v w')(hk:∀a',Sl a' n ((d,v)::l)→wpList P ops.toArray Q rest a' w')(hg:zb l ops o=true:=by rfl)(hdst:o.dst=some d:=by rfl)(hd:Nat.blt d n=true:=by rfl):wpList P ops.toArray Q (o::rest) a w:=yb hA hg hdst hd he hk
theorem sdm{x:Operand}{ty:TypeId}{pos:String}{after:Array Edge}{guard:Option (Nat×Bool)}(hA:Sl a n l)(hk:∀a',Sl a' n ((d,v)::l)→wpList P ops.toArray Q rest a' w)(hx:ev l x=some v:=by rfl)(hg:zb l ops ⟨some d,.move x,ty,pos,after,guard⟩=true:=by rfl)(hd:Nat.blt d n=true:=by rfl):wpList P ops.toArray Q (⟨some d,.move x,ty,pos,after,guard⟩::rest) a w:=sdo hA (qx hx) hk hg rfl hd
theorem sda{x:Operand}{ty:TypeId}{pos:String}{after:Array Edge}{guard:Option (Nat×Bool)}(hA:Sl a n l)(hk:∀a',Sl a' n ((d,v)::l)→wpList P ops.toArray Q rest a' w)(hx:ev l x=some v:=by rfl)(hg:zb l ops ⟨some d,.assign x,ty,pos,after,guard⟩=true:=by rfl)(hd:Nat.blt d n=true:=by rfl):wpList P ops.toArray Q (⟨some d,.assign x,ty,pos,after,guard⟩::rest) a w:=sdo hA (zk hx) hk hg rfl hd
theorem sdk{c x y:Operand}{b:Bool}{u u':Value}{ty:TypeId}{pos:String}{after:Array Edge}{guard:Option (Nat×Bool)}(hA:Sl a n l)(hk:∀a',Sl a' n ((d,v)::l)→wpList P ops.toArray Q rest a' w)(hc:ev l c=some (.bool b):=by rfl)(hx:ev l x=some u:=by rfl)(hy:ev l y=some u':=by rfl)(hv:v=cond b u u':=by rfl)(hg:zb l ops ⟨some d,.pick c x y,ty,pos,after,guard⟩=true:=by rfl)(hd:Nat.blt d n=true:=by rfl):wpList P ops.toArray Q (⟨some d,.pick c x y,ty,pos,after,guard⟩::rest) a w:=sdo hA (jl hc hx hy hv) hk hg rfl hd
abbrev pg(g:Nat):Value:=.pointer (some ⟨g,0,none⟩)
theorem wsk{x y:Code}(h:∀K:Act→World→Prop,(∀a w,y.wp P Q a w→K a w)→x.wp P (Exit.then K Q) a w):(Code.seq x y).wp P Q a w:=wp_seq_k h
theorem wrl{id:Nat}{l:List Oper}(h:wpList P l.toArray Q l a w):(Code.region id l.toArray false).wp P Q a w:=wp_region_lit h
theorem tf(b:Bool):b=true∨b=false:=Bool.eq_false_or_eq_true b
theorem ef{x:Operand}{f:FuncId}{args:List Operand}{ts:Array TypeId}{vs:List Value}{dst:Option Tmp}{ty:TypeId}{pos:String}{after:Array Edge}{guard:Option (Nat×Bool)}(hx:ev l x=some (.func (.func f) #[] #[]))(ha:evs l args=some vs)(hf:∀w,(invoke (.fn (.func f) #[]) vs.toArray).run P w=.ok (.enter f vs.toArray) w:=by exact fun w=>by kernel_rfl):Enters P l ⟨dst,.call ⟨.value x,args.toArray,ts⟩,ty,pos,after,guard⟩ w f vs:=jk hx ha hf
theorem sct{f:FuncId}{vs:List Value}(hA:Sl a n l)(he:Enters P l o w f vs){R:Ending→World→Prop}(hc:Calls P f vs.toArray w R)(hk:∀e w',R e w'→∃v,e=.returned v∧∀a',Sl a' n ((d,v)::l)→wpList P ops.toArray Q rest a' w')(hg:zb l ops o=true:=by rfl)(hdst:o.dst=some d:=by rfl)(hd:Nat.blt d n=true:=by rfl):wpList P ops.toArray Q (o::rest) a w:=qlg hA hg hdst hd he hc hk
theorem sdc{b:BinOp}{t t' ty:TypeId}{x y:Operand}{u u':Value}{c e:Bool}{pos:String}{after:Array Edge}{guard:Option (Nat×Bool)}(hA:Sl a n l)(hr:∀w,(do eqGuard b t x y u u'; binOp b t u u':Sem Value).run P w=.ok (.bool c) w)(h:c=e)(hk:∀a',Sl a' n ((d,.bool e)::l)→wpList P ops.toArray Q rest a' w)(hx:ev l x=some u:=by rfl)(hy:ev l y=some u':=by rfl)(hg:zb l ops ⟨some d,.binOp b t x y t',ty,pos,after,guard⟩=true:=by rfl)(hd:Nat.blt d n=true:=by rfl):wpList P ops.toArray Q (⟨some d,.binOp b t x y t',ty,pos,after,guard⟩::rest) a w:=sdo hA (qb hx hy (h▸hr)) hk hg rfl hd
variable {fn:Func} {Z:Ending→World→Prop} {r1 r2 r3:ResultVar} {v1 v2 v3:Value}
theorem en1(hA:Sl a n l)(hrs:fn.results=#[r1])(h1:kb P l w r1 v1)(hz:Z (.returned v1) w):bodyPost P fn Z .ret a w:=qch hA (rs:=[r1]) hrs (.cons h1 .nil) rfl hz
theorem en2(hA:Sl a n l)(hrs:fn.results=#[r1,r2])(h1:kb P l w r1 v1)(h2:kb P l w r2 v2)(hz:Z (.returned (.tuple #[v1,v2])) w):bodyPost P fn Z .ret a w:=qch hA (rs:=[r1,r2]) hrs (.cons h1 (.cons h2 .nil)) rfl hz
theorem en3(hA:Sl a n l)(hrs:fn.results=#[r1,r2,r3])(h1:kb P l w r1 v1)(h2:kb P l w r2 v2)(h3:kb P l w r3 v3)(hz:Z (.returned (.tuple #[v1,v2,v3])) w):bodyPost P fn Z .ret a w:=qch hA (rs:=[r1,r2,r3]) hrs (.cons h1 (.cons h2 (.cons h3 .nil))) rfl hz
end
section
variable {P:Program} {ops:List Oper} {Q:Exit→Act→World→Prop} {a:Act} {w w':World} {n:Nat} {l:List (Nat×Value)} {o:Oper} {v:Value} {d:Nat} {S:World→Prop} {md:Region.Mode} {fuel:Nat} {listed:Array Bool}
theorem ct{c:Operand}{x y:Code}(hA:Sl a n l)(h:x.wp P Q a w)(hx:ev l c=some (.bool true):=by rfl):(Code.cond c x y).wp P Q a w:=wp_cond_true (hA.ev hx) h
theorem cf{c:Operand}{x y:Code}(hA:Sl a n l)(h:y.wp P Q a w)(hx:ev l c=some (.bool false):=by rfl):(Code.cond c x y).wp P Q a w:=wp_cond_false (hA.ev hx) h
theorem atk(hA:Sl a n l)(i:Nat)(hi:ops[i]?=some o)(hP:∀c a d v w,Q (.panic c) (Act.put a d v) w→Q (.panic c) a w)(hS:S w)(he:∀w,S w→Does P l o w v w)(hk:∀a',Sl a' n ((d,v)::l)→wpAnyH P md ops.toArray Q S fuel (listed.setIfInBounds i true) a' w)(hg:zb l ops o=true:=by rfl)(hdst:o.dst=some d:=by rfl)(hd:Nat.blt d n=true:=by rfl)(hs:Region.noSelect ops.toArray=true:=by kernel_rfl)(hf:Region.free md ops.toArray listed i=true:=by kernel_rfl)(hr:(Region.ready md ops.toArray listed).contains i=true:=by kernel_rfl):wpAnyH P md ops.toArray Q S (fuel+1) listed a w:=qsc hA i hi hg hdst hd hP hS he hk hs hf hr
theorem amv{x:Operand}{ty:TypeId}{pos:String}{after:Array Edge}{guard:Option (Nat×Bool)}(hA:Sl a n l)(i:Nat)(hi:ops[i]?=some ⟨some d,.move x,ty,pos,after,guard⟩)(hP:∀c a d v w,Q (.panic c) (Act.put a d v) w→Q (.panic c) a w)(hS:S w)(hk:∀a',Sl a' n ((d,v)::l)→wpAnyH P md ops.toArray Q S fuel (listed.setIfInBounds i true) a' w)(hx:ev l x=some v:=by rfl)(hg:zb l ops ⟨some d,.move x,ty,pos,after,guard⟩=true:=by rfl)(hd:Nat.blt d n=true:=by rfl)(hs:Region.noSelect ops.toArray=true:=by kernel_rfl)(hf:Region.free md ops.toArray listed i=true:=by kernel_rfl)(hr:(Region.ready md ops.toArray listed).contains i=true:=by kernel_rfl):wpAnyH P md ops.toArray Q S (fuel+1) listed a w:=qsc hA i hi hg rfl hd hP hS (fun w _=>qx hx) hk hs hf hr
theorem dbK{b:BinOp}{t t' ty:TypeId}{x y:Operand}{u u':Value}{dst:Option Tmp}{pos:String}{after:Array Edge}{guard:Option (Nat×Bool)}(hx:ev l x=some u:=by rfl)(hy:ev l y=some u':=by rfl)(hr:∀w,(do eqGuard b t x y u u'; binOp b t u u':Sem Value).run P w=.ok v w:=by exact fun w=>by kernel_rfl):Does P l ⟨dst,.binOp b t x y t',ty,pos,after,guard⟩ w v w:=qb hx hy hr
variable {fn:Func} {Z:Ending→World→Prop} {r1:ResultVar} {v1:Value} {t:Tmp}
theorem wr1(hret:∀a w,bodyPost P fn Z .ret a w→Q .ret a w)(hA:Sl a n l)(hz:Z (.returned v1) w)(hrs:fn.results=#[.tmp t]:=by rfl)(h1:vl l t=some v1:=by rfl):Code.ret.wp P Q a w:=wp_ret (hret _ _ (qch hA (rs:=[.tmp t]) hrs (.cons (qj h1) .nil) rfl hz))
end
def BY: TypeId:=5
def BT: TypeId:=83
inductive Ck where
  | obj (g : Nat) (o : Obj)
  | row (e : TypeId) (sz : Nat) (v : Value) (n : Nat) (xs : List Value)
  | bld (b : Nat) (bs : List Value)
def Ck.holds(B:Nat)(w:World):Ck→Prop
  | .obj g o => B ≤ g ∧ w.heap[g]? = some o
  | .row e sz v n xs => w.ownsRow B e sz v n xs
  | .bld b bs => Lib.IsBuilderF BT BY B b bs w
def qff(o:Obj):Prop:=∀c fz,o≠.cells c BY fz
theorem xp{c:Array Value}{t:TypeId}{fz:Nat×Nat}(h:t≠BY):qff (.cells c t fz):=fun c' fz' e=>by cases e; exact h rfl
def Ap: Ck→Ck→Prop
  | .obj g _, .obj g' _ => g ≠ g'
  | .obj g _, .row _ _ v _ _ => v.ownBlock ≠ some g
  | .row _ _ v _ _, .obj g _ => v.ownBlock ≠ some g
  | .row _ _ v _ _, .row _ _ v' _ _ => v.ownBlock = none ∨ v.ownBlock ≠ v'.ownBlock
  | .obj g o, .bld b _ => g ≠ b ∧ qff o
  | .bld b _, .obj g o => g ≠ b ∧ qff o
  | .row e _ v _ _, .bld b _ => e ≠ BY ∧ v.ownBlock ≠ some b
  | .bld b _, .row e _ v _ _ => e ≠ BY ∧ v.ownBlock ≠ some b
  | .bld _ _, .bld _ _ => False
theorem Ap.symm{c d:Ck}(h:Ap c d):Ap d c:=by
  cases c with
  | obj g o => cases d with
    | obj g' o' => exact fun e => h e.symm
    | row e sz v n xs => exact h
    | bld b bs => exact h
  | row e sz v n xs => cases d with
    | obj g' o' => exact h
    | row e' sz' v' n' xs' =>
      rcases h with h | h
      · by_cases k:v'.ownBlock=none
        · exact .inl k
        · exact .inr (fun e=>k (e.trans h))
      · exact .inr (fun e=>h e.symm)
    | bld b bs => exact h
  | bld b bs => cases d <;> exact h
section
variable {B:Nat} {w w':World}
theorem qnj{k:Nat}{o:Obj}(hk:w.heap[k]?=some o)(hb:Below w.heap.size w w'):w'.heap[k]?=some o:=(hb.block k (Array.getElem?_eq_some_iff.1 hk).1).trans hk
theorem qgd{T e:TypeId}{b:Nat}{p:Value}{bs:List Value}(h:Lib.BuilderAtF T e B b p bs w)(hk:∀k o,w.heap[k]?=some o→(k=b∨∃c fz,o=.cells c e fz)→w'.heap[k]?=some o):Lib.BuilderAtF T e B b p bs w':=by
  obtain⟨hB,v,hbk,⟨h1,h2⟩,hne⟩:=h;refine⟨hB,v,hk _ _ hbk (.inl rfl),⟨h1,?_⟩,hne⟩;rcases h2 with h2 | ⟨g,cap,cur,fz,a,b',c,d⟩
  · exact .inl h2
  · exact .inr ⟨g,cap,cur,fz,a,b',hk _ _ c (.inr ⟨_,_,rfl⟩),d⟩
theorem qli{T e:TypeId}{b:Nat}{bs:List Value}(h:Lib.IsBuilderF T e B b bs w)(hk:∀k o,w.heap[k]?=some o→(k=b∨∃c fz,o=.cells c e fz)→w'.heap[k]?=some o):Lib.IsBuilderF T e B b bs w':=
  h.elim (fun x=>.inl (qgd x hk)) (fun x=>.inr (qgd x hk))
theorem qoa{e:TypeId}{size:Nat}{v:Value}{n:Nat}{xs:List Value}(h:w.ownsRow B e size v n xs)(hk:∀g cur,v.ownBlock=some g→w.heap[g]?=some (.cells cur e (0,0))→w'.heap[g]?=some (.cells cur e (0,0))):w'.ownsRow B e size v n xs:=by
  obtain⟨h1,h2⟩:=h;refine⟨h1,?_⟩;rcases h2 with h2 | ⟨g,cap,cur,a,b,c,d⟩
  · exact .inl h2
  · exact .inr ⟨g,cap,cur,a,b,hk g cur (by rw[a]; rfl) c,d⟩
theorem Ck.below{c:Ck}(h:c.holds B w)(hb:Below w.heap.size w w'):c.holds B w':=by
  cases c with
  | obj g o => exact ⟨h.1, qnj h.2 hb⟩
  | row e sz v n xs => exact qoa h (fun g cur _ hg => qnj hg hb)
  | bld b bs => exact qli h (fun k o hk _ => qnj hk hb)
def Ck.at_: Ck→Option Nat
  | .obj g _ => some g
  | .row _ _ v _ _ => v.ownBlock
  | .bld b _ => some b
theorem Ck.grown{c d:Ck}(hc:c.holds B w)(hd:d.holds B w)(hnb:∀b bs,d≠.bld b bs)(hap:Ap d c)(hg:w.grownBy w' d.at_):c.holds B w':=by
  have lt:∀{k:Nat} {o:Obj},w.heap[k]?=some o→k<w.heap.size:=fun h=>(Array.getElem?_eq_some_iff.1 h).1;cases c with
  | obj g o =>
    refine⟨hc.1,(hg.block g (lt hc.2) ?_).trans hc.2⟩;cases d with
    | obj g' o' => intro e; exact hap (Option.some.inj e).symm
    | row e sz v n xs => exact fun e => hap e.symm
    | bld b bs => exact absurd rfl (hnb b bs)
  | row e sz v n xs =>
    refine qoa hc (fun g cur hv hcur=>(hg.block g (lt hcur) ?_).trans hcur);cases d with
    | obj g' o' => intro e; exact hap (hv.trans e)
    | row e' sz' v' n' xs' =>
      intro e;rcases hap with k | k
      · rw[show(Ck.row e' sz' v' n' xs').at_=v'.ownBlock from rfl,k]at e; cases e
      · exact k (e.symm.trans hv.symm)
    | bld b bs => exact absurd rfl (hnb b bs)
  | bld b bs =>
    refine qli hc (fun k o hk hor=>(hg.block k (lt hk) ?_).trans hk);cases d with
    | obj g' o' =>
      intro e;have e':k=g':=Option.some.inj e;subst e';rcases hor with rfl | ⟨c,fz,rfl⟩
      · exact hap.1 rfl
      · have:=hd.2;rw[hk]at this;exact hap.2 c fz (Option.some.inj this).symm
    | row e' sz' v' n' xs' =>
      intro e;rcases hor with rfl | ⟨c,fz,rfl⟩
      · exact hap.2 e.symm
      · rcases hd.2 with⟨rfl,_⟩ | ⟨g,cap,cur,rfl,_,hgg,_⟩
        · cases e
        · cases e
          rw[hk]at hgg;cases hgg
          exact hap.1 rfl
    | bld b' bs' => exact absurd rfl (hnb b' bs')
theorem Ck.others{c:Ck}{b:Nat}{bs:List Value}(hc:c.holds B w)(hap:Ap (.bld b bs) c)(hk:Lib.OthersKept BY (some b) w w'):c.holds B w':=by
  cases c with
  | obj g o => exact ⟨hc.1, hk g o hc.2 (fun e => hap.1 (Option.some.inj e)) hap.2⟩
  | row e sz v n xs => exact qoa hc (fun g cur hv hcur => hk g _ hcur (fun e => hap.2 (hv.trans e)) (xp hap.1))
  | bld b' bs' => exact hap.elim
theorem Ck.lt{c:Ck}(h:c.holds B w):∀k,c.at_=some k→B≤k∧k<w.heap.size:=by
  cases c with
  | obj g o => intro k e; cases e; exact ⟨h.1, (Array.getElem?_eq_some_iff.1 h.2).1⟩
  | row e sz v n xs => exact h.lt
  | bld b bs =>
    intro k e;cases e
    rcases h with⟨hB,v,hb,_⟩ | ⟨hB,v,hb,_⟩<;>exact⟨hB,(Array.getElem?_eq_some_iff.1 hb).1⟩
end
structure Mg(w0 w:World)(L:List Ck):Prop where
  bel:Below w0.heap.size w0 w
  all:∀c∈L,c.holds w0.heap.size w
  dis:L.Pairwise Ap
def vk(L:List Ck):Prop:=∀c∈L,∀b bs,c≠.bld b bs
section
variable {w0 w w':World} {L:List Ck}
theorem Mg.start(w:World):Mg w w []:=⟨Below.refl _ _,by simp,.nil⟩
theorem Mg.call(h:Mg w0 w L)(hb:Below w.heap.size w w'):Mg w0 w' L:=⟨h.bel.trans (hb.mono h.bel.size),fun c hc=>Ck.below (h.all c hc) hb,h.dis⟩
theorem Mg.drew(h:Mg w0 w L):Mg w0 w.drew L:=h.call (Below.refl _ w).drew
theorem Mg.sub(h:Mg w0 w L){L':List Ck}(hs:L'.Sublist L):Mg w0 w L':=⟨h.bel,fun c hc=>h.all c (hs.subset hc),h.dis.sublist hs⟩
theorem Mg.perm(h:Mg w0 w L){L':List Ck}(hp:L.Perm L'):Mg w0 w L':=⟨h.bel,fun c hc=>h.all c (hp.mem_iff.2 hc),(hp.pairwise_iff (fun h=>Ap.symm h)).1 h.dis⟩
theorem Mg.has(h:Mg w0 w L)(k:Nat){c:Ck}(hk:L[k]?=some c):c.holds w0.heap.size w:=h.all _ (List.mem_of_getElem? hk)
theorem Mg.obj(h:Mg w0 w L)(k:Nat){g:Nat}{o:Obj}(hk:L[k]?=some (.obj g o)):w.heap[g]?=some o:=(h.has k hk).2
theorem jme{c c':Ck}{k:Nat}(hd:L.Pairwise Ap)(hk:L[k]?=some c)(hap:∀d∈L,Ap c d→Ap c' d):(L.set k c').Pairwise Ap:=by
  rw[List.pairwise_iff_getElem]at hd ⊢;obtain⟨hk1,hk2⟩:=List.getElem?_eq_some_iff.1 hk;intro i j hi hj hij;rw[List.length_set]at hi hj;rw[List.getElem_set,List.getElem_set];by_cases e:k=i
  · subst e;rw[if_pos rfl,if_neg (by omega)];have:=hd k j hi hj hij;rw[hk2]at this;exact hap _ (List.getElem_mem hj) this
  · rw[if_neg e];by_cases e':k=j
    · subst e';rw[if_pos rfl];have:=hd i k hi hj hij;rw[hk2]at this;exact(hap _ (List.getElem_mem hi) this.symm).symm
    · rw[if_neg e'];exact hd i j hi hj hij
theorem jmf{c c' d:Ck}{k:Nat}(hd:L.Pairwise Ap)(hk:L[k]?=some c)(h:d∈L.set k c'):d=c'∨(d∈L∧Ap c d):=by
  obtain⟨i,hi⟩:=List.mem_iff_getElem?.1 h;by_cases e:k=i
  · subst e;rw[List.getElem?_set_self (List.getElem?_eq_some_iff.1 hk).1]at hi;exact .inl (Option.some.inj hi).symm
  · rw[List.getElem?_set_ne e]at hi;refine .inr ⟨List.mem_of_getElem? hi,?_⟩;rw[List.pairwise_iff_getElem]at hd;obtain⟨hk1,hk2⟩:=List.getElem?_eq_some_iff.1 hk;obtain⟨hi1,hi2⟩:=List.getElem?_eq_some_iff.1 hi;rcases Nat.lt_or_gt_of_ne e with hlt | hlt
    · have:=hd k i hk1 hi1 hlt
      rwa [hk2,hi2]at this
    · have:=hd i k hi1 hk1 hlt;rw[hk2,hi2]at this;exact this.symm
theorem Mg.turn(h:Mg w0 w L)(k:Nat){c c':Ck}(hk:L[k]?=some c)(hnb:∀b bs,c≠.bld b bs)(hg:w.grownBy w' c.at_)(hc:c'.holds w0.heap.size w')(hap:∀d∈L,Ap c d→Ap c' d):Mg w0 w' (L.set k c'):=by
  have hh:=h.has k hk;refine⟨h.bel.grown hg h.bel.size (fun j hj=>(Ck.lt hh j hj).1),fun d hd=>?_,jme h.dis hk hap⟩;rcases jmf h.dis hk hd with rfl | ⟨hd,ha⟩
  · exact hc
  · exact Ck.grown (h.all d hd) hh hnb ha hg
theorem Mg.add(h:Mg w0 w L)(hb:Below w.heap.size w w'){c:Ck}(hc:c.holds w0.heap.size w')(hf:∀k,c.at_=some k→w.heap.size≤k)(hq:(∃g o,c=.obj g o∧qff o)∨(∃e sz v n xs,c=.row e sz v n xs∧(e≠BY∨vk L))∨(∃b bs,c=.bld b bs∧∀d∈L,(∃g o,d=.obj g o∧qff o)∨∃e sz v n xs,d=.row e sz v n xs∧e≠BY)):Mg w0 w' (c::L):=by
  have h2:=h.call hb;refine⟨h2.bel,fun d hd=>?_,List.pairwise_cons.2 ⟨fun d hd=>?_,h2.dis⟩⟩
  · rcases List.mem_cons.1 hd with rfl | hd
    · exact hc
    · exact h2.all d hd
  · have hl:=Ck.lt (h.all d hd);rcases hq with⟨g,o,rfl,hq⟩ | ⟨e,sz,v,n,xs,rfl,hq⟩ | ⟨b,bs,rfl,hq⟩
    · have hg:=hf g rfl;cases d with
      | obj g' o' => intro e; subst e; have := (hl g rfl).2; omega
      | row e' sz' v' n' xs' => intro e; have := (hl g e).2; omega
      | bld b' bs' => exact ⟨fun e => by subst e; have := (hl g rfl).2; omega, hq⟩
    · cases d with
      | obj g' o' => intro e; have := hf g' e; have := (hl g' rfl).2; omega
      | row e' sz' v' n' xs' =>
        by_cases k:v.ownBlock=none
        · exact .inl k
        · right;intro e;obtain⟨g,hg⟩:=Option.ne_none_iff_exists'.1 k;have:=hf g hg;have:=(hl g (e.symm.trans hg)).2;omega
      | bld b' bs' =>
        refine⟨?_,fun e=>?_⟩
        · rcases hq with hq | hq
          · exact hq
          · exact absurd rfl (hq _ hd b' bs')
        · have:=hf b' e; have:=(hl b' rfl).2; omega
    · have hg:=hf b rfl;rcases hq d hd with⟨g',o',rfl,hq⟩ | ⟨e',sz',v',n',xs',rfl,hq⟩
      · exact⟨fun e=>by subst e; have:=(hl g' rfl).2; omega,hq⟩
      · exact⟨hq,fun e=>by have:=(hl b e).2; omega⟩
theorem Mg.addObj(h:Mg w0 w L)(o:Obj)(hq:qff o):Mg w0 (w.alloc o) (.obj w.heap.size o::L):=
  h.add ((Below.refl _ w).alloc (Nat.le_refl _) _) ⟨h.bel.size,heap_alloc_new w o⟩ (fun k e=>by cases e; exact Nat.le_refl _) (.inl ⟨_,_,rfl,hq⟩)
theorem Mg.cell(h:Mg w0 w L)(k:Nat){g:Nat}{vs:List Value}{t:TypeId}(hk:L[k]?=some (.obj g (.cells vs.toArray t)))(i:Nat){v:Value}(hi:vs[i]?=some v):w.cell? ⟨g,i,none⟩=some v:=by
  rw[cell_of_row w g i vs.toArray t (0,0) (h.obj k hk)];simpa using hi
theorem Mg.froz(h:Mg w0 w L)(k:Nat){g:Nat}{vs:List Value}{t:TypeId}(hk:L[k]?=some (.obj g (.cells vs.toArray t)))(i:Nat):w.frozen? ⟨g,i,none⟩=false:=frozen_of_row w g i vs.toArray t (h.obj k hk)
theorem Mg.put(h:Mg w0 w L)(k:Nat){g:Nat}{vs:List Value}{t:TypeId}(hk:L[k]?=some (.obj g (.cells vs.toArray t)))(i:Nat)(v:Value):Mg w0 (w.setCell ⟨g,i,none⟩ v) (L.set k (.obj g (.cells (vs.set i v).toArray t))):=by
  refine h.turn k hk (by simp) ⟨rfl,rfl,rfl,by simp,fun j hj hne=>Below.heap_setCell w ⟨g,i,none⟩ v j (fun e=>hne (by rw[e]; rfl))⟩ ⟨(h.has k hk).1,?_⟩ (fun d _ ha=>?_)
  · have:=heap_setCell_same w g i vs.toArray t v (h.obj k hk);simpa using this
  · cases d with
    | obj g' o' => exact ha
    | row e' sz' v' n' xs' => exact ha
    | bld b' bs' => exact ⟨ha.1, fun c fz e => by cases e; exact ha.2 _ _ rfl⟩
theorem Mg.puts{g:Nat}{t:TypeId}:∀(cs:List Value) (w:World) (L:List Ck) (vs:List Value) (o:Nat),Mg w0 w L→∀k,L[k]?=some (.obj g (.cells vs.toArray t))→Mg w0 (w.setCells g o cs) (L.set k (.obj g (.cells (over vs o cs).toArray t)))
  | [], w, L, vs, o, h, k, hk => by
    have:L.set k (.obj g (.cells (over vs o []).toArray t))=L:=by
      apply List.ext_getElem?;intro i;by_cases hi:k=i
      · subst hi;rw[List.getElem?_set_self (List.getElem?_eq_some_iff.1 hk).1,hk];rfl
      · rw[List.getElem?_set_ne hi]
    rw[this];exact h
  | c :: cs, w, L, vs, o, h, k, hk => by
    have h1:=h.put k hk o c;have hk1:(L.set k (.obj g (.cells (vs.set o c).toArray t)))[k]?=some (.obj g (.cells (vs.set o c).toArray t)):=List.getElem?_set_self (List.getElem?_eq_some_iff.1 hk).1;have h2:=Mg.puts cs _ _ (vs.set o c) (o+1) h1 k hk1;rw[List.set_set]at h2;exact h2
end
section
variable {P:Program} {w0 w:World} {L:List Ck} {l:List (Nat×Value)} {dst:Option Tmp} {ty:TypeId} {pos:String} {after:Array Edge} {guard:Option (Nat×Bool)} {v:Value}
theorem qt(hM:Mg w0 w L){t:TypeId}(ht:Is1 P t){x:Operand}{g o:Nat}(hx:ev l x=some (.pointer (some ⟨g,o,none⟩)))(k:Nat){vs:List Value}{e:TypeId}(hk:L[k]?=some (.obj g (.cells vs.toArray e)))(hv:vs[o]?=some v):
    Does P l ⟨dst,.load t x,ty,pos,after,guard⟩ w v w:=xa hx (vw ht (hM.cell k hk o hv))
theorem xn(hM:Mg w0 w L){t:TypeId}{n:Nat}(ht:IsS P t n){x:Operand}{g o:Nat}(hx:ev l x=some (.pointer (some ⟨g,o,none⟩)))(k:Nat){vs cs:List Value}{e:TypeId}(hk:L[k]?=some (.obj g (.cells vs.toArray e)))(hcs:(vs.drop o).take n=cs)(hl:cs.length=n):
    Does P l ⟨dst,.load t x,ty,pos,after,guard⟩ w (.agg cs.toArray) w:=
  xa hx (ko ht cs hl (fun j v hj=>hM.cell k hk (o+j) (by
    have hjn:j<n:=(by rw[←hl]; exact(List.getElem?_eq_some_iff.1 hj).1);rw[←hcs,List.getElem?_take,if_pos hjn,List.getElem?_drop]at hj;exact hj)))
theorem qw{t:TypeId}{x y:Operand}{g o:Nat}{u:Value}{cs:List Value}(hx:ev l x=some (.pointer (some ⟨g,o,none⟩)))(hy:ev l y=some u)(hc:u.cells=cs.toArray)(hn:(P.info? t).map (·.size)=some cs.length)
    (hM:Mg w0 w L) (k:Nat) {vs:List Value} {e:TypeId} (hk:L[k]?=some (.obj g (.cells vs.toArray e))) (hl:Nat.ble (o+cs.length) vs.length=true) (h1:cs.all Value.oneCell'=true):Sets P l ⟨dst,.store t x y,ty,pos,after,guard⟩ w (w.setCells g o cs):=fun ρ h=>by
  obtain⟨i,hi,hsz⟩:=ym hn;have hl':o+cs.length≤vs.length:=Nat.le_of_ble_eq_true hl;have h2:(sizeOf t).run P w=.ok cs.length w:=by simp[sizeOf,typeInfo,hi,hsz]
  have h3:=run_storeCells_cells (P:=P) g o cs 0 w (fun j hj=>by
      have hlt:o+0+j<vs.length:=(by omega);rw[hM.cell k hk (o+0+j) (v:=vs[o+0+j]) (List.getElem?_eq_getElem hlt)]; rfl) (fun j hj=>hM.froz k hk _) (fun v hv=>List.all_eq_true.1 h1 v hv)
  rw[Nat.add_zero]at h3;have h4:u.cells.toList=cs:=by rw[hc]
  simp only[execOp,h x _ hx,h y _ hy,Instr.storeAt,Instr.sureAddr,Sem.run_bind,Sem.run_pure,Result.andThen_ok,storeVar,h2,hc,List.size_toArray,ne_eq,not_true_eq_false,if_false,List.toList_toArray,h3]
section
variable {ops:List Oper} {Q:Exit→Act→World→Prop} {a:Act} {n:Nat} {o:Oper} {rest:List Oper} {d:Nat}
theorem xq(hA:Sl a n l)(hM:Mg w0 w L)(hg:zb l ops o=true)(hdst:o.dst=some d)(hd:Nat.blt d n=true){vs:List Value}{t:TypeId}(val:Nat→Value)(he:Does P l o w (val w.heap.size) (w.alloc (.cells vs.toArray t)))(ht:t≠BY)
    (hk:∀g w',Mg w0 w' (.obj g (.cells vs.toArray t)::L)→∀a',Sl a' n ((d,val g)::l)→wpList P ops.toArray Q rest a' w'):wpList P ops.toArray Q (o::rest) a w:=
  yb hA hg hdst hd he (hk _ _ (hM.addObj _ (xp ht)))
theorem zi(hA:Sl a n l)(hM:Mg w0 w L)(hg:zb l ops o=true)(hdst:o.dst=none){g q:Nat}{cs vs us:List Value}{e:TypeId}(he:Sets P l o w (w.setCells g q cs))(k:Nat)(hk0:L[k]?=some (.obj g (.cells vs.toArray e)))(hus:over vs q cs=us){L':List Ck}(hL:L.set k (.obj g (.cells us.toArray e))=L')
    (hk:∀w',Mg w0 w' L'→wpList P ops.toArray Q rest a w'):wpList P ops.toArray Q (o::rest) a w:=
  qra hA hg hdst he (hk _ (by subst hus hL; exact Mg.puts cs w L vs q hM k hk0))
end
end
theorem vx{P:Program}{w0 w:World}{L:List Ck}{l:List (Nat×Value)}{v:Value}(hM:Mg w0 w L){c:Tmp}{t:TypeId}(ht:Is1 P t){g o:Nat}(hx:vl l c=some (.pointer (some ⟨g,o,none⟩)))(k:Nat){vs:List Value}{e:TypeId}(hk:L[k]?=some (.obj g (.cells vs.toArray e)))(hv:vs[o]?=some v):kb P l w (.cell c t) v:=
  ⟨_,hx,vw ht (hM.cell k hk o hv)⟩
theorem jmg{P:Program}{t:TypeId}(h:P.underlying t=some .string){ty:TypeId}{s:ByteArray}:∀w cs,(builtin .len #[t] ty cs #[.string s]).run P w=.ok (.value (.int .i64 ((s.size:Nat):Int))) w:=fun w cs=>by
  simp[go_sem,Builtin.len_,run_underlying h,goInt]
section
variable {P:Program} {w0 w:World} {L:List Ck} {l:List (Nat×Value)} {ops:List Oper} {Q:Exit→Act→World→Prop} {a:Act} {n:Nat} {o:Oper} {S:World→Prop} {md:Region.Mode} {fuel:Nat} {listed:Array Bool}
end
def jbf: Ck→Prop
  | .obj _ o => qff o
  | .row e _ _ _ _ => e ≠ BY
  | .bld _ _ => False
theorem qae: ∀d∈([]:List Ck),jbf d:=by intro d hd; cases hd
theorem gcl{P:Program}{ops:List Oper}{Q:Exit→Act→World→Prop}{a:Act}{w0 w:World}{L:List Ck}{n:Nat}{l:List (Nat×Value)}{o:Oper}{v:Value}{rest:List Oper}{d:Nat}{f:FuncId}{vs:List Value}(hA:Sl a n l)(hM:Mg w0 w L)(he:Enters P l o w f vs)(hc:Calls P f vs.toArray w (fun e w'=>e=.returned v∧Below w.heap.size w w'))(hk:∀w',Below w.heap.size w w'→Mg w0 w' L→∀a',Sl a' n ((d,v)::l)→wpList P ops.toArray Q rest a' w')(hg:zb l ops o=true:=by rfl)(hdst:o.dst=some d:=by rfl)(hd:Nat.blt d n=true:=by rfl):wpList P ops.toArray Q (o::rest) a w:=by
  refine qlg hA hg hdst hd he hc ?_;rintro _ w' ⟨rfl,hb⟩;exact⟨_,rfl,hk w' hb (hM.call hb)⟩
open Go.RowKit Go.Lib
def uR(r q:Nat):Int:=if r=65533∧q≠3 then -1 else(r:Int)
def yf: Nat→Nat→List UInt8→List (Int×Int)
  | 0, _, _ => []
  | f + 1, p, l => if l = [] then [] else ((p : Int), uR (decodeL l).1 (decodeL l).2) :: yf f (p + (decodeL l).2) (l.drop (decodeL l).2)
def xb(l:List UInt8):List (Int×Int):=yf l.length 0 l
theorem yp(l:List UInt8)(hl:l≠[]):1≤(decodeL l).2∧(decodeL l).2≤l.length:=by
  have h0:0<l.length:=List.length_pos_iff.2 hl;rw[decodeL_N];generalize (l.getD 0 0).toNat=b0;generalize (l.getD 1 0).toNat=b1;generalize (l.getD 2 0).toNat=b2;generalize (l.getD 3 0).toNat=b3;unfold decodeN;repeat' split
  all_goals (simp only; omega)
theorem qph: ∀(f g p:Nat) (l:List UInt8),l.length≤f→l.length≤g→yf f p l=yf g p l
  | 0, 0, _, _, _, _ => rfl
  | 0, g + 1, p, l, h, _ => by
    have:l=[]:=List.length_eq_zero_iff.1 (by omega);simp[yf,this]
  | f + 1, 0, p, l, _, h => by
    have:l=[]:=List.length_eq_zero_iff.1 (by omega);simp[yf,this]
  | f + 1, g + 1, p, l, h1, h2 => by
    unfold yf;by_cases hl:l=[]
    · rw[if_pos hl,if_pos hl]
    · rw[if_neg hl,if_neg hl];have:=yp l hl;rw[qph f g _ _ (by rw[List.length_drop]; omega) (by rw[List.length_drop]; omega)]
theorem uk(s:ByteArray):s.data.toList.length=s.size:=by rw[Array.length_toList]; rfl
theorem qse(l:List UInt8):((decodeL l).1:Int)≤1114111∧¬(55296≤(decodeL l).1∧(decodeL l).1≤57343):=by
  rw[decodeL_N];have k0:=(l.getD 0 0).toNat_lt;generalize (l.getD 0 0).toNat=b0 at *
  generalize (l.getD 1 0).toNat=b1;generalize (l.getD 2 0).toNat=b2;generalize (l.getD 3 0).toNat=b3;unfold decodeN;repeat' split
  all_goals (simp only; omega)
section
variable {σ:Type} {step:σ→Int→Int→σ×Bool} {s:σ} {at_ r:Int} {us:List (Int×Int)}
end
section
variable {P:Program} {w:World} {l:List (Nat×Value)} {dst:Option Tmp} {ty:TypeId} {pos:String} {after:Array Edge} {guard:Option (Nat×Bool)}
end
theorem jud(x y:Nat)(hx:x<2147483648)(hy:y<2147483648):bits .or .i32 (x:Int) (y:Int)=((x ||| y:Nat):Int):=by
  have h1:x ||| y<2^31:=Nat.or_lt_two_pow (n:=31) hx hy;have h2:(2:Nat)^31=2147483648:=rfl;have e:(BitVec.ofInt IntKind.i32.bits (x:Int) ||| BitVec.ofInt IntKind.i32.bits (y:Int)).toNat=x ||| y:=by
    rw[BitVec.ofInt_natCast,BitVec.ofInt_natCast,BitVec.toNat_or,BitVec.toNat_ofNat,BitVec.toNat_ofNat];show x%4294967296 ||| y%4294967296=_;rw[Nat.mod_eq_of_lt (by omega),Nat.mod_eq_of_lt (by omega)]
  show IntKind.i32.wrap ((BitVec.ofInt IntKind.i32.bits (x:Int) ||| BitVec.ofInt IntKind.i32.bits (y:Int)).toNat:Int)=_;rw[e];exact in_i32 (by omega) (by omega)
theorem qeb(l:List UInt8)(p i:Nat):(l.drop p).getD i 0=l.getD (p+i) 0:=getD_dropU l p i
structure Rb(w:World)(so:Option Addr)(l:List UInt8):Prop where
  pos:l≠[]→∃b off,so=some ⟨b,off,none⟩∧b<w.heap.size∧∀j,j<l.length→w.cell? ⟨b,off+j,none⟩=some (.int .u8 (((l.getD j 0).toNat:Nat):Int))
theorem Rb.below{w w':World}{so:Option Addr}{l:List UInt8}(h:Rb w so l)(hb:Below w.heap.size w w'):Rb w' so l:=by
  refine⟨fun hne=>?_⟩;obtain⟨b,off,h1,h2,h3⟩:=h.pos hne;exact⟨b,off,h1,Nat.lt_of_lt_of_le h2 hb.size,fun j hj=>(hb.cell (by exact h2)).trans (h3 j hj)⟩
section
variable {P:Program} {w:World} {l:List (Nat×Value)} {dst:Option Tmp} {ty:TypeId} {pos:String} {after:Array Edge} {guard:Option (Nat×Bool)} {v:Value}
end
section
variable {P:Program} {w0 w:World} {L:List Ck} {l:List (Nat×Value)} {ops:List Oper} {Q:Exit→Act→World→Prop} {a:Act} {n:Nat} {o:Oper} {rest:List Oper} {d:Nat}
theorem jyh(hA:Sl a n l)(hM:Mg w0 w L)(hg:zb l ops o=true)(hdst:o.dst=some d)(hd:Nat.blt d n=true){vs:List Value}{m:Nat}(he:Does P l o w (.slice (some ⟨w.heap.size,0,none⟩) m m) (w.alloc (.cells vs.toArray BY)))(hm:vs.length=m)(hle:Nat.ble m 1000=true)(hnb:vk L)
    (hk:∀g w',Mg w0 w' (.row BY 1 (.slice (some ⟨g,0,none⟩) m m) m vs::L)→∀a',Sl a' n ((d,.slice (some ⟨g,0,none⟩) m m)::l)→wpList P ops.toArray Q rest a' w'):wpList P ops.toArray Q (o::rest) a w:=by
  refine yb hA hg hdst hd he (hk _ _ (hM.add ((Below.refl _ w).alloc (Nat.le_refl _) _) ?_ (fun k e=>?_) (.inr (.inl ⟨_,_,_,_,_,rfl,.inr hnb⟩))))
  · have:=World.ownsRow_lit (base:=w0.heap.size) (e:=BY) (size:=1) w vs.toArray m hM.bel.size (by unfold maxLen; have:=Nat.le_of_ble_eq_true hle; omega) (by simp[hm]);simpa[Ck.holds]using this
  · simp[Ck.at_,Value.ownBlock]at e;omega
theorem jbg{t ty:TypeId}{x y:Operand}{dst:Option Tmp}{pos:String}{after:Array Edge}{guard:Option (Nat×Bool)}(ht:P.underlying t=some (.slice BY))(hinfo:(P.info? BY).map (fun i=>(i.zero,i.size,i.bytes))=some (some (.int .u8 0),1,1))(hM:Mg w0 w L)(k:Nat){v:Value}{q:Nat}{xs:List Value}(hk:L[k]?=some (.row BY 1 v q xs))(hx:ev l x=some v)(j:Nat){b m c2:Nat}{news:List Value}(hj:L[j]?=some (.row BY 1 (.slice (some ⟨b,0,none⟩) m c2) m news))(hy:ev l y=some (.slice (some ⟨b,0,none⟩) m c2))(h1:news.all Value.oneCell'=true)(hm:Nat.ble 1 m=true)(hlen:q+m≤1000000000):
    ∃v' w',Does P l ⟨dst,.call ⟨.builtin .append,#[x,y],#[t,t]⟩,ty,pos,after,guard⟩ w v' w'∧Mg w0 w' (L.set k (.row BY 1 v' (q+m) (xs++news))):=by
  obtain⟨i,hi,hzz⟩:=Option.map_eq_some_iff.1 hinfo;simp only[Prod.mk.injEq]at hzz;obtain⟨hz,hs,hb⟩:=hzz;have hrow:=hM.has k hk;have hnew:=hM.has j hj;have hnl:news.length=m*1:=hnew.1;obtain⟨g,cap,w',hr,hown,hgr,hat,hlt⟩:=run_append_lies (P:=P) w t ty w0.heap.size BY i (.int .u8 0) 1 1 ht hi hz hs hb rfl (by decide) v q xs hrow ⟨b,0,none⟩ m c2 news hnl (fun p u hp=>by
      have hlt:p<news.length:=(List.getElem?_eq_some_iff.1 hp).1;rw[xt,Nat.zero_add,World.ownsRow.cellAt hnew p (by omega)];exact hp) (fun u hu=>List.all_eq_true.1 h1 u hu) (Nat.le_of_ble_eq_true hm) (by unfold maxLen; omega) (by omega) hM.bel.size w.heap.size rfl
  refine⟨.slice (some ⟨g,0,none⟩) (q+m) cap,w',fun ρ h=>?_,hM.turn k hk (by simp) hgr hown (fun d hd ha=>?_)⟩
  · simp[execOp,resolve,invoke,builtin,h x _ hx,h y _ hy,hr]
  · have hl:=Ck.lt (hM.all d hd);have key:∀z,d.at_=some z→v.ownBlock≠some z→g≠z:=fun z hz hne e=>by
      subst e;rcases hat with h | h
      · exact hne h
      · have:=(hl g hz).2; omega
    cases d with
    | obj g' o' => exact fun e => key g' rfl ha (by simpa [Value.ownBlock] using e)
    | row e' sz' v' n' xs' =>
      right;intro e;have e2:v'.ownBlock=some g:=e.symm;rcases ha with ha | ha
      · exact key g e2 (by rw[ha]; simp) rfl
      · exact key g e2 (fun h=>ha (h.trans e2.symm)) rfl
    | bld b' bs' => exact ⟨ha.1, fun e => key b' rfl ha.2 (by simpa [Value.ownBlock] using e)⟩
theorem zfc(hA:Sl a n l)(hg:zb l ops o=true)(hdst:o.dst=some d)(hd:Nat.blt d n=true){k q m:Nat}{xs news:List Value}(he:∃v' w',Does P l o w v' w'∧Mg w0 w' (L.set k (.row BY 1 v' (q+m) (xs++news)))){L':Value→List Ck}(hL:∀v',L.set k (.row BY 1 v' (q+m) (xs++news))=L' v')
    (hk:∀v' w',Mg w0 w' (L' v')→∀a',Sl a' n ((d,v')::l)→wpList P ops.toArray Q rest a' w'):wpList P ops.toArray Q (o::rest) a w:=by
  obtain⟨v',w',h1,h2⟩:=he;exact yb hA hg hdst hd h1 (hk v' w' (hL v'▸h2))
end
theorem qec{w:World}{B:Nat}{e:TypeId}{v:Value}{n:Nat}{xs:List Value}(h:w.ownsRow B e 1 v n xs):∃so cap,v=.slice so n cap:=by
  rcases h.2 with⟨rfl,rfl⟩ | ⟨g,cap,cur,rfl,_⟩
  · exact⟨none,0,rfl⟩
  · exact⟨_,cap,rfl⟩
section
variable {P:Program} {w0 w:World} {L:List Ck} {l:List (Nat×Value)} {dst:Option Tmp} {ty:TypeId} {pos:String} {after:Array Edge} {guard:Option (Nat×Bool)} {v:Value}
end
theorem zv{c:Ck}{L:List Ck}(h:∀b bs,c≠.bld b bs)(t:vk L):vk (c::L):=by
  intro d hd b bs;rcases List.mem_cons.1 hd with rfl | hd
  · exact h b bs
  · exact t d hd b bs
theorem ul{L:List Ck}(h:∀d∈L,jbf d):vk L:=by
  intro d hd b bs e;have:=h d hd;rw[e]at this;exact this
def b8(z:Int):UInt8:=z.toNat.toUInt8
theorem qbj{z:Int}(h0:0≤z)(h1:z<256):(((b8 z).toNat:Nat):Int)=z:=by
  unfold b8;simp;omega
theorem Ck.low{B B':Nat}{w:World}{c:Ck}(h:c.holds B' w)(hb:B≤B')(hn:∀b bs,c≠.bld b bs):c.holds B w:=by
  cases c with
  | obj g o => exact ⟨Nat.le_trans hb h.1, h.2⟩
  | row e sz v n xs =>
    refine⟨h.1,?_⟩;rcases h.2 with h | ⟨g,cap,cur,a,b,c⟩
    · exact .inl h
    · exact .inr ⟨g,cap,cur,a,Nat.le_trans hb b,c⟩
  | bld b bs => exact absurd rfl (hn b bs)
theorem Mg.low{w0 w w':World}{L:List Ck}(hb:Below w0.heap.size w0 w)(h:Mg w w' L)(hn:vk L):Mg w0 w' L:=
  ⟨hb.trans (h.bel.mono hb.size),fun c hc=>Ck.low (h.all c hc) hb.size (hn c hc),h.dis⟩
section
variable {P:Program} {t:TypeId} {x y:Operand} {a b:ByteArray}
theorem zfd(hm:a.size+b.size≤9223372036854775807):∀w,(do eqGuard .add t x y (.string a) (.string b); binOp .add t (.string a) (.string b):Sem Value).run P w=.ok (.string (a++b)) w:=fun w=>by
  simp[go_sem];exact hm
end
section
variable {P:Program} {w0 w w':World} {L L':List Ck} {l:List (Nat×Value)} {dst:Option Tmp} {ty:TypeId} {pos:String} {after:Array Edge} {guard:Option (Nat×Bool)} {v:Value}
theorem zy{t e:TypeId}(hu:P.underlying t=some (.slice e))(he:(P.info? e).map (·.size)=some 1){x i:Operand}{so:Option Addr}{b off n c k:Nat}{z:Int}(hx:ev l x=some (.slice so n c))(hi:ev l i=some (.int .i64 z))(hz:z=(k:Nat))(hso:so=some ⟨b,off,none⟩)(hk:k<n):
    Does P l ⟨dst,.indexAddr t x i,ty,pos,after,guard⟩ w (.pointer (some ⟨b,off+k,none⟩)) w:=by
  subst hso hz;exact ui hx hi (qkc hu he hk)
theorem qrb(hM:Mg w0 w L){b o:Nat}(hlt:b<w0.heap.size)(hc:w0.cell? ⟨b,o,none⟩=some v){t:TypeId}(ht:Is1 P t){x:Operand}(hx:ev l x=some (.pointer (some ⟨b,o,none⟩))):Does P l ⟨dst,.load t x,ty,pos,after,guard⟩ w v w:=
  xa hx (vw ht ((hM.bel.cell hlt).trans hc))
theorem Mg.both(hM:Mg w0 w L)(h:Mg w w' L')(n1:vk L)(n2:vk L'):Mg w0 w' (L'++L):=by
  have hb:Below w.heap.size w w':=h.bel;have h1:=hM.call hb;refine⟨h1.bel,fun c hc=>?_,List.pairwise_append.2 ⟨h.dis,hM.dis,fun c hc d hd=>?_⟩⟩
  · rcases List.mem_append.1 hc with hc | hc
    · exact Ck.low (h.all c hc) hM.bel.size (n2 c hc)
    · exact h1.all c hc
  · have k1:=Ck.lt (h.all c hc);have k2:=Ck.lt (hM.all d hd);cases c with
    | obj g o => cases d with
      | obj g' o' => intro e; subst e; have := k1 g rfl; have := k2 g rfl; omega
      | row e sz v n xs => intro e; have := k1 g rfl; have := k2 g e; omega
      | bld b bs => exact absurd rfl (n1 _ hd b bs)
    | row e sz v n xs => cases d with
      | obj g' o' => intro e; have := k1 g' e; have := k2 g' rfl; omega
      | row e' sz' v' n' xs' =>
        by_cases k:v.ownBlock=none
        · exact .inl k
        · right;intro e;obtain⟨g,hg⟩:=Option.ne_none_iff_exists'.1 k;have:=k1 g hg;have:=k2 g (e.symm.trans hg);omega
      | bld b bs => exact absurd rfl (n1 _ hd b bs)
    | bld b bs => exact absurd rfl (n2 _ hc b bs)
end
section
variable {P:Program} {w0 w:World} {L:List Ck} {l:List (Nat×Value)} {ops:List Oper} {Q:Exit→Act→World→Prop} {a:Act} {n:Nat} {o:Oper} {rest:List Oper} {d:Nat}
theorem qca(hA:Sl a n l)(hM:Mg w0 w L)(hg:zb l ops o=true)(hdst:o.dst=some d)(hd:Nat.blt d n=true){e:TypeId}{sz:Nat}{vs:List Value}{m:Nat}(he:Does P l o w (.slice (some ⟨w.heap.size,0,none⟩) m m) (w.alloc (.cells vs.toArray e)))(hm:vs.length=m*sz)(hle:Nat.ble m 1000=true)(hnb:e≠BY∨vk L)
    (hk:∀g w',Mg w0 w' (.row e sz (.slice (some ⟨g,0,none⟩) m m) m vs::L)→∀a',Sl a' n ((d,.slice (some ⟨g,0,none⟩) m m)::l)→wpList P ops.toArray Q rest a' w'):wpList P ops.toArray Q (o::rest) a w:=by
  refine yb hA hg hdst hd he (hk _ _ (hM.add ((Below.refl _ w).alloc (Nat.le_refl _) _) ?_ (fun k e=>?_) (.inr (.inl ⟨_,_,_,_,_,rfl,hnb⟩))))
  · have:=World.ownsRow_lit (base:=w0.heap.size) (e:=e) (size:=sz) w vs.toArray m hM.bel.size (by unfold maxLen; have:=Nat.le_of_ble_eq_true hle; omega) (by simp[hm]);simpa[Ck.holds]using this
  · simp[Ck.at_,Value.ownBlock]at e;omega
theorem qxg{e t ty:TypeId}{sz by_:Nat}{z:Value}{x y:Operand}{dst:Option Tmp}{pos:String}{after:Array Edge}{guard:Option (Nat×Bool)}(ht:P.underlying t=some (.slice e))(hinfo:(P.info? e).map (fun i=>(i.zero,i.size,i.bytes))=some (some z,sz,by_))(hzc:z.cells.size=sz)(hsz:Nat.ble 1 sz=true)(hby:Nat.ble by_ 1000=true)(hM:Mg w0 w L)(k:Nat){v:Value}{q:Nat}{xs:List Value}(hk:L[k]?=some (.row e sz v q xs))(hx:ev l x=some v)(j:Nat){b m c2:Nat}{news:List Value}(hj:L[j]?=some (.row e sz (.slice (some ⟨b,0,none⟩) m c2) m news))(hy:ev l y=some (.slice (some ⟨b,0,none⟩) m c2))(h1:news.all Value.oneCell'=true)(hm:Nat.ble 1 m=true)(hlen:q+m≤1000000000):
    ∃v' w',Does P l ⟨dst,.call ⟨.builtin .append,#[x,y],#[t,t]⟩,ty,pos,after,guard⟩ w v' w'∧Mg w0 w' (L.set k (.row e sz v' (q+m) (xs++news))):=by
  obtain⟨i,hi,hzz⟩:=Option.map_eq_some_iff.1 hinfo;simp only[Prod.mk.injEq]at hzz;obtain⟨hz,hs,hb⟩:=hzz;have hrow:=hM.has k hk;have hnew:=hM.has j hj;have hnl:news.length=m*sz:=hnew.1;have hbig:(q+m)*by_≤140737488355328:=Nat.le_trans (Nat.mul_le_mul hlen (Nat.le_of_ble_eq_true hby)) (by decide);obtain⟨g,cap,w',hr,hown,hgr,hat,hlt⟩:=run_append_lies (P:=P) w t ty w0.heap.size e i z sz by_ ht hi hz hs hb hzc (Nat.le_of_ble_eq_true hsz) v q xs hrow ⟨b,0,none⟩ m c2 news hnl (fun p u hp=>by
      have hlt:p<news.length:=(List.getElem?_eq_some_iff.1 hp).1;rw[xt,Nat.zero_add,World.ownsRow.cellAt hnew p (by omega)];exact hp) (fun u hu=>List.all_eq_true.1 h1 u hu) (Nat.le_of_ble_eq_true hm) (by unfold maxLen; omega) hbig hM.bel.size w.heap.size rfl
  refine⟨.slice (some ⟨g,0,none⟩) (q+m) cap,w',fun ρ h=>?_,hM.turn k hk (by simp) hgr hown (fun d hd ha=>?_)⟩
  · simp[execOp,resolve,invoke,builtin,h x _ hx,h y _ hy,hr]
  · have hl:=Ck.lt (hM.all d hd);have key:∀z,d.at_=some z→v.ownBlock≠some z→g≠z:=fun z hz hne e=>by
      subst e;rcases hat with h | h
      · exact hne h
      · have:=(hl g hz).2; omega
    cases d with
    | obj g' o' => exact fun e => key g' rfl ha (by simpa [Value.ownBlock] using e)
    | row e' sz' v' n' xs' =>
      right;intro e;have e2:v'.ownBlock=some g:=e.symm;rcases ha with ha | ha
      · exact key g e2 (by rw[ha]; simp) rfl
      · exact key g e2 (fun h=>ha (h.trans e2.symm)) rfl
    | bld b' bs' => exact ⟨ha.1, fun e => key b' rfl ha.2 (by simpa [Value.ownBlock] using e)⟩
theorem qxh(hA:Sl a n l)(hg:zb l ops o=true)(hdst:o.dst=some d)(hd:Nat.blt d n=true){e:TypeId}{sz k q m:Nat}{xs news:List Value}(he:∃v' w',Does P l o w v' w'∧Mg w0 w' (L.set k (.row e sz v' (q+m) (xs++news)))){L':Value→List Ck}(hL:∀v',L.set k (.row e sz v' (q+m) (xs++news))=L' v')
    (hk:∀v' w',Mg w0 w' (L' v')→∀a',Sl a' n ((d,v')::l)→wpList P ops.toArray Q rest a' w'):wpList P ops.toArray Q (o::rest) a w:=by
  obtain⟨v',w',h1,h2⟩:=he;exact yb hA hg hdst hd h1 (hk v' w' (hL v'▸h2))
end
section
variable {P:Program} {w0 w:World} {L:List Ck} {l:List (Nat×Value)} {dst:Option Tmp} {ty:TypeId} {pos:String} {after:Array Edge} {guard:Option (Nat×Bool)} {v:Value}
theorem qsg{t e:TypeId}{sz:Nat}(hu:P.underlying t=some (.slice e))(he:(P.info? e).map (·.size)=some sz){g o n c k:Nat}(hk:k<n):∀w,(Instr.indexAt t (.slice (some ⟨g,o,none⟩) n c) (.int .i64 (k:Nat))).run P w=.ok (.pointer (some ⟨g,o+k*sz,none⟩)) w:=fun w=>by
  obtain⟨i,hi,hs⟩:=ym he;have h2:(sizeOf e).run P w=.ok sz w:=by simp[sizeOf,typeInfo,hi,hs]
  have h3:(0:Int)≤(k:Nat)∧((k:Nat):Int)<(n:Nat):=⟨by omega,by omega⟩;simp[Instr.indexAt,asIntOf,run_underlying hu,h2,h3,xt];intro h;omega
theorem qpi{t e:TypeId}{sz:Nat}(hu:P.underlying t=some (.slice e))(he:(P.info? e).map (·.size)=some sz){x i:Operand}{g n c k:Nat}{z:Int}(hx:ev l x=some (.slice (some ⟨g,0,none⟩) n c))(hi:ev l i=some (.int .i64 z))(hz:z=(k:Nat))(hk:k<n):
    Does P l ⟨dst,.indexAddr t x i,ty,pos,after,guard⟩ w (.pointer (some ⟨g,k*sz,none⟩)) w:=by
  subst hz;have:=ui (l:=l) (dst:=dst) (ty:=ty) (pos:=pos) (after:=after) (guard:=guard) (w:=w) hx hi (qsg hu he (o:=0) hk)
  rwa [Nat.zero_add]at this
theorem zsj(hM:Mg w0 w L)(k:Nat){e:TypeId}{sz g n c j:Nat}{xs:List Value}(hk:L[k]?=some (.row e sz (.slice (some ⟨g,0,none⟩) n c) n xs))(hj:xs[j]?=some v){t:TypeId}(ht:Is1 P t){x:Operand}(hx:ev l x=some (.pointer (some ⟨g,j,none⟩))):Does P l ⟨dst,.load t x,ty,pos,after,guard⟩ w v w:=by
  have h:=hM.has k hk;have hl:xs.length=n*sz:=h.1;have hlt:j<xs.length:=(List.getElem?_eq_some_iff.1 hj).1;exact xa hx (vw ht ((World.ownsRow.cellAt h j (by omega)).trans hj))
end
section
variable {P:Program} {w0 w:World} {L:List Ck} {l:List (Nat×Value)}
end
section
variable {P:Program} {w0 w:World} {L:List Ck} {l:List (Nat×Value)} {ops:List Oper} {Q:Exit→Act→World→Prop} {a:Act} {n:Nat} {o:Oper} {d:Nat} {S:World→Prop} {md:Region.Mode} {fuel:Nat} {listed:Array Bool}
end
end Go.Proofs.YtgjohjfehgdgbaaGreatDoor.G
