/- Tn Tr Ts Tk Or La Lb Lc Ld Ta Ea Eb Ra Ka TrA ShelfB TrB TrC ShelfH LiA LiB LiC KcA KcB KcC Kb KcD Lh Lj Ke LiD Le Lf -/
import Derived.Test.YtmnlfahgklnpeaaGreatDoorPcondte9d
import Derived.Test.YtmnlfahgklnpeaaGreatDoorPcondte9f
import Derived.Lib.ValidU
import Derived.Lib.Bytealg
import Derived.Lib.SlicesS
import Derived.Lib.SlicesCompact
import Derived.Sort.EncStr
import Derived.Shelf.Strings.Builder1
import Derived.Shelf.Small.Utf8
import Derived.Shelf.Small.Bits
import Derived.Shelf.Small.Strs
import Derived.Shelf.Small.Wraps
import Derived.Shelf.Strings.BuilderF
import Derived.Shelf.Strings.BuilderK
import Derived.Shelf.Strings.BuilderRune
import Derived.Shelf.Utf8.AppendRune
import Derived.Shelf.Utf8.AppendRunePlain
import Derived.Shelf.Strconv.Itoa0
import Derived.Shelf.Strconv.Itoa1
import Derived.Shelf.LaysM
import Derived.Shelf.Strconv.Itoa2
import Derived.Shelf.Strconv.Itoa3
import Derived.Shelf.Strconv.Clone
import Derived.Shelf.Strings.Search1
import Derived.Shelf.Strings.Prefix
import Derived.Shelf.Strings.Runes
import Derived.Shelf.Unicode.ValidAny
import Derived.RangeFuncNested
import Derived.RangeFuncLeaves
import Derived.LoopNIn
set_option linter.unusedVariables false
set_option linter.unusedSimpArgs false
set_option maxHeartbeats 4000000
set_option maxRecDepth 1000000
namespace Go.Proofs.YtmnlfahgklnpeaaGreatDoor.G
open Go.RowKit

structure Nu where
  q:Q6
  o1:Option Addr
  c1:Nat
  o2:Option Addr
  c2:Nat
  o3:Option Addr
  c3:Nat
  o4:Option Addr
  c4:Nat
def Nu.nm(w:World)(y:Nu):Prop:=Nm w y.q y.o1 y.c1 y.o2 y.c2 y.o3 y.c3 y.o4 y.c4
theorem Nu.below{w w':World}{y:Nu}(h:y.nm w)(hb:Below w.heap.size w w'):y.nm w':=⟨h.s1.below hb,h.s2.below hb,h.s3.below hb,h.s4.below hb⟩
def Nu.val(y:Nu):Value:=zic y.q y.o1 y.c1 y.o2 y.c2 y.o3 y.c3 y.o4 y.c4
theorem qef{P:Program}{w:World}{l:List (Nat×Value)}{dst:Option Tmp}{ty:TypeId}{pos:String}{after:Array Edge}{guard:Option (Nat×Bool)}{x:Operand}{a:Addr}(hx:ev l x=some (.pointer (some a))):Does P l ⟨dst,.nilCheck x,ty,pos,after,guard⟩ w (.pointer (some a)) w:=fun ρ h=>by
  simp only[execOp,h x _ hx,Sem.run_pure]
section
variable {P:Program} {ops:List Oper} {Q:Exit→Act→World→Prop} {a:Act} {w0 w w2:World} {n:Nat} {l:List (Nat×Value)} {v:Value} {d:Nat} {rest:List Oper} {ty:TypeId} {pos:String} {after:Array Edge} {guard:Option (Nat×Bool)} {x:Operand} {t:TypeId}
theorem sdn{b:Addr}(hA:Sl a n l)(hk:∀{a'},Sl a' n ((d,.pointer (some b))::l)→wpList P ops.toArray Q rest a' w)(hx:ev l x=some (.pointer (some b)):=by rfl)(hg:zf l ops ⟨some d,.nilCheck x,ty,pos,after,guard⟩=true:=by rfl)(hd:Nat.blt d n=true:=by rfl):wpList P ops.toArray Q (⟨some d,.nilCheck x,ty,pos,after,guard⟩::rest) a w:=sdo hA (qef hx) hk hg rfl hd
end
structure Nd where
  k:Int
  n:Int
  y:Nu
  s:ByteArray
  ro:Option Addr
  rc:Nat
  rl:List UInt8
  lo:Option Addr
  lc:Nat
inductive Dt where
  | mk (d : Nd) (ts : List Dt)
def Dt.d: Dt→Nd
  | .mk d _ => d
def Dt.ts: Dt→List Dt
  | .mk _ ts => ts
def Nd.cells(d:Nd)(m:Nat):List Value:=[.int .i64 d.k,.int .i64 d.n,.bool d.y.q.b1,.slice d.y.o1 d.y.q.t1.length d.y.c1,.slice d.y.o2 d.y.q.q1.length d.y.c2,.bool d.y.q.b2,.slice d.y.o3 d.y.q.t2.length d.y.c3,.slice d.y.o4 d.y.q.q2.length d.y.c4,.string d.s,.slice d.ro d.rl.length d.rc,.slice d.lo m d.lc]
def Dt.cells(t:Dt):List Value:=t.d.cells t.ts.length
inductive Tr where
  | mk (k n : Int) (q : Q6) (s : ByteArray) (rl : List UInt8) (ts : List Tr)
def Tr.k: Tr→Int
  | .mk k _ _ _ _ _ => k
def Tr.n: Tr→Int
  | .mk _ n _ _ _ _ => n
def Tr.q: Tr→Q6
  | .mk _ _ q _ _ _ => q
def Tr.s: Tr→ByteArray
  | .mk _ _ _ s _ _ => s
def Tr.rl: Tr→List UInt8
  | .mk _ _ _ _ r _ => r
def Tr.ts: Tr→List Tr
  | .mk _ _ _ _ _ ts => ts
mutual
def Dt.tr: Dt→Tr
  | .mk d ts => .mk d.k d.n d.y.q d.s d.rl (Dt.trs ts)
def Dt.trs: List Dt→List Tr
  | [] => []
  | t :: ts => t.tr :: Dt.trs ts
end
theorem Dt.trs_map: ∀ts:List Dt,Dt.trs ts=ts.map Dt.tr
  | [] => by simp [Dt.trs]
  | t :: ts => by simp [Dt.trs, Dt.trs_map ts]
mutual
theorem Dt.indT{P:Dt→Prop}(h:∀d ts,(∀t∈ts,P t)→P (.mk d ts)):∀t,P t
  | .mk d ts => h d ts (Dt.indL h ts)
theorem Dt.indL{P:Dt→Prop}(h:∀d ts,(∀t∈ts,P t)→P (.mk d ts)):∀ts:List Dt,∀t∈ts,P t
  | [], t, ht => by cases ht
  | u :: us, t, ht => by
    rcases ik.1 ht with e|e
    · rw[e]; exact Dt.indT h u
    · exact Dt.indL h us t e
end
mutual
theorem Tr.indT{P:Tr→Prop}(h:∀k n q s rl ts,(∀t∈ts,P t)→P (.mk k n q s rl ts)):∀t,P t
  | .mk k n q s rl ts => h k n q s rl ts (Tr.indL h ts)
theorem Tr.indL{P:Tr→Prop}(h:∀k n q s rl ts,(∀t∈ts,P t)→P (.mk k n q s rl ts)):∀ts:List Tr,∀t∈ts,P t
  | [], t, ht => by cases ht
  | u :: us, t, ht => by
    rcases ik.1 ht with e|e
    · rw[e]; exact Tr.indT h u
    · exact Tr.indL h us t e
end
def Here(w:World)(b o:Nat)(cs:List Value):Prop:=b<w.heap.size∧∀j v,cs[j]?=some v→w.cell? ⟨b,o+j,none⟩=some v
theorem Here.below{w w':World}{b o:Nat}{cs:List Value}(h:Here w b o cs)(hb:Below w.heap.size w w'):Here w' b o cs:=⟨j8 h.1 hb.size,fun j v hj=>(hb.cell h.1).trans (h.2 j v hj)⟩
def Rt(w:World)(lo:Option Addr)(ts:List Dt):Prop:=ts≠[]→∃b o,lo=some ⟨b,o,none⟩∧∀i t,ts[i]?=some t→Here w b (o+i*11) t.cells
theorem Rt.below{w w':World}{lo:Option Addr}{ts:List Dt}(h:Rt w lo ts)(hb:Below w.heap.size w w'):Rt w' lo ts:=fun hne=>by
  obtain⟨b,o,e,h2⟩:=h hne;exact⟨b,o,e,fun i t hi=>(h2 i t hi).below hb⟩
structure NdOk(w:World)(d:Nd):Prop where
  num:d.y.nm w
  len:LenQ d.y.q
  raw:Rb w d.ro d.rl
  rcap:d.rl.length≤d.rc
  rmax:d.rc≤9223372036854775807
  k0:-9223372036854775808≤d.k
  k1:d.k≤9223372036854775807
  n0:-9223372036854775808≤d.n
  n1:d.n≤9223372036854775807
  smax:d.s.size≤9223372036854775807
theorem NdOk.below{w w':World}{d:Nd}(h:NdOk w d)(hb:Below w.heap.size w w'):NdOk w' d:={ h with num:=Nu.below h.num hb,raw:=h.raw.below hb }
mutual
def Dt.rd(w:World):Dt→Prop
  | .mk d ts => NdOk w d ∧ ts.length ≤ d.lc ∧ d.lc ≤ 9223372036854775807 ∧ Rt w d.lo ts ∧ Dt.rds w ts
def Dt.rds(w:World):List Dt→Prop
  | [] => True
  | t :: ts => t.rd w ∧ Dt.rds w ts
end
theorem Dt.rds_iff{w:World}:∀{ts:List Dt},Dt.rds w ts↔∀t∈ts,t.rd w
  | [] => by simp [Dt.rds]
  | t :: ts => by simp [Dt.rds, Dt.rds_iff (ts := ts)]
theorem Dt.rd_iff{w:World}{d:Nd}{ts:List Dt}:(Dt.mk d ts).rd w↔NdOk w d∧ts.length≤d.lc∧d.lc≤9223372036854775807∧Rt w d.lo ts∧∀t∈ts,t.rd w:=by
  rw[←Dt.rds_iff]; unfold Dt.rd; exact Iff.rfl
theorem Dt.keep{w w':World}(hb:Below w.heap.size w w'):∀t:Dt,t.rd w→t.rd w':=
  Dt.indT fun d ts ih h=>by
    rw[Dt.rd_iff]at h ⊢;exact⟨h.1.below hb,h.2.1,h.2.2.1,h.2.2.2.1.below hb,fun t ht=>ih t ht (h.2.2.2.2 t ht)⟩
theorem Dt.tr_mk(d:Nd)(ts:List Dt):(Dt.mk d ts).tr=.mk d.k d.n d.y.q d.s d.rl (ts.map Dt.tr):=by rw[Dt.tr,Dt.trs_map]
mutual
def jx(dp left:Int):Tr→Bool×Int
  | .mk k _ _ _ _ ts => if left - 1 < 0 ∨ 200 < dp then (false, left - 1) else qag dp (decide (k = 8)) 0 (left - 1) ts
def qag(dp:Int)(pr:Bool)(i:Nat)(left:Int):List Tr→Bool×Int
  | [] => (true, left)
  | t :: ts => if (jx (if pr = true ∧ i = 1 then dp else dp + 1) left t).1 = true then qag dp pr (i + 1) (jx (if pr = true ∧ i = 1 then dp else dp + 1) left t).2 ts else (false, (jx (if pr = true ∧ i = 1 then dp else dp + 1) left t).2)
end
mutual
def vi(p:Tr→Bool):Tr→Bool
  | .mk k n q s rl ts => p (.mk k n q s rl ts) && qeg p ts
def qeg(p:Tr→Bool):List Tr→Bool
  | [] => true
  | t :: ts => vi p t && qeg p ts
end
mutual
def qlb(p:Tr→Bool)(dp left:Int):Tr→Int
  | .mk k n q s rl ts => if 200 < dp ∨ left ≤ 0 ∨ p (.mk k n q s rl ts) = false then -1 else qof p dp (decide (k = 8)) 0 (left - 1) ts
def qof(p:Tr→Bool)(dp:Int)(pr:Bool)(i:Nat)(left:Int):List Tr→Int
  | [] => left
  | t :: ts => if left < 0 then left else qof p dp pr (i + 1) (qlb p (if pr = true ∧ i = 1 then dp else dp + 1) left t) ts
end
theorem qwh{p:Tr→Bool}{dp left:Int}{pr:Bool}{i:Nat}{ts:List Tr}(h:left<0):qof p dp pr i left ts=left:=by
  cases ts with
  | nil => rfl
  | cons t ts => rw [qof, gj h]
def Agree(p:Tr→Bool)(t:Tr):Prop:=∀dp left:Int,0≤left→qlb p dp left t=if(jx dp left t).1=true∧vi p t=true then(jx dp left t).2 else -1
theorem qgg: ∀t:Tr,∀dp left:Int,(jx dp left t).1=true→0≤(jx dp left t).2:=by
  refine Tr.indT fun k n q s rl ts ih dp left h=>?_;rw[jx]at h ⊢;by_cases hc:left-1<0∨200<dp
  · rw[gj hc]at h; cases h
  · rw[f7 hc]at h ⊢;have hl:0≤left-1:=(by omega);generalize left-1=m at h hl ⊢;generalize decide (k=8)=pr at h ⊢;have key:∀(us:List Tr),(∀t∈us,∀dp left:Int,(jx dp left t).1=true→0≤(jx dp left t).2)→∀(i:Nat) (m:Int),0≤m→(qag dp pr i m us).1=true→0≤(qag dp pr i m us).2:=by
      intro us
      induction us with
      | nil => intro _ i m hm _; exact hm
      | cons t us ih2 =>
        intro hu i m hm h;rw[qag]at h ⊢;by_cases ht:(jx (if pr=true∧i=1 then dp else dp+1) m t).1=true
        · rw[gj ht]at h ⊢;exact ih2 (fun x hx=>hu x (ix _ hx)) _ _ (hu t iw _ _ ht) h
        · rw[f7 ht]at h; cases h
    exact key ts ih 0 m hl h
theorem zec(p:Tr→Bool):∀t:Tr,Agree p t:=by
  refine Tr.indT fun k n q s rl ts ih dp left h0=>?_;rw[qlb,jx,vi];by_cases hd:200<dp
  · rw[gj (.inl hd),gj (show left-1<0∨200<dp from .inr hd),f7 (by simp)]
  · by_cases hl:left≤0
    · rw[gj (.inr (.inl hl)),gj (show left-1<0∨200<dp from .inl (by omega)),f7 (by simp)]
    · rw[f7 (show ¬(left-1<0∨200<dp)by omega)];cases hp:p (.mk k n q s rl ts)with
      | false => rw [gj (.inr (.inr rfl)), f7 (by simp)]
      | true =>
        rw[f7 (by simp; omega),Bool.true_and];have hm:0≤left-1:=(by omega);generalize left-1=m at hm ⊢;generalize decide (k=8)=pr;have key:∀(us:List Tr),(∀t∈us,Agree p t)→∀(i:Nat) (m:Int),0≤m→qof p dp pr i m us=if(qag dp pr i m us).1=true∧qeg p us=true then(qag dp pr i m us).2 else -1:=by
          intro us
          induction us with
          | nil => intro _ i m hm; rw [qof, qag, qeg, gj ⟨rfl, rfl⟩]
          | cons t us ih2 =>
            intro hu i m hm;rw[qof,qag,qeg,f7 (by omega),hu t iw _ _ hm];by_cases ht:(jx (if pr=true∧i=1 then dp else dp+1) m t).1=true
            · cases ha:vi p t with
              | false =>
                rw[f7 (by simp),f7 (by simp),qwh (by decide)]
              | true =>
                rw[gj ⟨ht,rfl⟩,gj ht,Bool.true_and];exact ih2 (fun x hx=>hu x (ix _ hx)) _ _ (qgg t _ _ ht)
            · rw[f7 (fun e=>ht e.1),f7 ht,f7 (by simp),qwh (by decide)]
        exact key ts ih 0 m hm
def qs(p:Tr→Bool)(t:Tr):Bool:=(jx 1 20000 t).1&&vi p t
theorem znj(p:Tr→Bool)(t:Tr):decide (0≤qlb p 1 20000 t)=qs p t:=by
  rw[zec p t 1 20000 (by decide)];unfold qs;by_cases h:(jx 1 20000 t).1=true
  · cases ha:vi p t with
    | true =>
      rw[gj ⟨h,rfl⟩,h,Bool.and_self];exact gv (qgg t _ _ h)
    | false => rw [f7 (by simp), Bool.and_false]; rfl
  · rw[f7 (fun e=>h e.1),lj.2 h]; rfl
section
variable {P:Program} {w0 w:World} {L:List Ck} {l:List (Nat×Value)} {dst:Option Tmp} {ty:TypeId} {pos:String} {after:Array Edge} {guard:Option (Nat×Bool)} {v:Value}
theorem xl(hM:Mg w0 w L){b o o' j:Nat}{cs:List Value}(hH:Here w0 b o cs){t:TypeId}(ht:Is1 P t){x:Operand}(hx:ev l x=some (.pointer (some ⟨b,o',none⟩)))(ho:o'=o+j)(hv:cs[j]?=some v):Does P l ⟨dst,.load t x,ty,pos,after,guard⟩ w v w:=by
  subst ho;exact ju hx (vz ht ((hM.bel.cell hH.1).trans (hH.2 j v hv)))
theorem zp(hM:Mg w0 w L){b o n:Nat}{cs:List Value}(hH:Here w0 b o cs){t:TypeId}(ht:IsS P t n){x:Operand}(hx:ev l x=some (.pointer (some ⟨b,o,none⟩)))(hl:cs.length=n):Does P l ⟨dst,.load t x,ty,pos,after,guard⟩ w (.agg cs.toArray) w:=
  ju hx (vy ht cs hl (fun j v hj=>(hM.bel.cell hH.1).trans (hH.2 j v hj)))
theorem qk{t e:TypeId}{sz:Nat}(hu:P.underlying t=some (.slice e))(he:(P.info? e).map (·.size)=some sz){x i:Operand}{so:Option Addr}{g off n c k:Nat}{z:Int}(hx:ev l x=some (.slice so n c))(hi:ev l i=some (.int .i64 z))(hz:z=(k:Nat))(hso:so=some ⟨g,off,none⟩)(hk:k<n):
    Does P l ⟨dst,.indexAddr t x i,ty,pos,after,guard⟩ w (.pointer (some ⟨g,off+k*sz,none⟩)) w:=by
  subst hz hso;exact jj (l:=l) (dst:=dst) (ty:=ty) (pos:=pos) (after:=after) (guard:=guard) (w:=w) hx hi (qxa hu he hk)
end
theorem kid{w:World}{d:Nd}{ts:List Dt}(h:(Dt.mk d ts).rd w){i:Nat}(hi:i<ts.length):∃t b o,ts[i]?=some t∧t∈ts∧t.rd w∧d.lo=some ⟨b,o,none⟩∧Here w b (o+i*11) t.cells:=by
  rw[Dt.rd_iff]at h;have hne:ts≠[]:=fun e=>by subst e; simp at hi
  obtain⟨b,o,e,h2⟩:=h.2.2.2.1 hne;have ht:=List.getElem?_eq_getElem hi;exact⟨ts[i],b,o,ht,ip hi,h.2.2.2.2 _ (ip hi),e,h2 i _ ht⟩
theorem yv{ts:List Dt}{i:Nat}{t:Dt}(h:ts[i]?=some t):(ts.map Dt.tr).drop i=t.tr::(ts.map Dt.tr).drop (i+1):=by
  obtain⟨hi,rfl⟩:=List.getElem?_eq_some_iff.1 h;rw[List.drop_eq_getElem_cons (by simpa using hi)];simp
theorem qbj{ts:List Dt}{i:Nat}(h:¬i<ts.length):(ts.map Dt.tr).drop i=[]:=i7 (by simp; omega)
theorem zig: ∀t:Tr,∀dp left:Int,(jx dp left t).2≤left:=by
  refine Tr.indT fun k n q s rl ts ih dp left=>?_;rw[jx]
  split
  · show left-1≤left; omega
  · have key:∀(us:List Tr),(∀t∈us,∀dp left:Int,(jx dp left t).2≤left)→∀(i:Nat) (m:Int),(qag dp (decide (k=8)) i m us).2≤m:=by
      intro us
      induction us with
      | nil => intro _ i m; exact Int.le_refl _
      | cons t us ih2 =>
        intro hu i m;rw[qag];generalize (if decide (k=8)=true∧i=1 then dp else dp+1)=D;have h1:=hu t iw D m
        split
        · exact Int.le_trans (ih2 (fun x hx=>hu x (ix _ hx)) _ _) h1
        · exact h1
    have:=key ts ih 0 (left-1);omega
theorem zih{dp m D:Int}{pr:Bool}{i:Nat}{ts:List Dt}{t:Dt}(hi:ts[i]?=some t)(hD:(if pr=true∧i=1 then dp else dp+1)=D)(h:(jx D m t.tr).1=true):qag dp pr i m ((ts.map Dt.tr).drop i)=qag dp pr (i+1) (jx D m t.tr).2 ((ts.map Dt.tr).drop (i+1)):=by
  rw[yv hi,qag,hD,gj h]
theorem qqg{dp m D:Int}{pr:Bool}{i:Nat}{ts:List Dt}{t:Dt}(hi:ts[i]?=some t)(hD:(if pr=true∧i=1 then dp else dp+1)=D)(h:(jx D m t.tr).1=false):qag dp pr i m ((ts.map Dt.tr).drop i)=(false,(jx D m t.tr).2):=by
  rw[yv hi,qag,hD,f7 (by rw[h]; decide)]
theorem quj{dp left:Int}{d:Nd}{ts:List Dt}(h1:¬left-1<0)(h2:¬200<dp):jx dp left (Dt.mk d ts).tr=qag dp (decide (d.k=8)) 0 (left-1) ((ts.map Dt.tr).drop 0):=by
  rw[Dt.tr_mk,jx,f7 (by omega),List.drop_zero]
theorem jcb{dp left:Int}{d:Nd}{ts:List Dt}(h:left-1<0∨200<dp):jx dp left (Dt.mk d ts).tr=(false,left-1):=by
  rw[Dt.tr_mk,jx,gj h]
theorem qva{p:Tr→Bool}{d:Nd}{ts:List Dt}:vi p (Dt.mk d ts).tr=(p (Dt.mk d ts).tr&&qeg p ((ts.map Dt.tr).drop 0)):=by
  rw[Dt.tr_mk,vi,List.drop_zero]
theorem jcc{p:Tr→Bool}{i:Nat}{ts:List Dt}{t:Dt}(hi:ts[i]?=some t):qeg p ((ts.map Dt.tr).drop i)=(vi p t.tr&&qeg p ((ts.map Dt.tr).drop (i+1))):=by
  rw[yv hi,qeg]
theorem jcd{p:Tr→Bool}{dp left:Int}{d:Nd}{ts:List Dt}(h1:¬200<dp)(h2:¬left≤0)(h3:p (Dt.mk d ts).tr=true):qlb p dp left (Dt.mk d ts).tr=qof p dp (decide (d.k=8)) 0 (left-1) ((ts.map Dt.tr).drop 0):=by
  rw[Dt.tr_mk]at h3 ⊢;rw[qlb,f7 (by rw[h3]; simp; omega),List.drop_zero]
theorem zii{p:Tr→Bool}{dp left:Int}{d:Nd}{ts:List Dt}(h:200<dp∨left≤0∨p (Dt.mk d ts).tr=false):qlb p dp left (Dt.mk d ts).tr=-1:=by
  rw[Dt.tr_mk]at h ⊢;rw[qlb,gj h]
theorem zij{p:Tr→Bool}{dp m D:Int}{pr:Bool}{i:Nat}{ts:List Dt}{t:Dt}(hi:ts[i]?=some t)(hm:¬m<0)(hD:(if pr=true∧i=1 then dp else dp+1)=D):qof p dp pr i m ((ts.map Dt.tr).drop i)=qof p dp pr (i+1) (qlb p D m t.tr) ((ts.map Dt.tr).drop (i+1)):=by
  rw[yv hi,qof,f7 hm,hD]
theorem zve(p:Tr→Bool)(t:Tr)(dp left:Int)(h:0≤left):-1≤qlb p dp left t∧qlb p dp left t≤left:=by
  rw[zec p t dp left h]
  split
  · rename_i hc;exact⟨by have:=qgg t _ _ hc.1; omega,zig t _ _⟩
  · exact⟨by omega,by omega⟩
def ye(b:Bool)(m m':Nat):Bool:=!b&&(decide (m=0)&&decide (m'=0))
def kg(n:Int)(b1:Bool)(m1 m2:Nat)(b2:Bool)(m3 m4:Nat)(s:ByteArray)(mr ml:Nat):Bool:=decide (n=0)&&(ye b1 m1 m2&&(ye b2 m3 m4&&(decide (s=⟨#[]⟩)&&(decide (mr=0)&&decide (ml=0)))))
def yw(n:Int):Bool:=decide (0≤n∧n≤1114111∧(n<55296∨57343<n))
def okS(s:ByteArray):Bool:=Lib.validD s.data.toList
def jm(k n:Int)(q:Q6)(s:ByteArray)(mr ml:Nat):Bool:=
  if k=1∨k=10 then kg n q.b1 q.t1.length q.q1.length q.b2 q.t2.length q.q2.length s mr ml
  else if k=2 then decide (n=0∨n=1)&&kg 0 q.b1 q.t1.length q.q1.length q.b2 q.t2.length q.q2.length s mr ml
  else if k=3 then xt q&&kg n false 0 0 false 0 0 s mr ml
  else if k=4 then yw n&&kg 0 q.b1 q.t1.length q.q1.length q.b2 q.t2.length q.q2.length s mr ml
  else if k=5∨k=6∨k=11 then okS s&&kg n q.b1 q.t1.length q.q1.length q.b2 q.t2.length q.q2.length ⟨#[]⟩ mr ml
  else if k=7 then kg n q.b1 q.t1.length q.q1.length q.b2 q.t2.length q.q2.length s 0 ml
  else if k=8 then decide (ml=2)&&kg n q.b1 q.t1.length q.q1.length q.b2 q.t2.length q.q2.length s mr 0
  else if k=9 then kg n q.b1 q.t1.length q.q1.length q.b2 q.t2.length q.q2.length s mr 0
  else false
def qh: Tr→Bool
  | .mk k n q s rl ts => jm k n q s rl.length ts.length
theorem uk{d:Nd}{ts:List Dt}:qh (Dt.mk d ts).tr=jm d.k d.n d.y.q d.s d.rl.length ts.length:=by
  rw[Dt.tr_mk,qh,gy]
mutual
def Tr.bulk: Tr→Nat
  | .mk _ _ q s rl ts => s.size + rl.length + (q.t1.length + q.q1.length + (q.t2.length + q.q2.length)) + 1 + Tr.bulks ts
def Tr.bulks: List Tr→Nat
  | [] => 0
  | t :: ts => t.bulk + Tr.bulks ts
end
theorem xr{k n:Int}{q:Q6}{s:ByteArray}{rl:List UInt8}{ts:List Tr}:(Tr.mk k n q s rl ts).bulk=s.size+rl.length+(q.t1.length+q.q1.length+(q.t2.length+q.q2.length))+1+Tr.bulks ts:=by rw[Tr.bulk]
theorem ul: ∀{ts:List Tr} {t:Tr},t∈ts→t.bulk≤Tr.bulks ts
  | u :: us, t, h => by
    rw[Tr.bulks];rcases ik.1 h with e|e
    · subst e; omega
    · have:=ul e; omega
theorem qoh{d:Nd}{ts:List Dt}{t:Dt}(h:t∈ts):t.tr.bulk+d.s.size+1≤(Dt.mk d ts).tr.bulk:=by
  rw[Dt.tr_mk,xr];have:=ul (j5 (f:=Dt.tr) h);omega
theorem zed{d:Nd}{ts:List Dt}:d.s.size≤(Dt.mk d ts).tr.bulk:=by
  rw[Dt.tr_mk,xr];omega
open Go.RowKit Go.Lib
def Q6.none: Q6:=⟨false,[],[],false,[],[]⟩
def jld(q:Q6):Prop:=∃u v,q=Q6.rat u v∧zoe u∧zoe v
theorem zog{b:Bool}{t u:List Nat}(h:ye b t.length u.length=true):b=false∧t=[]∧u=[]:=by
  unfold ye at h;cases b<;>simp at h
  exact⟨rfl,h.1,h.2⟩
theorem yi{n:Int}{q:Q6}{s:ByteArray}{mr ml:Nat}(h:kg n q.b1 q.t1.length q.q1.length q.b2 q.t2.length q.q2.length s mr ml=true):n=0∧q=Q6.none∧s=⟨#[]⟩∧mr=0∧ml=0:=by
  unfold kg at h;simp only[ig,decide_eq_true_eq]at h;obtain⟨h1,h2,h3,h4,h5,h6⟩:=h;obtain⟨a1,a2,a3⟩:=zog h2;obtain⟨b1,b2,b3⟩:=zog h3;refine⟨h1,?_,h4,h5,h6⟩;cases q
  simp only at a1 a2 a3 b1 b2 b3;subst a1 a2 a3 b1 b2 b3;rfl
structure Bare(k n:Int)(q:Q6)(s:ByteArray)(mr ml:Nat):Prop where
  hn:k≠2→k≠4→n=0
  hq:k≠3→q=Q6.none
  hs:k≠5→k≠6→k≠11→s=⟨#[]⟩
  hr:k≠7→mr=0
  hl:k≠8→k≠9→ml=0
  h8:k=8→ml=2
  h3:k=3→xt q=true
  h0:1≤k
  h1:k≤11
  h2:k=2→n=0∨n=1
  h4:k=4→yw n=true
  h5:k=5∨k=6∨k=11→okS s=true
theorem zvf{k n:Int}{q:Q6}{s:ByteArray}{mr ml:Nat}(h:jm k n q s mr ml=true):Bare k n q s mr ml:=by
  unfold jm at h
  split at h
  · rename_i hk;obtain⟨a,b,c,d,e⟩:=yi h;exact⟨fun _ _=>a,fun _=>b,fun _ _ _=>c,fun _=>d,fun _ _=>e,fun _=>by omega,fun _=>by omega,by omega,by omega,fun _=>by omega,fun _=>by omega,fun _=>by omega⟩
  · split at h
    · rename_i hk;simp only[ig,decide_eq_true_eq]at h;obtain⟨a,b,c,d,e⟩:=yi h.2;exact⟨fun _ _=>by omega,fun _=>b,fun _ _ _=>c,fun _=>d,fun _ _=>e,fun _=>by omega,fun _=>by omega,by omega,by omega,fun _=>h.1,fun _=>by omega,fun _=>by omega⟩
    · split at h
      · rename_i hk;simp only[ig]at h;obtain⟨a,b,c,d,e⟩:=yi (q:=Q6.none) h.2;exact⟨fun _ _=>a,fun _=>by omega,fun _ _ _=>c,fun _=>d,fun _ _=>e,fun _=>by omega,fun _=>h.1,by omega,by omega,fun _=>by omega,fun _=>by omega,fun _=>by omega⟩
      · split at h
        · rename_i hk;simp only[ig]at h;obtain⟨a,b,c,d,e⟩:=yi h.2;exact⟨fun _ _=>by omega,fun _=>b,fun _ _ _=>c,fun _=>d,fun _ _=>e,fun _=>by omega,fun _=>by omega,by omega,by omega,fun _=>by omega,fun _=>h.1,fun _=>by omega⟩
        · split at h
          · rename_i hk;simp only[ig]at h;obtain⟨a,b,c,d,e⟩:=yi h.2;exact⟨fun _ _=>a,fun _=>b,fun _ _ _=>by omega,fun _=>d,fun _ _=>e,fun _=>by omega,fun _=>by omega,by omega,by omega,fun _=>by omega,fun _=>by omega,fun _=>h.1⟩
          · split at h
            · rename_i hk;obtain⟨a,b,c,d,e⟩:=yi h;exact⟨fun _ _=>a,fun _=>b,fun _ _ _=>c,fun _=>by omega,fun _ _=>e,fun _=>by omega,fun _=>by omega,by omega,by omega,fun _=>by omega,fun _=>by omega,fun _=>by omega⟩
            · split at h
              · rename_i hk;simp only[ig,decide_eq_true_eq]at h;obtain⟨a,b,c,d,e⟩:=yi h.2;exact⟨fun _ _=>a,fun _=>b,fun _ _ _=>c,fun _=>d,fun _ _=>by omega,fun _=>h.1,fun _=>by omega,by omega,by omega,fun _=>by omega,fun _=>by omega,fun _=>by omega⟩
              · split at h
                · rename_i hk;obtain⟨a,b,c,d,e⟩:=yi h;exact⟨fun _ _=>a,fun _=>b,fun _ _ _=>c,fun _=>d,fun _ _=>by omega,fun _=>by omega,fun _=>by omega,by omega,by omega,fun _=>by omega,fun _=>by omega,fun _=>by omega⟩
                · cases h
mutual
def Tr.good: Tr→Prop
  | .mk k n q s rl ts => Bare k n q s rl.length ts.length ∧ (k = 3 → jld q) ∧ Tr.goods ts
def Tr.goods: List Tr→Prop
  | [] => True
  | t :: ts => t.good ∧ Tr.goods ts
end
theorem zef: ∀{ts:List Tr},Tr.goods ts↔∀t∈ts,t.good
  | [] => by simp [Tr.goods]
  | t :: ts => by simp [Tr.goods, zef (ts := ts)]
theorem qvb{k n:Int}{q:Q6}{s:ByteArray}{rl:List UInt8}{ts:List Tr}:(Tr.mk k n q s rl ts).good↔Bare k n q s rl.length ts.length∧(k=3→jld q)∧∀t∈ts,t.good:=by
  rw[←zef]; unfold Tr.good; exact Iff.rfl
theorem zoh{p:Tr→Bool}:∀{ts:List Tr},qeg p ts=true→∀t∈ts,vi p t=true
  | [], _, t, ht => by cases ht
  | u :: us, h, t, ht => by
    rw[qeg,ig]at h;rcases ik.1 ht with e|e
    · subst e; exact h.1
    · exact zoh h.2 t e
theorem Dt.good{w:World}:∀t:Dt,t.rd w→vi qh t.tr=true→t.tr.good:=by
  refine Dt.indT fun d ts ih hrd ha=>?_;rw[qva,uk,ig]at ha;have hok:=Dt.rd_iff.1 hrd;rw[Dt.tr_mk,qvb];have hb:=zvf ha.1;refine⟨by rw[gy]; exact hb,fun hk=>?_,fun t ht=>?_⟩
  · rcases zof hok.1.num with h|h
    · rw[hb.h3 hk]at h; cases h
    · exact h
  · obtain⟨u,hu,rfl⟩:=List.mem_map.1 ht;refine ih u hu (hok.2.2.2.2 u hu) ?_;exact zoh (ts:=ts.map Dt.tr) (by simpa using ha.2) _ ht
theorem Dt.eta(t:Dt):Dt.mk t.d t.ts=t:=by cases t; rfl
theorem Dt.tr_eta(t:Dt):t.tr=.mk t.d.k t.d.n t.d.y.q t.d.s t.d.rl (t.ts.map Dt.tr):=by rw[←Dt.tr_mk,Dt.eta]
theorem qeh{w:World}{t:Dt}(h:t.rd w){i:Nat}(hi:i<t.ts.length):∃t1 b o,t.ts[i]?=some t1∧t1∈t.ts∧t1.rd w∧t.d.lo=some ⟨b,o,none⟩∧Here w b (o+i*11) (t1.d.cells t1.ts.length):=kid (d:=t.d) (by rw[Dt.eta]; exact h) hi
theorem Dt.okT{w:World}{t:Dt}(h:t.rd w):NdOk w t.d∧t.ts.length≤9223372036854775807:=by
  rw[←Dt.eta t,Dt.rd_iff]at h;exact⟨h.1,gz h.2.1 h.2.2.1⟩
theorem jf{t:Dt}(h:t.tr.good):Bare t.d.k t.d.n t.d.y.q t.d.s t.d.rl.length t.ts.length∧(t.d.k=3→jld t.d.y.q)∧∀c∈t.ts,c.tr.good:=by
  rw[Dt.tr_eta,qvb,gy]at h;exact⟨h.1,h.2.1,fun c hc=>h.2.2 _ (j5 hc)⟩
theorem qhi{t c:Dt}(h:c∈t.ts):c.tr.bulk+t.d.s.size+1≤t.tr.bulk:=by
  have:=qoh (d:=t.d) h
  rwa [Dt.eta]at this
theorem qmc{α:Type}{l:List α}(h:l.length=2){a b:α}(h0:l[0]?=some a)(h1:l[1]?=some b):l=[a,b]:=by
  match l,h with
  | [x, y], _ => simp at h0 h1; rw [h0, h1]
def hw(h n:Int):Int:=bits .xor .u64 (IntKind.u64.wrap (bits .xor .u64 h n*1099511628211)) (IntKind.u64.wrap (bits .xor .u64 h n*1099511628211) / 2^32)
theorem jle{k n:Int}{q:Q6}{s:ByteArray}{mr ml:Nat}(b:Bare k n q s mr ml):0≤n∧n≤1114111:=by
  by_cases h2:k=2
  · have:=b.h2 h2; omega
  · by_cases h4:k=4
    · have:=b.h4 h4;unfold yw at this;have:=f5 this;omega
    · have:=b.hn h2 h4; omega
theorem qvc{w:World}{t:Dt}(ht:t.rd w)(h:qs qh t.tr=true):t.tr.good:=by
  unfold qs at h;rw[ig]at h;exact Dt.good t ht h.2
def In{α:Type}(p:Nat→Prop)(so:Option Addr)(l:List α):Prop:=l≠[]→∀b o,so=some ⟨b,o,none⟩→p b
theorem In.mono{α:Type}{p q:Nat→Prop}{so:Option Addr}{l:List α}(h:In p so l)(hp:∀b,p b→q b):In q so l:=fun hne b o e=>hp b (h hne b o e)
structure Nd.at_(p:Nat→Prop)(d:Nd):Prop where
 i1:In p d.y.o1 d.y.q.t1
 i2:In p d.y.o2 d.y.q.q1
 i3:In p d.y.o3 d.y.q.t2
 i4:In p d.y.o4 d.y.q.q2
 i5:In p d.ro d.rl
mutual
def Dt.at_(p:Nat→Prop):Dt→Prop
 | .mk d ts => d.at_ p ∧ In p d.lo ts ∧ Dt.ats p ts
def Dt.ats(p:Nat→Prop):List Dt→Prop
 | [] => True
 | t :: ts => t.at_ p ∧ Dt.ats p ts
end
theorem Dt.ats_iff{p:Nat→Prop}:∀{ts:List Dt},Dt.ats p ts↔∀t∈ts,t.at_ p
 | [] => by simp [Dt.ats]
 | t :: ts => by simp [Dt.ats, Dt.ats_iff (ts := ts)]
theorem Dt.at_iff{p:Nat→Prop}{d:Nd}{ts:List Dt}:(Dt.mk d ts).at_ p↔d.at_ p∧In p d.lo ts∧∀t∈ts,t.at_ p:=by
 rw[←Dt.ats_iff]; unfold Dt.at_; exact Iff.rfl
theorem Nd.at_mono{p q:Nat→Prop}{d:Nd}(h:d.at_ p)(hp:∀b,p b→q b):d.at_ q:=⟨h.i1.mono hp,h.i2.mono hp,h.i3.mono hp,h.i4.mono hp,h.i5.mono hp⟩
theorem Dt.at_mono{p q:Nat→Prop}(hp:∀b,p b→q b):∀t:Dt,t.at_ p→t.at_ q:=
 Dt.indT fun d ts ih h=>by
  rw[Dt.at_iff]at h ⊢;exact⟨Nd.at_mono h.1 hp,h.2.1.mono hp,fun t ht=>ih t ht (h.2.2 t ht)⟩
def Kept(p:Nat→Prop)(w w':World):Prop:=w.heap.size≤w'.heap.size∧∀b i v,p b→w.cell? ⟨b,i,none⟩=some v→w'.cell? ⟨b,i,none⟩=some v
theorem jwe{p:Nat→Prop}{w w':World}{so:Option Addr}{l:List Nat}(h:Rd w so l)(hi:In p so l)(hk:Kept p w w'):Rd w' so l:=by
 refine⟨h.dig,fun hne=>?_⟩;obtain⟨b,off,h1,h2,h3⟩:=h.pos hne;exact⟨b,off,h1,j8 h2 hk.1,fun j hj=>hk.2 _ _ _ (hi hne _ _ h1) (h3 j hj)⟩
theorem jce{p:Nat→Prop}{w w':World}{so:Option Addr}{l:List UInt8}(h:Rb w so l)(hi:In p so l)(hk:Kept p w w'):Rb w' so l:=by
 refine⟨fun hne=>?_⟩;obtain⟨b,off,h1,h2,h3⟩:=h.pos hne;exact⟨b,off,h1,j8 h2 hk.1,fun j hj=>hk.2 _ _ _ (hi hne _ _ h1) (h3 j hj)⟩
theorem uw{p:Nat→Prop}{w w':World}{so:Option Addr}{c:Nat}{l:List Nat}(h:Sc w so c l)(hi:In p so l)(hk:Kept p w w'):Sc w' so c l:=⟨jwe h.rd hi hk,h.nil,h.cap⟩
theorem NdOk.kept{p:Nat→Prop}{w w':World}{d:Nd}(h:NdOk w d)(hi:d.at_ p)(hk:Kept p w w'):NdOk w' d:={ h with num:=⟨uw h.num.s1 hi.i1 hk,uw h.num.s2 hi.i2 hk,uw h.num.s3 hi.i3 hk,uw h.num.s4 hi.i4 hk⟩,raw:=jce h.raw hi.i5 hk }
theorem Rt.kept{p:Nat→Prop}{w w':World}{lo:Option Addr}{ts:List Dt}(h:Rt w lo ts)(hi:In p lo ts)(hk:Kept p w w'):Rt w' lo ts:=fun hne=>by
 obtain⟨b,o,e,h2⟩:=h hne;exact⟨b,o,e,fun i t hi'=>⟨j8 (h2 i t hi').1 hk.1,fun j v hj=>hk.2 _ _ _ (hi hne _ _ e) ((h2 i t hi').2 j v hj)⟩⟩
theorem Dt.kept{p:Nat→Prop}{w w':World}(hk:Kept p w w'):∀t:Dt,t.rd w→t.at_ p→t.rd w':=
 Dt.indT fun d ts ih h hi=>by
  rw[Dt.rd_iff]at h ⊢;rw[Dt.at_iff]at hi;exact⟨h.1.kept hi.1 hk,h.2.1,h.2.2.1,h.2.2.2.1.kept hi.2.1 hk,fun t ht=>ih t ht (h.2.2.2.2 t ht) (hi.2.2 t ht)⟩
theorem qka{w:World}{so:Option Addr}{l:List Nat}(h:Rd w so l):In (· < w.heap.size) so l:=fun hne b o e=>by
 obtain⟨b',off,h1,h2,_⟩:=h.pos hne;rw[h1]at e; cases e; exact h2
theorem zvg{w:World}{so:Option Addr}{l:List UInt8}(h:Rb w so l):In (· < w.heap.size) so l:=fun hne b o e=>by
 obtain⟨b',off,h1,h2,_⟩:=h.pos hne;rw[h1]at e; cases e; exact h2
theorem jfg{w:World}{lo:Option Addr}{ts:List Dt}(h:Rt w lo ts):In (· < w.heap.size) lo ts:=fun hne b o e=>by
 obtain⟨b',o',h1,h2⟩:=h hne;rw[h1]at e; cases e;cases ts with
 | nil => exact absurd rfl hne
 | cons t ts => exact (h2 0 t rfl).1
theorem Dt.at_lt{w:World}:∀t:Dt,t.rd w→t.at_ (· < w.heap.size):=
 Dt.indT fun d ts ih h=>by
  rw[Dt.rd_iff]at h;rw[Dt.at_iff];exact⟨⟨qka h.1.num.s1.rd,qka h.1.num.s2.rd,qka h.1.num.s3.rd,qka h.1.num.s4.rd,zvg h.1.raw⟩,jfg h.2.2.2.1,fun t ht=>ih t ht (h.2.2.2.2 t ht)⟩
theorem Kept.trans{p:Nat→Prop}{w w' w'':World}(h:Kept p w w')(k:Kept p w' w''):Kept p w w'':=⟨gz h.1 k.1,fun b i v hb hc=>k.2 b i v hb (h.2 b i v hb hc)⟩
theorem Kept.mono{p q:Nat→Prop}{w w':World}(h:Kept p w w')(hq:∀b,q b→p b):Kept q w w':=⟨h.1,fun b i v hb hc=>h.2 b i v (hq b hb) hc⟩
theorem qei(w:World)(g o:Nat)(cs:List Value):Kept (· ≠ g) w (w.setCells g o cs):=by
 induction cs generalizing w o with
 | nil => exact ⟨gm _, fun _ _ _ _ h => h⟩
 | cons c cs ih =>
  refine Kept.trans ⟨by simp,fun b i v hb hc=>?_⟩ (ih (w.setCell ⟨g,o,none⟩ c) (o+1));have:(w.setCell ⟨g,o,none⟩ c).cell? ⟨b,i,none⟩=w.cell? ⟨b,i,none⟩:=by
   unfold World.cell?;rw[Below.heap_setCell w ⟨g,o,none⟩ c b hb]
  rw[this]; exact hc
def cellsOf(ts:List Dt):List Value:=ts.flatMap Dt.cells
theorem um(t:Dt):t.cells.length=11:=rfl
theorem qab: ∀ts:List Dt,(cellsOf ts).length=ts.length*11
 | [] => rfl
 | t :: ts => by
  have:=qab ts;unfold cellsOf at this ⊢;rw[ij,fv,um,this,fw]; omega
theorem yx(a b:List Dt):cellsOf (a++b)=cellsOf a++cellsOf b:=ll
theorem zoi(t:Dt):cellsOf [t]=t.cells:=by unfold cellsOf; rw[List.flatMap_singleton]
theorem qgi: ∀(ts:List Dt) (i:Nat),(cellsOf ts).drop (i*11)=cellsOf (ts.drop i)
 | ts, 0 => by rw [Nat.zero_mul]; rfl
 | [], i + 1 => by simp [cellsOf]
 | t :: ts, i + 1 => by
  have:=qgi ts i;rw[List.drop_succ_cons,←this];unfold cellsOf;rw[ij,show(i+1)*11=t.cells.length+i*11 by rw[um]; omega,List.drop_append,i7 (by omega),Nat.add_sub_cancel_left,f8]
theorem qoi: ∀(ts:List Dt) (i:Nat),(cellsOf ts).take (i*11)=cellsOf (ts.take i)
 | ts, 0 => by rw [Nat.zero_mul]; rfl
 | [], i + 1 => by simp [cellsOf]
 | t :: ts, i + 1 => by
  have:=qoi ts i;rw[List.take_succ_cons];unfold cellsOf at this ⊢;rw[ij,ij,show(i+1)*11=t.cells.length+i*11 by rw[um]; omega,List.take_length_add_append,this]
theorem qmd{ts:List Dt}{i:Nat}{t:Dt}(h:ts[i]?=some t):((cellsOf ts).drop (i*11)).take 11=t.cells:=by
 obtain⟨hi,rfl⟩:=List.getElem?_eq_some_iff.1 h;rw[qgi,List.drop_eq_getElem_cons hi];unfold cellsOf;rw[ij,show 11=(ts[i]).cells.length from rfl,List.take_left]
theorem qoj{ts:List Dt}{i j:Nat}{t:Dt}{v:Value}(h:ts[i]?=some t)(hj:t.cells[j]?=some v):(cellsOf ts)[i*11+j]?=some v:=by
 have hlt:j<11:=by have:=(List.getElem?_eq_some_iff.1 hj).1; rwa [um]at this
 rw[←qmd h,List.getElem?_take,gj hlt,List.getElem?_drop]at hj;exact hj
theorem zoj{ts:List Dt}{i:Nat}(t:Dt)(h:i<ts.length):over (cellsOf ts) (i*11) t.cells=cellsOf (ts.set i t):=by
 rw[jwd (by rw[qab,um]; omega),um,show i*11+11=(i+1)*11 by omega,qgi,qoi,List.set_eq_take_append_cons_drop,gj h,yx];rw[show t::ts.drop (i+1)=[t]++ts.drop (i+1)from rfl,yx,zoi,f4]
theorem kv{w:World}{B:Nat}{e:TypeId}{so:Option Addr}{n cap:Nat}{ts:List Dt}(h:w.ownsRow B e 11 (.slice so n cap) n (cellsOf ts)):Rt w so ts∧n=ts.length∧n≤cap∧cap≤9223372036854775807:=by
 have hn:n=ts.length:=by have:=h.1; rw[qab]at this; omega
 refine⟨fun hne=>?_,hn,?_⟩
 ·rcases h.2 with⟨e1,e2⟩|⟨g,cap',cur,e1,hg,hc,h1,h2,h3,h4⟩
  ·subst e2; exact absurd (ia.1 hn.symm) hne
  ·cases e1
   refine⟨g,0,rfl,fun i t hi=>⟨(Array.getElem?_eq_some_iff.1 hc).1,fun j v hj=>?_⟩⟩;have hlt:j<11:=(by have:=(List.getElem?_eq_some_iff.1 hj).1; rwa [um]at this);have hil:=(List.getElem?_eq_some_iff.1 hi).1;have h5:=qoj hi hj;rw[←h4,List.getElem?_take,gj (by omega)]at h5;rw[show(⟨g,0+i*11+j,none⟩:Addr)=⟨g,i*11+j,none⟩by rw[Nat.zero_add],cell_of_row w g _ cur e (0,0) hc];simpa using h5
 ·rcases h.2 with⟨e1,e2⟩|⟨g,cap',cur,e1,hg,hc,h1,h2,h3,h4⟩
  ·cases e1; exact⟨gm _,by omega⟩
  ·cases e1; refine⟨h1,gz h2 ?_⟩; decide
section
variable {P:Program} {w0 w:World} {L:List Ck} {l:List (Nat×Value)} {dst:Option Tmp} {ty:TypeId} {pos:String} {after:Array Edge} {guard:Option (Nat×Bool)} {v:Value}
def Rc(w:World)(so:Option Addr)(cs:List Value):Prop:=cs≠[]→∃b off,so=some ⟨b,off,none⟩∧∀p u,cs[p]?=some u→w.cell? ⟨b,off+p,none⟩=some u
theorem Rc.below{w w':World}{so:Option Addr}{cs:List Value}(h:Rc w so cs)(hb:Below w.heap.size w w'):Rc w' so cs:=fun hne=>by
  obtain⟨b,off,e,h2⟩:=h hne;exact⟨b,off,e,fun p u hp=>(hb.cell (cell_lt (h2 p u hp))).trans (h2 p u hp)⟩
theorem xje{w:World}{so:Option Addr}{ts:List Dt}(h:Rt w so ts):Rc w so (cellsOf ts):=fun hne=>by
  obtain⟨b,o,e,h2⟩:=h (fun k=>hne (by rw[k]; rfl));refine⟨b,o,e,fun p u hp=>?_⟩;have hlt:p<ts.length*11:=by have:=(List.getElem?_eq_some_iff.1 hp).1; rwa [qab]at this
  have hi:p / 11<ts.length:=by omega
  have ht:=List.getElem?_eq_getElem hi;have hp2:p=p / 11*11+p%11:=by omega
  have h3:=(h2 (p / 11) _ ht).2 (p%11) u (by
    have h4:=qmd ht;rw[←h4,List.getElem?_take,gj (by omega),List.getElem?_drop,←hp2]; exact hp)
  rw[show o+p=o+p / 11*11+p%11 by omega]; exact h3
theorem vm{w:World}{B:Nat}{e:TypeId}{sz n cap:Nat}{so:Option Addr}{xs:List Value}(h:w.ownsRow B e sz (.slice so n cap) n xs):Rc w so xs:=fun hne=>by
  rcases h.2 with⟨e1,e2⟩|⟨g,cap',cur,e1,hg,hc,h1,h2,h3,h4⟩
  · subst e2; exact absurd (ia.1 (by rw[h.1]; simp)) hne
  · cases e1
    exact⟨g,0,rfl,fun p u hp=>by rw[Nat.zero_add,World.ownsRow.cellAt h p (by have:=(List.getElem?_eq_some_iff.1 hp).1; rw[h.1]at this; exact this)]; exact hp⟩
theorem yf{e t:TypeId}{sz by_:Nat}{z:Value}{x y:Operand}(ht:P.underlying t=some (.slice e))(hinfo:(P.info? e).map (fun i=>(i.zero,i.size,i.bytes))=some (some z,sz,by_))(hzc:z.cells.size=sz)(hsz:Nat.ble 1 sz=true)(hby:Nat.ble by_ 1000=true)(hM:Mg w0 w L)(k:Nat){q:Nat}{xs:List Value}(hk:L[k]?=some (.row e sz v q xs))(hx:ev l x=some v){so:Option Addr}{m c2:Nat}{news:List Value}(hy:ev l y=some (.slice so m c2))(hnl:news.length=m*sz)(hr:Rc w so news)(h1:∀u∈news,u.oneCell'=true)(hlen:q+m≤1000000000):
    ∃v' w',Does P l ⟨dst,.call ⟨.builtin .append,#[x,y],#[t,t]⟩,ty,pos,after,guard⟩ w v' w'∧Mg w0 w' (L.set k (.row e sz v' (q+m) (xs++news))):=by
  obtain⟨i,hi,hzz⟩:=Option.map_eq_some_iff.1 hinfo;simp only[Prod.mk.injEq]at hzz;obtain⟨hz,hs,hb⟩:=hzz;have hrow:=hM.has k hk;by_cases hm:m=0
  · subst hm;have h0:news=[]:=ia.1 (by rw[hnl]; simp);subst h0;obtain⟨aa,cap,hle,rfl⟩:∃aa cap,q≤cap∧v=.slice aa q cap:=by
      rcases hrow.2 with⟨rfl,rfl⟩|⟨g,cap,cur,rfl,_,_,h,_⟩
      · exact⟨none,0,gm _,rfl⟩
      · exact⟨_,cap,h,rfl⟩
    have h2:(sizeOf e).run P w=.ok sz w:=(by simp[sizeOf,typeInfo,hi,hs]);refine⟨.slice aa q cap,w,?_,?_⟩
    · intro ρ h;cases so<;>cases aa<;>simp[execOp,resolve,invoke,builtin,h x _ hx,h y _ hy,Builtin.append_,run_underlying ht,h2,Builtin.lenOf,Builtin.firstCells,loadCells,loadCellsFrom,storeCells,hle]
    · rw[show L.set k (.row e sz (.slice aa q cap) (q+0) (xs++[]))=L from by rw[gh]; exact qwj hk];exact hM
  · have hne:news≠[]:=fun e0=>by
      rw[e0]at hnl;have h5:=Nat.le_of_ble_eq_true hsz;have:0<m*sz:=Nat.mul_pos (by omega) h5;simp at hnl; omega
    obtain⟨b,off,rfl,hcell⟩:=hr hne;have hbig:(q+m)*by_≤140737488355328:=gz (Nat.mul_le_mul hlen (Nat.le_of_ble_eq_true hby)) (by decide);obtain⟨g,cap,w',hr,hown,hgr,hat,hlt⟩:=run_append_lies (P:=P) w t ty w0.heap.size e i z sz by_ ht hi hz hs hb hzc (Nat.le_of_ble_eq_true hsz) v q xs hrow ⟨b,off,none⟩ m c2 news hnl (fun p u hp=>by
        rw[jt];exact hcell p u hp) h1 (by omega) (by unfold maxLen; omega) hbig hM.bel.size w.heap.size rfl
    refine⟨.slice (some ⟨g,0,none⟩) (q+m) cap,w',fun ρ h=>?_,hM.turn k hk (by simp) hgr hown (fun d hd ha=>?_)⟩
    · simp[execOp,resolve,invoke,builtin,h x _ hx,h y _ hy,hr]
    · have hl:=Ck.lt (hM.all d hd);have key:∀z,d.at_=some z→v.ownBlock≠some z→g≠z:=fun z hz hne e=>by
        subst e;rcases hat with h|h
        · exact hne h
        · have:=(hl g hz).2; omega
      cases d with
      | obj g' o' => exact fun e => key g' rfl ha (by simpa [Value.ownBlock] using e)
      | row e' sz' v' n' xs' =>
        right;intro e;have e2:v'.ownBlock=some g:=e.symm;rcases ha with ha|ha
        · exact key g e2 (by rw[ha]; simp) rfl
        · exact key g e2 (fun h=>ha (h.trans e2.symm)) rfl
      | bld b' bs' => exact ⟨ha.1, fun e => key b' rfl ha.2 (by simpa [Value.ownBlock] using e)⟩
theorem Mg.nilRow(h:Mg w0 w L)(hb:yu L)(e:TypeId)(sz:Nat):Mg w0 w (.row e sz (.slice none 0 0) 0 []::L):=by
  refine h.add (Below.refl _ _) ⟨by simp,.inl ⟨rfl,rfl⟩⟩ (fun k hk=>by cases hk) (.inr (.inl ⟨_,_,_,_,_,rfl,.inr hb⟩))
theorem zja{w:World}{B:Nat}{e:TypeId}{sz n cap:Nat}{so:Option Addr}{xs:List Value}(h:w.ownsRow B e sz (.slice so n cap) n xs){α:Type}(l:List α):In (B≤·) so l:=fun _ b o e1=>by
  rcases h.2 with⟨e2,_⟩|⟨g,cap',cur,e2,hg,_⟩
  · cases e2; cases e1
  · cases e2; cases e1; exact hg
theorem zeg(t:Dt):∀u∈t.cells,u.oneCell'=true:=by
  intro u hu;unfold Dt.cells Nd.cells at hu;simp only[ik,List.not_mem_nil,or_false]at hu;rcases hu with h|h|h|h|h|h|h|h|h|h|h<;>subst h<;>rfl
theorem qgj(ts:List Dt):∀u∈cellsOf ts,u.oneCell'=true:=by
  intro u hu;unfold cellsOf at hu;obtain⟨t,_,ht⟩:=List.mem_flatMap.1 hu;exact zeg t u ht
section
variable {ops:List Oper} {Q:Exit→Act→World→Prop} {a:Act} {n:Nat} {o:Oper} {rest:List Oper} {d:Nat}
theorem zjb(hA:Sl a n l)(hM:Mg w0 w L)(hg:zf l ops o=true)(hdst:o.dst=some d)(hd:Nat.blt d n=true){vs:List Value}{t:TypeId}(val:Nat→Value)(he:Does P l o w (val w.heap.size) (w.alloc (.cells vs.toArray t)))(ht:t≠BY)
    (hk:∀g w',Mg w0 w' (.obj g (.cells vs.toArray t)::L)→w.heap.size≤g→Below w.heap.size w w'→∀a',Sl a' n ((d,val g)::l)→wpList P ops.toArray Q rest a' w'):wpList P ops.toArray Q (o::rest) a w:=
  kh hA hg hdst hd he (hk _ _ (hM.addObj _ (kj ht)) (gm _) ((Below.refl _ w).alloc (gm _) _))
theorem ky(hA:Sl a n l)(hM:Mg w0 w L)(hg:zf l ops o=true)(hdst:o.dst=none){g q:Nat}{cs vs us:List Value}{e:TypeId}(he:Sets P l o w (w.setCells g q cs))(k:Nat)(hk0:L[k]?=some (.obj g (.cells vs.toArray e)))(hus:over vs q cs=us){L':List Ck}(hL:L.set k (.obj g (.cells us.toArray e))=L')
    (hk:∀w',Mg w0 w' L'→Kept (· ≠ g) w w'→wpList P ops.toArray Q rest a w'):wpList P ops.toArray Q (o::rest) a w:=
  qob hA hg hdst he (hk _ (by subst hus hL; exact Mg.puts cs w L vs q hM k hk0) (qei _ _ _ _))
theorem zeh(hA:Sl a n l)(hM:Mg w0 w L)(hg:zf l ops o=true)(hdst:o.dst=none){g q m cap:Nat}{cs xs us:List Value}{e:TypeId}{sz:Nat}(he:Sets P l o w (w.setCells g q cs))(k:Nat)(hk0:L[k]?=some (.row e sz (.slice (some ⟨g,0,none⟩) m cap) m xs))(hus:over xs q cs=us){L':List Ck}(hL:L.set k (.row e sz (.slice (some ⟨g,0,none⟩) m cap) m us)=L')
    (hk:∀w',Mg w0 w' L'→Kept (· ≠ g) w w'→wpList P ops.toArray Q rest a w'):wpList P ops.toArray Q (o::rest) a w:=
  qob hA hg hdst he (hk _ (by subst hus hL; exact Mg.rowPuts cs w L xs q hM k hk0) (qei _ _ _ _))
end
section
variable {ops:List Oper} {Q:Exit→Act→World→Prop} {a:Act} {n:Nat} {o:Oper} {S:World→Prop} {md:Region.Mode} {fuel:Nat} {listed:Array Bool}
theorem qxb(hA:Sl a n l)(hM:Mg w0 w L)(i:Nat)(hi:ops[i]?=some o)(hg:zf l ops o=true)(hdst:o.dst=none){g q:Nat}{cs vs us:List Value}{e:TypeId}(he:Sets P l o w (w.setCells g q cs))(k:Nat)(hk0:L[k]?=some (.obj g (.cells vs.toArray e)))(hus:over vs q cs=us){L':List Ck}(hL:L.set k (.obj g (.cells us.toArray e))=L')
    (hk:∀w',Mg w0 w' L'→Kept (· ≠ g) w w'→S w'∧wpAnyH P md ops.toArray Q S fuel (listed.setIfInBounds i true) a w'):wpOp P ops.toArray Q i (fun a' w'=>S w'∧wpAnyH P md ops.toArray Q S fuel (listed.setIfInBounds i true) a' w') a w:=by
  have h:=hk _ (by subst hus hL; exact Mg.puts cs w L vs q hM k hk0) (qei _ _ _ _);exact zui hA i hi hg hdst he h.1 h.2
theorem xfe(hA:Sl a n l)(hM:Mg w0 w L)(i:Nat)(hi:ops[i]?=some o)(hg:zf l ops o=true){d:Nat}(hdst:o.dst=some d)(hd:Nat.blt d n=true){e:TypeId}{sz:Nat}{vs:List Value}{m:Nat}(he:Does P l o w (.slice (some ⟨w.heap.size,0,none⟩) m m) (w.alloc (.cells vs.toArray e)))(hm:vs.length=m*sz)(hle:Nat.ble m 1000=true)(hnb:e≠BY)
    (hk:∀g w',Mg w0 w' (.row e sz (.slice (some ⟨g,0,none⟩) m m) m vs::L)→w.heap.size≤g→Below w.heap.size w w'→S w'∧∀a',Sl a' n ((d,.slice (some ⟨g,0,none⟩) m m)::l)→wpAnyH P md ops.toArray Q S fuel (listed.setIfInBounds i true) a' w'):wpOp P ops.toArray Q i (fun a' w'=>S w'∧wpAnyH P md ops.toArray Q S fuel (listed.setIfInBounds i true) a' w') a w:=by
  have hmx:m≤maxLen:=by have:=Nat.le_of_ble_eq_true hle; unfold maxLen; omega
  have hM':Mg w0 (w.alloc (.cells vs.toArray e)) (.row e sz (.slice (some ⟨w.heap.size,0,none⟩) m m) m vs::L):=
    hM.add ((Below.refl _ w).alloc (gm _) _) ⟨hm,.inr ⟨w.heap.size,m,vs.toArray,rfl,hM.bel.size,heap_alloc_new w _,gm _,hmx,by simpa using hm,by simp[←hm]⟩⟩ (fun k e=>by cases e; exact gm _) (.inr (.inl ⟨_,_,_,_,_,rfl,.inl hnb⟩))
  have h:=hk _ _ hM' (gm _) ((Below.refl _ w).alloc (gm _) _);exact zea hA i hi hg hdst hd he h.1 h.2
end
end
def ka(l:List Nat):List Value:=l.map fun n=>.int .u32 ((n:Nat):Int)
theorem jcf(l:List Nat):(ka l).length=l.length*1:=by unfold ka; simp
theorem qqd(l:List Nat):∀u∈ka l,u.oneCell'=true:=by
  intro u hu;unfold ka at hu;obtain⟨n,_,rfl⟩:=List.mem_map.1 hu;rfl
theorem jcg(l:List UInt8):(Lib.byteCells l).length=l.length*1:=by unfold Lib.byteCells; simp
theorem jfh(l:List UInt8):∀u∈Lib.byteCells l,u.oneCell'=true:=by
  intro u hu;unfold Lib.byteCells at hu;obtain⟨n,_,rfl⟩:=List.mem_map.1 hu;rfl
theorem jlf{w:World}{so:Option Addr}{l:List UInt8}(h:Rb w so l):Rc w so (Lib.byteCells l):=fun hne=>by
  obtain⟨b,off,h1,h2,h3⟩:=h.pos (fun k=>hne (by rw[k]; rfl));refine⟨b,off,h1,fun p u hp=>?_⟩;have hlt:p<l.length:=by have:=(List.getElem?_eq_some_iff.1 hp).1; rw[jcg]at this; omega
  rw[h3 p hlt,←hp];simp[Lib.byteCells,List.getD_eq_getElem?_getD,hlt]
theorem jlg{w:World}{so:Option Addr}{l:List Nat}(h:Rd w so l):Rc w so (ka l):=fun hne=>by
  obtain⟨b,off,h1,h2,h3⟩:=h.pos (fun k=>hne (by rw[k]; rfl));refine⟨b,off,h1,fun p u hp=>?_⟩;have hlt:p<l.length:=by have:=(List.getElem?_eq_some_iff.1 hp).1; rw[jcf]at this; omega
  rw[h3 p hlt,←hp];simp[ka,List.getD_eq_getElem?_getD,hlt]
theorem jch{w:World}{B:Nat}{e:TypeId}{sz n cap:Nat}{so:Option Addr}{xs:List Value}(h:w.ownsRow B e sz (.slice so n cap) n xs):n≤cap:=by
  rcases h.2 with⟨e1,e2⟩|⟨g,cap',cur,e1,hg,hc,h1,_⟩
  · cases e1; exact gm _
  · cases e1; exact h1
theorem jwf{w:World}{B:Nat}{e:TypeId}{sz n cap:Nat}{so:Option Addr}{xs:List Value}(h:w.ownsRow B e sz (.slice so n cap) n xs):cap≤9223372036854775807:=by
  rcases h.2 with⟨e1,e2⟩|⟨g,cap',cur,e1,hg,hc,h1,h2,_⟩
  · cases e1; decide
  · cases e1; refine gz h2 ?_; decide
theorem xff{w:World}{B:Nat}{e:TypeId}{cap:Nat}{so:Option Addr}{l:List Nat}(hd:Dig l)(h:w.ownsRow B e 1 (.slice so l.length cap) l.length (ka l)):Sc w so cap l:=by
  refine⟨⟨hd,fun hne=>?_⟩,fun e0=>?_,jch h⟩
  · rcases h.2 with⟨e1,e2⟩|⟨g,cap',cur,e1,hg,hc,h1,_⟩
    · exact absurd (ia.1 e2) hne
    · cases e1
      refine⟨g,0,rfl,(Array.getElem?_eq_some_iff.1 hc).1,fun j hj=>?_⟩;rw[Nat.zero_add,World.ownsRow.cellAt h j (by omega)];simp[ka,List.getD_eq_getElem?_getD,hj]
  · rcases h.2 with⟨e1,e2⟩|⟨g,cap',cur,e1,_⟩
    · simp only[Value.slice.injEq]at e1; exact e1.2.2
    · cases e1; cases e0
theorem xu{w:World}{B:Nat}{e:TypeId}{sz:Nat}{v:Value}{n:Nat}{xs:List Value}(h:w.ownsRow B e sz v n xs):∃so cap,v=.slice so n cap:=by
  rcases h.2 with⟨rfl,rfl⟩|⟨g,cap,cur,rfl,_⟩
  · exact⟨none,0,rfl⟩
  · exact⟨_,cap,rfl⟩
theorem jlh{w:World}{B:Nat}{e:TypeId}{sz:Nat}{v:Value}{n:Nat}{xs:List Value}(h:w.ownsRow B e sz v n xs)(hn:n≠0):∃g cap,v=.slice (some ⟨g,0,none⟩) n cap:=by
  rcases h.2 with⟨rfl,rfl⟩|⟨g,cap,cur,rfl,_⟩
  · exact absurd rfl hn
  · exact⟨g,cap,rfl⟩
def CsOk(B:Nat)(g:Nat)(w:World)(cs:List Dt):Prop:=∀t∈cs,t.rd w∧t.at_ (fun b=>B≤b∧b≠g)
theorem jli{B g:Nat}{w:World}:CsOk B g w []:=fun t h=>by cases h
theorem CsOk.below{B g:Nat}{w w':World}{cs:List Dt}(h:CsOk B g w cs)(hb:Below w.heap.size w w'):CsOk B g w' cs:=fun t ht=>⟨Dt.keep hb _ (h t ht).1,(h t ht).2⟩
theorem CsOk.new{B g g':Nat}{w w' w'':World}{cs:List Dt}(h:CsOk B g w cs)(hg:w.heap.size≤g')(hb:Below w.heap.size w w')(hk:Kept (· ≠ g') w' w''):CsOk B g w'' cs:=fun t ht=>⟨Dt.kept hk _ (Dt.keep hb _ (h t ht).1) (Dt.at_mono (fun b hb'=>by intro e; omega) _ (Dt.at_lt _ (h t ht).1)),(h t ht).2⟩
theorem CsOk.snoc{B g:Nat}{w w':World}{cs:List Dt}{t:Dt}(h:CsOk B g w cs)(hr:t.rd w)(ha:t.at_ (fun b=>B≤b∧b≠g))(hk:Kept (· ≠ g) w w'):CsOk B g w' (cs++[t]):=fun u hu=>by
  rcases lk.1 hu with h1|h1
  · exact⟨Dt.kept hk _ (h u h1).1 (Dt.at_mono (fun b hb=>hb.2) _ (h u h1).2),(h u h1).2⟩
  · rw[iq.1 h1];exact⟨Dt.kept hk _ hr (Dt.at_mono (fun b hb=>hb.2) _ ha),ha⟩
theorem xfg{ts cs:List Dt}{i:Nat}(hl:cs.length=i)(hi:i<ts.length):∃t,ts[i]?=some t∧t∈ts∧(cs++ts.drop i)[i]?=some t:=by
  have ht:=List.getElem?_eq_getElem hi;refine⟨ts[i],ht,ip hi,?_⟩;rw[List.getElem?_append_right (by omega),List.getElem?_drop,hl,Nat.sub_self,Nat.add_zero,ht]
theorem jwg{ts cs:List Dt}{i:Nat}(t:Dt)(hl:cs.length=i)(hi:i<ts.length):(cs++ts.drop i).set i t=(cs++[t])++ts.drop (i+1):=by
  rw[List.set_append_right _ _ (by omega),hl,Nat.sub_self,List.drop_eq_getElem_cons hi,List.set_cons_zero,f4];rfl
theorem jwh{ts cs:List Dt}{i:Nat}{t u:Dt}(h:cs.map Dt.tr=(ts.take i).map Dt.tr)(hi:ts[i]?=some t)(hu:u.tr=t.tr):(cs++[u]).map Dt.tr=(ts.take (i+1)).map Dt.tr:=by
  obtain⟨hl,rfl⟩:=List.getElem?_eq_some_iff.1 hi;rw[j6,h,List.take_succ_eq_append_getElem hl,j6,List.map_singleton,List.map_singleton,hu]
theorem qdh{ts:List Dt}{t:Dt}(h:t∈ts):t.tr.bulk≤Tr.bulks (ts.map Dt.tr):=ul (j5 h)
theorem yj: ∀ts:List Dt,ts.length≤Tr.bulks (ts.map Dt.tr)
  | [] => gm _
  | t :: ts => by
    have:=yj ts;have h2:1≤t.tr.bulk:=by cases t; rw[Dt.tr_mk,xr]; omega
    rw[i6,Tr.bulks,fw]; omega
theorem zvh{d:Nd}{ts:List Dt}:(Dt.mk d ts).tr.bulk=d.s.size+d.rl.length+(d.y.q.t1.length+d.y.q.q1.length+(d.y.q.t2.length+d.y.q.q2.length))+1+Tr.bulks (ts.map Dt.tr):=by rw[Dt.tr_mk,xr]
theorem qej(t:Dt):t.cells.all Value.oneCell'=true:=j3.2 (zeg t)
theorem jlj{ts:List Dt}{i:Nat}{t:Dt}{us:List Dt}(h:i<ts.length)(he:ts.set i t=us):over (cellsOf ts) (i*11) (t.d.cells t.ts.length)=cellsOf us:=he▸zoj t h
def qxc: Dt:=.mk ⟨1,0,⟨Q6.zero,none,0,none,0,none,0,none,0⟩,⟨#[]⟩,none,0,[],none,0⟩ []
def zb: Dt:=.mk ⟨0,0,⟨Q6.zero,none,0,none,0,none,0,none,0⟩,⟨#[]⟩,none,0,[],none,0⟩ []
def nilT: Tr:=.mk 1 0 Q6.zero ⟨#[]⟩ [] []
def qtb: Tr:=.mk 0 0 Q6.zero ⟨#[]⟩ [] []
theorem qkb: qxc.tr=nilT:=by unfold qxc nilT; rw[Dt.tr_mk]; rfl
theorem qxd: zb.tr=qtb:=by unfold zb qtb; rw[Dt.tr_mk]; rfl
theorem qqi: LenQ Q6.zero:=⟨by decide,by decide,by decide,by decide⟩
theorem qvd(w:World)(k:Int)(h0:-9223372036854775808≤k)(h1:k≤9223372036854775807):(Dt.mk ⟨k,0,⟨Q6.zero,none,0,none,0,none,0,none,0⟩,⟨#[]⟩,none,0,[],none,0⟩ []).rd w:=
  Dt.rd_iff.2 ⟨⟨⟨Sc.none w,Sc.none w,Sc.none w,Sc.none w⟩,qqi,⟨fun h=>absurd rfl h⟩,gm _,by show(0:Nat)≤_; omega,h0,h1,by show(-9223372036854775808:Int)≤0; omega,by show(0:Int)≤9223372036854775807; omega,by show(0:Nat)≤_; omega⟩,gm _,by show(0:Nat)≤_; omega,fun h=>absurd rfl h,fun t h=>by cases h⟩
theorem jci(w:World):qxc.rd w:=qvd w 1 (by decide) (by decide)
theorem qxe(w:World):zb.rd w:=qvd w 0 (by decide) (by decide)
theorem jcj(p:Nat→Prop)(k:Int):(Dt.mk ⟨k,0,⟨Q6.zero,none,0,none,0,none,0,none,0⟩,⟨#[]⟩,none,0,[],none,0⟩ []).at_ p:=
  Dt.at_iff.2 ⟨⟨fun h=>absurd rfl h,fun h=>absurd rfl h,fun h=>absurd rfl h,fun h=>absurd rfl h,fun h=>absurd rfl h⟩,fun h=>absurd rfl h,fun t h=>by cases h⟩
theorem jwi(p:Nat→Prop):qxc.at_ p:=jcj p 1
theorem zpa(p:Nat→Prop):zb.at_ p:=jcj p 0
def zy: List Tr→Tr→Tr
  | [], z => z
  | t :: ts, z => .mk 8 0 Q6.zero ⟨#[]⟩ [] [t, zy ts z]
theorem qtc: ∀(a b:List Tr) (z:Tr),zy (a++b) z=zy a (zy b z)
  | [], _, _ => rfl
  | t :: a, b, z => by rw [gq, zy, zy, qtc a b z]
theorem qca: ∀(a:List Tr) (z:Tr),(zy a z).bulk=Tr.bulks a+a.length+z.bulk
  | [], z => by simp [zy, Tr.bulks]
  | t :: a, z => by
    rw[zy,xr,Tr.bulks,Tr.bulks,Tr.bulks,qca a z,Tr.bulks,fw];show 0+0+(0+0+(0+0))+1+_=_;omega
theorem qxf: ∀{a b:List Tr} {y z:Tr},y.k≠8→z.k≠8→zy a y=zy b z→a=b∧y=z
  | [], [], y, z, _, _, h => ⟨rfl, h⟩
  | [], t :: b, y, z, hy, _, h => absurd (by rw [zy, zy] at h; rw [h]; rfl) hy
  | t :: a, [], y, z, _, hz, h => absurd (by rw [zy, zy] at h; rw [← h]; rfl) hz
  | t :: a, u :: b, y, z, hy, hz, h => by
    rw[zy,zy]at h;injection h with _ _ _ _ _ h;injection h with h1 h2;injection h2 with h2 _;obtain⟨h3,h4⟩:=qxf hy hz h2;exact⟨by rw[h1,h3],h4⟩
open Classical in
noncomputable def js(t:Tr):Option (List Tr):=if h:∃xs,t=zy xs nilT then some (Classical.choose h)else none
theorem qie(xs:List Tr):js (zy xs nilT)=some xs:=by
  have h:∃ys,zy xs nilT=zy ys nilT:=⟨xs,rfl⟩;unfold js;rw[dif_pos h];have:=Classical.choose_spec h;rw[←(qxf (by decide) (by decide) this).1]
theorem jfi{xs:List Tr}{z:Tr}(h8:z.k≠8)(h1:z.k≠1):js (zy xs z)=none:=by
  unfold js;rw[dif_neg];rintro⟨ys,h⟩;obtain⟨_,h2⟩:=qxf h8 (by decide) h;exact h1 (by rw[h2]; rfl)
theorem qif{t:Tr}{xs:List Tr}(h:js t=some xs):t=zy xs nilT:=by
  unfold js at h;by_cases hx:∃ys,t=zy ys nilT
  · rw[dif_pos hx]at h;have:=Classical.choose_spec hx;rw[←io h]; exact this
  · rw[dif_neg hx]at h; cases h
theorem zei{b:Bool}{t q:List Nat}(h:ye b t.length q.length=true):b=false∧t=[]∧q=[]:=by
  unfold ye at h;simp only[ig,Bool.not_eq_true',decide_eq_true_eq]at h;exact⟨h.1,ia.1 h.2.1,ia.1 h.2.2⟩
theorem qxg{n:Int}{q:Q6}{s:ByteArray}{mr ml:Nat}(h:kg n q.b1 q.t1.length q.q1.length q.b2 q.t2.length q.q2.length s mr ml=true):n=0∧q=Q6.zero∧s=⟨#[]⟩∧mr=0∧ml=0:=by
  unfold kg at h;simp only[ig,decide_eq_true_eq]at h;obtain⟨h1,h2,h3,h4,h5,h6⟩:=h;obtain⟨a1,a2,a3⟩:=zei h2;obtain⟨b1,b2,b3⟩:=zei h3;refine⟨h1,?_,h4,h5,h6⟩;cases q
  simp only at a1 a2 a3 b1 b2 b3;subst a1 a2 a3 b1 b2 b3;rfl
theorem zvi{n:Int}{q:Q6}{s:ByteArray}{rl:List UInt8}{ts:List Tr}(h:qh (.mk 8 n q s rl ts)=true):n=0∧q=Q6.zero∧s=⟨#[]⟩∧rl=[]∧ts.length=2:=by
  unfold qh jm at h;simp at h;obtain⟨h1,h2⟩:=h;obtain⟨a,b,c,d,_⟩:=qxg h2;exact⟨a,b,c,ia.1 d,h1⟩
theorem jfj{n:Int}{q:Q6}{s:ByteArray}{rl:List UInt8}{ts:List Tr}(h:qh (.mk 1 n q s rl ts)=true):Tr.mk 1 n q s rl ts=nilT:=by
  unfold qh jm at h;simp at h;obtain⟨a,b,c,d,e⟩:=qxg h;rw[a,b,c,ia.1 d,ia.1 e];rfl
theorem jma{p:Tr→Bool}{ts:List Tr}:qeg p ts=true↔∀t∈ts,vi p t=true:=by
  induction ts with
  | nil => simp [qeg]
  | cons t ts ih => simp [qeg, ih]
theorem qxh{p:Tr→Bool}{t:Dt}(h:vi p t.tr=true):p t.tr=true∧∀u∈t.ts,vi p u.tr=true:=by
  cases t with
  | mk d ts =>
    rw[Dt.tr_mk,vi,ig,jma]at h;refine⟨by rw[Dt.tr_mk]; exact h.1,fun u hu=>h.2 _ (j5 hu)⟩
theorem zjc{t:Dt}(h:vi qh t.tr=true)(hk:t.d.k=8):t.ts.length=2∧∀a b,t.ts[0]?=some a→t.ts[1]?=some b→t.tr=.mk 8 0 Q6.zero ⟨#[]⟩ [] [a.tr,b.tr]:=by
  have h1:=(qxh h).1;cases t with
  | mk d ts =>
    rw[Dt.tr_mk]at h1 ⊢;simp only[Dt.d]at hk;rw[hk]at h1 ⊢;obtain⟨a1,a2,a3,a4,a5⟩:=zvi h1;rw[gy]at a5;refine⟨a5,fun a b ha hb=>?_⟩;rw[a1,a2,a3,a4];simp only[Dt.ts]at ha hb a5
    match ts,a5 with
    | [x, y], _ =>
      simp at ha hb;rw[ha,hb];rfl
theorem xfh{t:Dt}(h:vi qh t.tr=true)(hk:t.d.k=1):t.tr=nilT:=by
  have h1:=(qxh h).1;cases t with
  | mk d ts =>
    rw[Dt.tr_mk]at h1 ⊢;simp only[Dt.d]at hk;rw[hk]at h1 ⊢;exact jfj h1
theorem xjf(t:Dt):t.tr.k=t.d.k:=by cases t; rw[Dt.tr_mk]; rfl
theorem que{w:World}{so:Option Addr}{ts:List Dt}(hR:Rt w so ts)(hD:∀t∈ts,t.rd w){i:Nat}(hi:i<ts.length):∃t b o,ts[i]?=some t∧t∈ts∧t.rd w∧so=some ⟨b,o,none⟩∧Here w b (o+i*11) (t.d.cells t.ts.length):=by
  obtain⟨b,o,e,h2⟩:=hR (fun k=>by subst k; simp at hi);have ht:=List.getElem?_eq_getElem hi;exact⟨ts[i],b,o,ht,ip hi,hD _ (ip hi),e,h2 i _ ht⟩
def zpb(p:Dt→Bool)(ts:List Dt):Int:=if ts.any p=true then(ts.findIdx p:Int)else -1
theorem jwj{p:Dt→Bool}{ts:List Dt}{i:Nat}{t:Dt}(h:∀j u,j<i→ts[j]?=some u→p u=false)(hi:ts[i]?=some t)(hp:p t=true):zpb p ts=i:=by
  obtain⟨hl,e⟩:=List.getElem?_eq_some_iff.1 hi;unfold zpb;rw[gj (List.any_eq_true.2 ⟨t,List.mem_of_getElem? hi,hp⟩)]
  congr 1
  rw[List.findIdx_eq hl];refine⟨by rw[e]; exact hp,fun j hj=>h j _ hj (List.getElem?_eq_getElem _)⟩
theorem jmb{p:Dt→Bool}{ts:List Dt}(h:∀j u,j<ts.length→ts[j]?=some u→p u=false):zpb p ts=-1:=by
  unfold zpb;rw[f7];intro k;obtain⟨t,ht,hp⟩:=List.any_eq_true.1 k;obtain⟨j,hj⟩:=List.mem_iff_getElem?.1 ht;rw[h j t (List.getElem?_eq_some_iff.1 hj).1 hj]at hp;cases hp
theorem jda(p:Dt→Bool)(ts:List Dt):decide (0≤zpb p ts)=ts.any p:=by
  unfold zpb;by_cases h:ts.any p=true
  · rw[gj h,h]; exact gv (by omega)
  · rw[f7 h,lj.2 h]; rfl
structure Asks(P:Program)(f:FuncId)(cs:List Value)(w0:World)(ts:List Dt)(p:Dt→Bool):Prop where
  inv:∀(us:Array Value) (w:World),(callFunc f us).run P w=.ok (.enter f us) w
  run:∀(t:Dt) (w:World),t∈ts→Below w0.heap.size w0 w→Calls P f ([Value.agg (t.d.cells t.ts.length).toArray]++cs).toArray w (RB w (.bool (p t)))
theorem qxi{t:Dt}{xs:List Tr}{p:Dt}(h:t.tr=zy xs p.tr)(hs:vi qh p.tr=true)(hk:p.d.k=1):js t.tr=some xs:=by
  rw[h,xfh hs hk,qie]
theorem qxj{t:Dt}{xs:List Tr}{p:Dt}(h:t.tr=zy xs p.tr)(h8:p.d.k≠8)(h1:p.d.k≠1):js t.tr=none:=by
  rw[h,jfi (by rw[xjf]; exact h8) (by rw[xjf]; exact h1)]
theorem zej{t:Dt}{xs:List Dt}{p a b:Dt}(h:t.tr=zy (xs.map Dt.tr) p.tr)(hs:vi qh p.tr=true)(hk:p.d.k=8)(ha:p.ts[0]?=some a)(hb:p.ts[1]?=some b):t.tr=zy ((xs++[a]).map Dt.tr) b.tr:=by
  rw[h,(zjc hs hk).2 a b ha hb,j6,qtc];rfl
theorem zpc{p:Dt→Prop}{xs:List Dt}{a:Dt}(h:∀x∈xs,p x)(ha:p a):∀x∈xs++[a],p x:=fun x hx=>by
  rcases lk.1 hx with k|k
  · exact h x k
  · rw[iq.1 k]; exact ha
theorem qkc{t:Tr}(h:qs qh t=true):vi qh t=true:=by unfold qs at h; rw[ig]at h; exact h.2
theorem zpd(t:Dt):1≤t.tr.bulk:=by cases t; rw[Dt.tr_mk,xr]; omega
def yk(g:Nat)(x z:Dt):Dt:=.mk ⟨8,0,⟨Q6.zero,none,0,none,0,none,0,none,0⟩,⟨#[]⟩,none,0,[],some ⟨g,0,none⟩,2⟩ [x,z]
theorem zpe(g:Nat)(x z:Dt):(yk g x z).d.cells (yk g x z).ts.length=[.int .i64 8,.int .i64 0,.bool false,.slice none 0 0,.slice none 0 0,.bool false,.slice none 0 0,.slice none 0 0,.string ⟨#[]⟩,.slice none 0 0,.slice (some ⟨g,0,none⟩) 2 2]:=rfl
theorem zpf(g:Nat)(x z:Dt):(yk g x z).tr=.mk 8 0 Q6.zero ⟨#[]⟩ [] [x.tr,z.tr]:=by unfold yk; rw[Dt.tr_mk]; rfl
theorem jga(w:World)(lo:Option Addr)(lc:Nat):NdOk w ⟨8,0,⟨Q6.zero,none,0,none,0,none,0,none,0⟩,⟨#[]⟩,none,0,[],lo,lc⟩:=
  ⟨⟨Sc.none w,Sc.none w,Sc.none w,Sc.none w⟩,qqi,⟨fun h=>absurd rfl h⟩,gm _,by show(0:Nat)≤_; omega,by show(-9223372036854775808:Int)≤8; omega,by show(8:Int)≤9223372036854775807; omega,by show(-9223372036854775808:Int)≤0; omega,by show(0:Int)≤9223372036854775807; omega,by show(0:Nat)≤_; omega⟩
theorem zpg{w:World}{g:Nat}{x z:Dt}(hg:g<w.heap.size)(hc:∀p v,(cellsOf [x,z])[p]?=some v→w.cell? ⟨g,p,none⟩=some v)(hx:x.rd w)(hz:z.rd w):(yk g x z).rd w:=by
  unfold yk;refine Dt.rd_iff.2 ⟨jga w _ _,gm _,by show(2:Nat)≤_; omega,fun _=>⟨g,0,rfl,fun i t hi=>⟨hg,fun j v hj=>?_⟩⟩,fun t ht=>?_⟩
  · rw[Nat.zero_add];exact hc _ _ (qoj hi hj)
  · rcases ik.1 ht with h|h
    · rw[h]; exact hx
    · rw[iq.1 h]; exact hz
theorem qya{p:Nat→Prop}{g:Nat}{x z:Dt}(hg:p g)(hx:x.at_ p)(hz:z.at_ p):(yk g x z).at_ p:=by
  unfold yk;refine Dt.at_iff.2 ⟨⟨fun h=>absurd rfl h,fun h=>absurd rfl h,fun h=>absurd rfl h,fun h=>absurd rfl h,fun h=>absurd rfl h⟩,fun _ b o e=>?_,fun t ht=>?_⟩
  · cases e; exact hg
  · rcases ik.1 ht with h|h
    · rw[h]; exact hx
    · rw[iq.1 h]; exact hz
def Seen(p:Nat→Prop)(w w':World):Prop:=∀b i v,p b→w.cell? ⟨b,i,none⟩=some v→w'.cell? ⟨b,i,none⟩=some v
theorem jxa{p:Nat→Prop}{w w':World}{so:Option Addr}{l:List Nat}(h:Rd w so l)(hi:In p so l)(hk:Seen p w w'):Rd w' so l:=by
  refine⟨h.dig,fun hne=>?_⟩;obtain⟨b,off,h1,h2,h3⟩:=h.pos hne;have h4:∀j,j<l.length→w'.cell? ⟨b,off+j,none⟩=some (.int .u32 ((l.getD j 0:Nat):Int)):=fun j hj=>hk _ _ _ (hi hne _ _ h1) (h3 j hj);exact⟨b,off,h1,cell_lt (h4 0 (List.length_pos_iff.2 hne)),h4⟩
theorem jxb{p:Nat→Prop}{w w':World}{so:Option Addr}{l:List UInt8}(h:Rb w so l)(hi:In p so l)(hk:Seen p w w'):Rb w' so l:=by
  refine⟨fun hne=>?_⟩;obtain⟨b,off,h1,h2,h3⟩:=h.pos hne;exact⟨b,off,h1,cell_lt (hk _ _ _ (hi hne _ _ h1) (h3 0 (List.length_pos_iff.2 hne))),fun j hj=>hk _ _ _ (hi hne _ _ h1) (h3 j hj)⟩
theorem qve{p:Nat→Prop}{w w':World}{so:Option Addr}{c:Nat}{l:List Nat}(h:Sc w so c l)(hi:In p so l)(hk:Seen p w w'):Sc w' so c l:=⟨jxa h.rd hi hk,h.nil,h.cap⟩
theorem NdOk.seen{p:Nat→Prop}{w w':World}{d:Nd}(h:NdOk w d)(hi:d.at_ p)(hk:Seen p w w'):NdOk w' d:={ h with num:=⟨qve h.num.s1 hi.i1 hk,qve h.num.s2 hi.i2 hk,qve h.num.s3 hi.i3 hk,qve h.num.s4 hi.i4 hk⟩,raw:=jxb h.raw hi.i5 hk }
theorem Rt.seen{p:Nat→Prop}{w w':World}{lo:Option Addr}{ts:List Dt}(h:Rt w lo ts)(hi:In p lo ts)(hk:Seen p w w'):Rt w' lo ts:=fun hne=>by
  obtain⟨b,o,e,h2⟩:=h hne;refine⟨b,o,e,fun i t hi'=>?_⟩;have h4:∀j v,t.cells[j]?=some v→w'.cell? ⟨b,o+i*11+j,none⟩=some v:=fun j v hj=>hk _ _ _ (hi hne _ _ e) ((h2 i t hi').2 j v hj);exact⟨cell_lt (h4 0 _ rfl),h4⟩
theorem Dt.seen{p:Nat→Prop}{w w':World}(hk:Seen p w w'):∀t:Dt,t.rd w→t.at_ p→t.rd w':=
  Dt.indT fun d ts ih h hi=>by
    rw[Dt.rd_iff]at h ⊢;rw[Dt.at_iff]at hi;exact⟨h.1.seen hi.1 hk,h.2.1,h.2.2.1,h.2.2.2.1.seen hi.2.1 hk,fun t ht=>ih t ht (h.2.2.2.2 t ht) (hi.2.2 t ht)⟩
def Lives(T:List Ck)(t:Dt):Prop:=∀w0 w,Mg w0 w T→t.rd w
theorem Lives.sub{T T':List Ck}{t:Dt}(h:Lives T t)(hs:T.Sublist T'):Lives T' t:=fun w0 w hM=>h w0 w (hM.sub hs)
theorem Lives.cons{T:List Ck}{t:Dt}(h:Lives T t)(c:Ck):Lives (c::T) t:=h.sub (List.sublist_cons_self _ _)
theorem Mg.dropn{w0 w:World}{L:List Ck}(h:Mg w0 w L)(n:Nat):Mg w0 w (L.drop n):=h.sub (List.drop_sublist _ _)
def froz(w:World):Nat→Nat→List Ck
  | _, 0 => []
  | k, n + 1 => match w.heap[k]? with
    | some o => .obj k o :: froz w (k + 1) n
    | none => froz w (k + 1) n
theorem qfa{w:World}:∀{n k:Nat} {c:Ck},c∈froz w k n→∃b o,c=.obj b o∧k≤b∧w.heap[b]?=some o
  | 0, k, c, h => by cases h
  | n + 1, k, c, h => by
    rw[froz]at h;cases e:w.heap[k]? with
    | none =>
      rw[e]at h;obtain⟨b,o,h1,h2,h3⟩:=qfa (n:=n) h;exact⟨b,o,h1,by omega,h3⟩
    | some o =>
      rw[e]at h;rcases ik.1 h with h|h
      · exact⟨k,o,h,gm _,e⟩
      · obtain⟨b,o,h1,h2,h3⟩:=qfa (n:=n) h;exact⟨b,o,h1,by omega,h3⟩
theorem qyb{w:World}:∀{n k b:Nat} {o:Obj},k≤b→b<k+n→w.heap[b]?=some o→Ck.obj b o∈froz w k n
  | 0, k, b, o, h1, h2, _ => by omega
  | n + 1, k, b, o, h1, h2, h => by
    rw[froz];by_cases e:k=b
    · subst e; rw[h]; exact iw
    · have ih:=qyb (n:=n) (k:=k+1) (b:=b) (o:=o) (by omega) (by omega) h;cases w.heap[k]? with
      | none => exact ih
      | some o' => exact ix _ ih
theorem qqj{w:World}:∀(n k:Nat),(froz w k n).Pairwise Ap
  | 0, k => .nil
  | n + 1, k => by
    rw[froz];cases w.heap[k]? with
    | none => exact qqj n (k + 1)
    | some o =>
      refine List.pairwise_cons.2 ⟨fun c hc=>?_,qqj n (k+1)⟩;obtain⟨b,o',rfl,h2,_⟩:=qfa hc;show k≠b;omega
theorem jmc{w:World}{n k:Nat}:yu (froz w k n):=fun c hc b bs e=>by
  obtain⟨b',o',h,_⟩:=qfa hc;rw[h]at e; cases e
def made(w w':World):List Ck:=froz w' w.heap.size (w'.heap.size-w.heap.size)
theorem Mg.freeze{w0 w w':World}{L:List Ck}(hM:Mg w0 w L)(hnb:yu L)(hb:Below w.heap.size w w'):Mg w0 w' (made w w'++L):=by
  have h2:=hM.call hb;refine⟨h2.bel,fun c hc=>?_,List.pairwise_append.2 ⟨qqj _ _,h2.dis,fun c hc d hd=>?_⟩⟩
  · rcases lk.1 hc with h|h
    · obtain⟨b,o,rfl,h3,h4⟩:=qfa h;exact⟨gz hM.bel.size h3,h4⟩
    · exact h2.all c h
  · obtain⟨b,o,rfl,h3,h4⟩:=qfa hc;have hl:=Ck.lt (hM.all d hd);cases d with
    | obj g' o' => intro e; subst e; have := (hl b rfl).2; omega
    | row e' sz' v' n' xs' => intro e; have := (hl b e).2; omega
    | bld b' bs' => exact absurd rfl (hnb _ hd b' bs')
theorem qha{w w':World}{t:Dt}(h:t.rd w')(ha:t.at_ (w.heap.size≤·)):Lives (made w w') t:=fun w1 w2 hM=>by
  have hlt:=Dt.at_lt t h;refine Dt.seen (p:=fun b=>w.heap.size≤b) (fun b i v hb hc=>?_) t h ha;have h1:=cell_lt hc;have h2:w'.heap[b]?=some (w'.heap[b]'h1):=Array.getElem?_eq_getElem h1;have h3:=(hM.all _ (qyb (w:=w') (k:=w.heap.size) (n:=w'.heap.size-w.heap.size) hb (by show b<_; simp only at *; omega) h2)).2;unfold World.cell? at hc ⊢;simp only at hc ⊢;rw[h3,←h2]; exact hc
theorem xp{w w':World}:yu (made w w'):=jmc
theorem xe{L M:List Ck}(h:yu L)(k:yu M):yu (L++M):=fun c hc=>(lk.1 hc).elim (h c) (k c)
theorem Mg.freezeAt{w0 w w':World}{L:List Ck}(hM:Mg w0 w L)(n:Nat)(hnb:yu L)(hb:Below w.heap.size w w'):Mg w0 w' (L.take n++(made w w'++L.drop n)):=by
  refine(hM.freeze hnb hb).perm ?_;rw[←f4];refine List.Perm.trans ?_ (List.Perm.append_right _ List.perm_append_comm);rw[f4,List.take_append_drop]
section
variable {α:Type} (f:α→List Value) (m:Nat)
def jb(xs:List α):List Value:=xs.flatMap f
variable {f m} (hf:∀x,(f x).length=m)
include hf in
theorem qyc: ∀xs:List α,(jb f xs).length=xs.length*m
  | [] => by simp [jb]
  | x :: xs => by
    have:=qyc xs;unfold jb at this ⊢;rw[ij,fv,hf,this,fw,Nat.add_mul,Nat.one_mul,Nat.add_comm]
theorem vu(a b:List α):jb f (a++b)=jb f a++jb f b:=ll
include hf in
theorem zfa: ∀(xs:List α) (i:Nat),(jb f xs).drop (i*m)=jb f (xs.drop i)
  | xs, 0 => by rw [Nat.zero_mul]; rfl
  | [], i + 1 => by simp [jb]
  | x :: xs, i + 1 => by
    have:=zfa xs i;rw[List.drop_succ_cons,←this];unfold jb;rw[ij,show(i+1)*m=(f x).length+i*m by rw[hf,Nat.add_mul,Nat.one_mul,Nat.add_comm],List.drop_append,i7 (by omega),Nat.add_sub_cancel_left,f8]
include hf in
theorem zjd{xs:List α}{i:Nat}{x:α}(h:xs[i]?=some x):((jb f xs).drop (i*m)).take m=f x:=by
  obtain⟨hi,rfl⟩:=List.getElem?_eq_some_iff.1 h;rw[zfa hf,List.drop_eq_getElem_cons hi];unfold jb;rw[ij,show m=(f xs[i]).length from(hf _).symm,List.take_left]
end
end Go.Proofs.YtmnlfahgklnpeaaGreatDoor.G
namespace Go.Proofs.YtmnlfahgklnpeaaGreatDoor.G.E
open Go.RowKit
theorem jmd{w:World}{b o:Nat}{v:Value}(h:w.cell? ⟨b,o,none⟩=some v):b<w.heap.size:=by
  apply Classical.byContradiction;intro k;simp[World.cell?,Array.getElem?_eq_none (Nat.le_of_not_lt k)]at h
theorem qyd{α:Type}:∀(L:List α) (k:Nat) (c:α),L[k]?=some c→L.Perm (c::L.eraseIdx k)
  | [], _, _, h => by simp at h
  | a :: t, 0, c, h => by cases h; exact .refl _
  | a :: t, k + 1, c, h => ((qyd t k c (by simpa using h)).cons a).trans (.swap c a _)
theorem _root_.Go.Proofs.YtmnlfahgklnpeaaGreatDoor.G.Mg.bring{w0 w:World}{L L':List Ck}(h:Mg w0 w L)(k:Nat){c:Ck}(hk:L[k]?=some c)(hL:c::L.eraseIdx k=L'):Mg w0 w L':=by
  subst hL;exact h.perm (qyd L k c hk)
section
variable {P:Program} {w0 w:World} {L:List Ck} {l:List (Nat×Value)} {dst:Option Tmp} {ty:TypeId} {pos:String} {after:Array Edge} {guard:Option (Nat×Bool)} {v:Value}
def Rc(w:World)(so:Option Addr)(cs:List Value):Prop:=cs≠[]→∃b off,so=some ⟨b,off,none⟩∧∀p u,cs[p]?=some u→w.cell? ⟨b,off+p,none⟩=some u
theorem Rc.below{w w':World}{so:Option Addr}{cs:List Value}(h:Rc w so cs)(hb:Below w.heap.size w w'):Rc w' so cs:=fun hne=>by
  obtain⟨b,off,e,h2⟩:=h hne;exact⟨b,off,e,fun p u hp=>(hb.cell (jmd (h2 p u hp))).trans (h2 p u hp)⟩
theorem vm{w:World}{B:Nat}{e:TypeId}{sz n cap:Nat}{so:Option Addr}{xs:List Value}(h:w.ownsRow B e sz (.slice so n cap) n xs):Rc w so xs:=fun hne=>by
  rcases h.2 with⟨e1,e2⟩|⟨g,cap',cur,e1,hg,hc,h1,h2,h3,h4⟩
  · subst e2; exact absurd (ia.1 (by rw[h.1]; simp)) hne
  · cases e1
    exact⟨g,0,rfl,fun p u hp=>by rw[Nat.zero_add,World.ownsRow.cellAt h p (by have:=(List.getElem?_eq_some_iff.1 hp).1; rw[h.1]at this; exact this)]; exact hp⟩
theorem yf{e t:TypeId}{sz by_:Nat}{z:Value}{x y:Operand}(ht:P.underlying t=some (.slice e))(hinfo:(P.info? e).map (fun i=>(i.zero,i.size,i.bytes))=some (some z,sz,by_))(hzc:z.cells.size=sz)(hsz:Nat.ble 1 sz=true)(hby:Nat.ble 1 by_=true)(hM:Mg w0 w L)(k:Nat){q:Nat}{xs:List Value}(hk:L[k]?=some (.row e sz v q xs))(hx:ev l x=some v){so:Option Addr}{m c2:Nat}{news:List Value}(hy:ev l y=some (.slice so m c2))(hnl:news.length=m*sz)(hr:Rc w so news)(h1:∀u∈news,u.oneCell'=true)(hlen:(q+m)*by_≤140737488355328):
    ∃v' w',Does P l ⟨dst,.call ⟨.builtin .append,#[x,y],#[t,t]⟩,ty,pos,after,guard⟩ w v' w'∧Mg w0 w' (L.set k (.row e sz v' (q+m) (xs++news))):=by
  obtain⟨i,hi,hzz⟩:=Option.map_eq_some_iff.1 hinfo;simp only[Prod.mk.injEq]at hzz;obtain⟨hz,hs,hb⟩:=hzz;have hrow:=hM.has k hk;by_cases hm:m=0
  · subst hm;have h0:news=[]:=ia.1 (by rw[hnl]; simp);subst h0;obtain⟨aa,cap,hle,rfl⟩:∃aa cap,q≤cap∧v=.slice aa q cap:=by
      rcases hrow.2 with⟨rfl,rfl⟩|⟨g,cap,cur,rfl,_,_,h,_⟩
      · exact⟨none,0,gm _,rfl⟩
      · exact⟨_,cap,h,rfl⟩
    have h2:(sizeOf e).run P w=.ok sz w:=(by simp[sizeOf,typeInfo,hi,hs]);refine⟨.slice aa q cap,w,?_,?_⟩
    · intro ρ h;cases so<;>cases aa<;>simp[execOp,resolve,invoke,builtin,h x _ hx,h y _ hy,Builtin.append_,run_underlying ht,h2,Builtin.lenOf,Builtin.firstCells,loadCells,loadCellsFrom,storeCells,hle]
    · rw[show L.set k (.row e sz (.slice aa q cap) (q+0) (xs++[]))=L from by rw[gh]; exact qwj hk];exact hM
  · have hne:news≠[]:=fun e0=>by
      rw[e0]at hnl;have h5:=Nat.le_of_ble_eq_true hsz;have:0<m*sz:=Nat.mul_pos (by omega) h5;simp at hnl; omega
    obtain⟨b,off,rfl,hcell⟩:=hr hne;have hq:q+m≤(q+m)*by_:=Nat.le_mul_of_pos_right _ (Nat.le_of_ble_eq_true hby);obtain⟨g,cap,w',hr,hown,hgr,hat,hlt⟩:=run_append_lies (P:=P) w t ty w0.heap.size e i z sz by_ ht hi hz hs hb hzc (Nat.le_of_ble_eq_true hsz) v q xs hrow ⟨b,off,none⟩ m c2 news hnl (fun p u hp=>by
        rw[jt];exact hcell p u hp) h1 (by omega) (by unfold maxLen; omega) hlen hM.bel.size w.heap.size rfl
    refine⟨.slice (some ⟨g,0,none⟩) (q+m) cap,w',fun ρ h=>?_,hM.turn k hk (by simp) hgr hown (fun d hd ha=>?_)⟩
    · simp[execOp,resolve,invoke,builtin,h x _ hx,h y _ hy,hr]
    · have hl:=Ck.lt (hM.all d hd);have key:∀z,d.at_=some z→v.ownBlock≠some z→g≠z:=fun z hz hne e=>by
        subst e;rcases hat with h|h
        · exact hne h
        · have:=(hl g hz).2; omega
      cases d with
      | obj g' o' => exact fun e => key g' rfl ha (by simpa [Value.ownBlock] using e)
      | row e' sz' v' n' xs' =>
        right;intro e;have e2:v'.ownBlock=some g:=e.symm;rcases ha with ha|ha
        · exact key g e2 (by rw[ha]; simp) rfl
        · exact key g e2 (fun h=>ha (h.trans e2.symm)) rfl
      | bld b' bs' => exact ⟨ha.1, fun e => key b' rfl ha.2 (by simpa [Value.ownBlock] using e)⟩

end
def strC(l:List ByteArray):List Value:=l.map Value.string
def jme(l:List Bool):List Value:=l.map Value.bool
abbrev Rs(w:World)(so:Option Addr)(l:List ByteArray):Prop:=Rc w so (strC l)
abbrev Rl(w:World)(so:Option Addr)(l:List Bool):Prop:=Rc w so (jme l)
theorem Rs.at_{w:World}{so:Option Addr}{l:List ByteArray}{i:Nat}(h:Rs w so l)(hi:i<l.length):∃b off s,so=some ⟨b,off,none⟩∧w.cell? ⟨b,off+i,none⟩=some (.string s)∧l[i]?=some s:=by
  obtain⟨b,off,e,h2⟩:=h (fun k=>by have:=j9 List.length k; simp[strC]at this; rw[this]at hi; exact absurd hi (j4 _));exact⟨b,off,l[i],e,h2 i _ (by simp[strC,hi]),by simp[hi]⟩
theorem Rl.at_{w:World}{so:Option Addr}{l:List Bool}{i:Nat}(h:Rl w so l)(hi:i<l.length):∃b off s,so=some ⟨b,off,none⟩∧w.cell? ⟨b,off+i,none⟩=some (.bool s)∧l[i]?=some s:=by
  obtain⟨b,off,e,h2⟩:=h (fun k=>by have:=j9 List.length k; simp[jme]at this; rw[this]at hi; exact absurd hi (j4 _));exact⟨b,off,l[i],e,h2 i _ (by simp[jme,hi]),by simp[hi]⟩
theorem Rs.cells{w:World}{so:Option Addr}{l:List ByteArray}(h:Rs w so l)(hne:l≠[]):∃b off,so=some ⟨b,off,none⟩∧∀j,j<l.length→w.cell? ⟨b,off+j,none⟩=some (.string (l.getD j ByteArray.empty)):=by
  obtain⟨b,off,e,h2⟩:=h (fun k=>hne (by cases l with|nil=>rfl|cons a t=>cases k));exact⟨b,off,e,fun j hj=>h2 j _ (by simp[strC,hj])⟩
theorem xu{w:World}{B:Nat}{e:TypeId}{sz n:Nat}{v:Value}{xs:List Value}(h:w.ownsRow B e sz v n xs):∃so ca,v=.slice so n ca:=by
  rcases h.2 with⟨rfl,rfl⟩|⟨g,cap,cur,rfl,_⟩
  · exact⟨none,0,rfl⟩
  · exact⟨_,cap,rfl⟩
structure AskS(P:Program)(f:FuncId)(cs:List Value)(w0:World)(p:ByteArray→Bool):Prop where
  inv:∀(us:Array Value) (w:World),(callFunc f us).run P w=.ok (.enter f us) w
  run:∀(s:ByteArray) (w:World),Below w0.heap.size w0 w→Calls P f ([Value.string s]++cs).toArray w fun e w'=>e=.returned (.bool (p s))∧Below w.heap.size w w'
theorem AskS.below{P:Program}{f:FuncId}{cs:List Value}{w0 w1:World}{p:ByteArray→Bool}(h:AskS P f cs w0 p)(hb:Below w0.heap.size w0 w1):AskS P f cs w1 p:=⟨h.inv,fun s w k=>h.run s w (hb.trans (k.mono hb.size))⟩
open Go.Lib Go.Sort Go.Proofs
def xjg(l:List ByteArray)(bs:List Bool):List ByteArray:=((l.zip bs).filter (·.2)).map (·.1)
theorem mem_map(l:List ByteArray)(f:ByteArray→Bool):xjg l (l.map f)=l.filter f:=by
  unfold xjg
  induction l with
  | nil => rfl
  | cons a t ih =>
    rw[i6,List.zip_cons_cons,List.filter_cons,List.filter_cons];by_cases h:f a=true
    · rw[gj h,gj h,i6,ih]
    · rw[f7 h,f7 h,ih]
end Go.Proofs.YtmnlfahgklnpeaaGreatDoor.G.E
namespace Go.Proofs.YtmnlfahgklnpeaaGreatDoor.G
open Go.RowKit

structure Ty where
  nm:ByteArray
  par:Int
  fo:Option Addr
  fc:Nat
  fs:List ByteArray
  mo:Option Addr
  mc:Nat
  ms:List Bool
  sl:Bool
  op:Bool
  ui:ByteArray
def Ty.c(t:Ty):List Value:=[.string t.nm,.int .i64 t.par,.slice t.fo t.fs.length t.fc,.slice t.mo t.ms.length t.mc,.bool t.sl,.bool t.op,.string t.ui]
structure TK where
  nm:ByteArray
  par:Int
  fs:List ByteArray
  ms:List Bool
  sl:Bool
  op:Bool
  ui:ByteArray
def Ty.k(t:Ty):TK:=⟨t.nm,t.par,t.fs,t.ms,t.sl,t.op,t.ui⟩
structure Rk where
  kd:Nat
  vo:Option Addr
  vc:Nat
  vs:List Dt
def Rk.c(r:Rk):List Value:=[.int .i64 ((r.kd:Nat):Int),.slice r.vo r.vs.length r.vc]
def Rk.k(r:Rk):Nat×List Tr:=(r.kd,r.vs.map Dt.tr)
theorem xfi(t:Ty):t.c.length=7:=rfl
theorem xfj(r:Rk):r.c.length=2:=rfl
theorem qkd{α:Type}{f:α→List Value}{m:Nat}(hf:∀x,(f x).length=m)(hm:0<m){w:World}{so:Option Addr}{xs:List α}(h:Rc w so (jb f xs)){i:Nat}{x:α}(hi:xs[i]?=some x):∃b o,so=some ⟨b,o,none⟩∧Here w b (o+i*m) (f x):=by
  have hl:=(List.getElem?_eq_some_iff.1 hi).1;have hlen:=qyc hf xs;obtain⟨b,o,e,h2⟩:=h (fun k=>by
    rw[k]at hlen;have:0<xs.length*m:=Nat.mul_pos (by omega) hm;simp only[fx]at hlen; omega)
  refine⟨b,o,e,?_⟩;have key:∀(j:Nat) v,(f x)[j]?=some v→w.cell? ⟨b,o+i*m+j,none⟩=some v:=fun j v hj=>by
    have hjm:j<m:=(by have:=(List.getElem?_eq_some_iff.1 hj).1; rw[hf]at this; exact this);have h4:=zjd hf hi;rw[←h4,List.getElem?_take,gj hjm,List.getElem?_drop]at hj;rw[Nat.add_assoc];exact h2 _ v hj
  have h0:(f x)[0]?=some ((f x)[0]'(by rw[hf]; exact hm)):=List.getElem?_eq_getElem _;exact⟨cell_lt (key 0 _ h0),key⟩
structure TyR(w:World)(t:Ty):Prop where
  f:E.Rs w t.fo t.fs
  m:E.Rl w t.mo t.ms
theorem TyR.below{w w':World}{t:Ty}(h:TyR w t)(hb:Below w.heap.size w w'):TyR w' t:=⟨h.f.below hb,h.m.below hb⟩
structure RkR(w:World)(r:Rk):Prop where
  v:Rt w r.vo r.vs
  d:∀t∈r.vs,t.rd w
theorem RkR.below{w w':World}{r:Rk}(h:RkR w r)(hb:Below w.heap.size w w'):RkR w' r:=⟨h.v.below hb,fun t ht=>Dt.keep hb _ (h.d t ht)⟩
structure TR(w:World)(so:Option Addr)(ts:List Ty):Prop where
  row:Rc w so (jb Ty.c ts)
  own:∀t∈ts,TyR w t
structure RR(w:World)(so:Option Addr)(rs:List Rk):Prop where
  row:Rc w so (jb Rk.c rs)
  own:∀r∈rs,RkR w r
theorem TR.below{w w':World}{so:Option Addr}{ts:List Ty}(h:TR w so ts)(hb:Below w.heap.size w w'):TR w' so ts:=⟨h.row.below hb,fun t ht=>(h.own t ht).below hb⟩
theorem RR.below{w w':World}{so:Option Addr}{rs:List Rk}(h:RR w so rs)(hb:Below w.heap.size w w'):RR w' so rs:=⟨h.row.below hb,fun t ht=>(h.own t ht).below hb⟩
theorem TR.at_{w:World}{so:Option Addr}{ts:List Ty}(h:TR w so ts){i:Nat}(hi:i<ts.length):∃t b o,ts[i]?=some t∧t∈ts∧TyR w t∧so=some ⟨b,o,none⟩∧Here w b (o+i*7) t.c:=by
  have e:ts[i]?=some ts[i]:=List.getElem?_eq_getElem hi;obtain⟨b,o,h1,h2⟩:=qkd xfi (by decide) h.row e;exact⟨ts[i],b,o,e,ip hi,h.own _ (ip hi),h1,h2⟩
theorem RR.at_{w:World}{so:Option Addr}{rs:List Rk}(h:RR w so rs){i:Nat}(hi:i<rs.length):∃r b o,rs[i]?=some r∧r∈rs∧RkR w r∧so=some ⟨b,o,none⟩∧Here w b (o+i*2) r.c:=by
  have e:rs[i]?=some rs[i]:=List.getElem?_eq_getElem hi;obtain⟨b,o,h1,h2⟩:=qkd xfj (by decide) h.row e;exact⟨rs[i],b,o,e,ip hi,h.own _ (ip hi),h1,h2⟩
def chn(ps:List Int):Nat→Int→List Int
  | 0, _ => []
  | n + 1, t => if t < 0 then [] else t :: chn ps n (ps.getD t.toNat (-1))
def chT(ps:List Int)(t:Int):List Int:=chn ps (t+1).toNat t
def Wf(ps:List Int):Prop:=∀(i:Nat) (p:Int),ps[i]?=some p→-1≤p∧p<((i:Nat):Int)
theorem Wf.at_{ps:List Int}(h:Wf ps){t:Int}(h0:0≤t):-1≤ps.getD t.toNat (-1)∧ps.getD t.toNat (-1)<t:=by
  rw[List.getD_eq_getElem?_getD];cases e:ps[t.toNat]? with
  | none => exact ⟨Int.le_refl _, by show -1 < t; omega⟩
  | some p =>
    have:=h _ _ e;show -1≤p∧p<t;omega
theorem zph{ps:List Int}(h:Wf ps):∀(n m:Nat) (t:Int),-1≤t→(t+1).toNat≤n→(t+1).toNat≤m→chn ps n t=chn ps m t
  | 0, 0, _, _, _, _ => rfl
  | 0, m + 1, t, h0, h1, h2 => by rw [chn, chn, gj (by omega)]
  | n + 1, 0, t, h0, h1, h2 => by rw [chn, chn, gj (by omega)]
  | n + 1, m + 1, t, h0, h1, h2 => by
    rw[chn,chn];by_cases ht:t<0
    · rw[gj ht,gj ht]
    · rw[f7 ht,f7 ht];have:=h.at_ (t:=t) (by omega);rw[zph h n m _ this.1 (by omega) (by omega)]
theorem jxc{ps:List Int}{t:Int}(h:t<0):chT ps t=[]:=by
  unfold chT;cases e:(t+1).toNat with
  | zero => rfl
  | succ n => rw [chn, gj h]
theorem jmf{ps:List Int}(hw:Wf ps){t:Int}(h:0≤t):chT ps t=t::chT ps (ps.getD t.toNat (-1)):=by
  have:=hw.at_ (t:=t) h;unfold chT;rw[show(t+1).toNat=t.toNat+1 by omega,chn,f7 (by omega),zph hw t.toNat (ps.getD t.toNat (-1)+1).toNat _ this.1 (by omega) (gm _)]
theorem jdb(ps:List Int):∀(n:Nat) (t:Int),(chn ps n t).length≤n
  | 0, t => gm _
  | n + 1, t => by
    rw[chn]
    split
    · simp
    · have:=jdb ps n (ps.getD t.toNat (-1));simp only[fw]; omega
theorem jxd(ps:List Int)(t:Int):(chT ps t).length≤(t+1).toNat:=jdb ps _ t
theorem jdc{ps:List Int}(hw:Wf ps):∀(n:Nat) (t:Int),∀x∈chn ps n t,0≤x∧x≤t
  | 0, t, x, h => by cases h
  | n + 1, t, x, h => by
    rw[chn]at h
    split at h
    · cases h
    · rename_i ht;rcases ik.1 h with rfl|h
      · omega
      · have:=hw.at_ (t:=t) (by omega);have:=jdc hw n _ x h;omega
theorem jxe{ps:List Int}(hw:Wf ps){t x:Int}(h:x∈chT ps t):0≤x∧x≤t:=jdc hw _ _ x h
def inC(xs:List Int):List Value:=xs.map (.int .i64 ·)
theorem zvj(a b:List Int):inC (a++b)=inC a++inC b:=j6
theorem jxf(l:List Int):∀u∈inC l,u.oneCell'=true:=by
  intro u hu;obtain⟨x,_,rfl⟩:=List.mem_map.1 hu;rfl
theorem xdi{w:World}{so:Option Addr}{l:List Int}(h:Rc w so (inC l)){i:Nat}(hi:i<l.length):∃b off z,so=some ⟨b,off,none⟩∧w.cell? ⟨b,off+i,none⟩=some (.int .i64 z)∧l[i]?=some z∧z∈l:=by
  obtain⟨b,off,e,h2⟩:=h (fun k=>by have:=j9 List.length k; simp[inC]at this; rw[this]at hi; exact absurd hi (j4 _));exact⟨b,off,l[i],e,h2 i _ (by simp[inC,hi]),by simp[hi],ip hi⟩
section
variable {P:Program} {w:World} {l:List (Nat×Value)} {dst:Option Tmp} {ty:TypeId} {pos:String} {after:Array Edge} {guard:Option (Nat×Bool)} {v:Value}
theorem qvf{b o:Nat}(hc:w.cell? ⟨b,o,none⟩=some v){t:TypeId}(ht:Is1 P t){x:Operand}(hx:ev l x=some (.pointer (some ⟨b,o,none⟩))):Does P l ⟨dst,.load t x,ty,pos,after,guard⟩ w v w:=ju hx (vz ht hc)
theorem jgb{b o n:Nat}{cs:List Value}(hH:Here w b o cs){t:TypeId}(ht:IsS P t n){x:Operand}(hx:ev l x=some (.pointer (some ⟨b,o,none⟩)))(hl:cs.length=n):Does P l ⟨dst,.load t x,ty,pos,after,guard⟩ w (.agg cs.toArray) w:=ju hx (vy ht cs hl fun j y hj=>hH.2 j y hj)
end
def ixG{α:Type}(p:α→Bool)(l:List α):Int:=match l.findIdx? p with|some i=>((i:Nat):Int)|none=>-1
theorem zje{α:Type}{p:α→Bool}{l:List α}{i:Nat}{s:α}(hb:∀(j:Nat) u,j<i→l[j]?=some u→p u=false)(h:l[i]?=some s)(hp:p s=true):ixG p l=((i:Nat):Int):=by
  obtain⟨h1,h2⟩:=List.getElem?_eq_some_iff.1 h;have:l.findIdx? p=some i:=List.findIdx?_eq_some_iff_getElem.2 ⟨h1,by rw[h2]; exact hp,fun j hj=>by rw[hb j _ hj (List.getElem?_eq_getElem (by omega))]; decide⟩;unfold ixG;rw[this]
theorem qye{α:Type}{p:α→Bool}{l:List α}(hb:∀(j:Nat) u,j<l.length→l[j]?=some u→p u=false):ixG p l=-1:=by
  have:l.findIdx? p=none:=by
    rw[List.findIdx?_eq_none_iff];intro x hx;obtain⟨i,hi,rfl⟩:=List.getElem_of_mem hx;exact hb i _ hi (List.getElem?_eq_getElem hi)
  unfold ixG;rw[this]
theorem jxg{α:Type}(p:α→Bool)(l:List α):decide (0≤ixG p l)=l.any p:=by
  unfold ixG;cases h:l.findIdx? p with
  | none =>
    rw[List.findIdx?_eq_none_iff]at h;have:l.any p=false:=(by rw[List.any_eq_false]; intro x hx; rw[h x hx]; decide);rw[this]; rfl
  | some i =>
    obtain⟨h1,h2,_⟩:=List.findIdx?_eq_some_iff_getElem.1 h;have:l.any p=true:=List.any_eq_true.2 ⟨_,ip h1,h2⟩;rw[this];simp
theorem jmg{α:Type}{p:α→Bool}{l:List α}(h:0≤ixG p l):∃s,l[(ixG p l).toNat]?=some s∧p s=true:=by
  unfold ixG at h ⊢;cases e:l.findIdx? p with
  | none => rw [e] at h; exact absurd h (by decide)
  | some i =>
    obtain⟨h1,h2,_⟩:=List.findIdx?_eq_some_iff_getElem.1 e;exact⟨l[i],List.getElem?_eq_getElem h1,h2⟩
theorem qyf{α:Type}(p:α→Bool)(l:List α):-1≤ixG p l∧ixG p l<((l.length:Nat):Int):=by
  unfold ixG;cases e:l.findIdx? p with
  | none => exact ⟨Int.le_refl _, by show (-1 : Int) < _; omega⟩
  | some i =>
    obtain⟨h1,_⟩:=List.findIdx?_eq_some_iff_getElem.1 e;exact⟨by show(-1:Int)≤((i:Nat):Int); omega,by show((i:Nat):Int)<_; omega⟩
theorem jxh{α β:Type}(f:α→β)(p:β→Bool)(l:List α):ixG p (l.map f)=ixG (fun x=>p (f x)) l:=by unfold ixG; rw[List.findIdx?_map]; rfl
structure AskG{α:Type}(v:α→Value)(P:Program)(f:FuncId)(cs:List Value)(w0:World)(l:List α)(p:α→Bool):Prop where
  inv:∀(us:Array Value) (w:World),(callFunc f us).run P w=.ok (.enter f us) w
  run:∀(x:α) (w:World),x∈l→Below w0.heap.size w0 w→Calls P f ([v x]++cs).toArray w (RB w (.bool (p x)))
theorem AskG.below{α:Type}{v:α→Value}{P:Program}{f:FuncId}{cs:List Value}{w0 w1:World}{l:List α}{p:α→Bool}(h:AskG v P f cs w0 l p)(hb:Below w0.heap.size w0 w1):AskG v P f cs w1 l p:=⟨h.inv,fun s w hs k=>h.run s w hs (hb.trans (k.mono hb.size))⟩
structure SR(w:World)(b:Nat)(tz:Option Addr)(tc:Nat)(ts:List Ty)(ro:Option Addr)(rc:Nat)(rs:List Rk):Prop where
  c0:w.cell? ⟨b,0,none⟩=some (.slice tz ts.length tc)
  c1:w.cell? ⟨b,1,none⟩=some (.slice ro rs.length rc)
  T:TR w tz ts
  R:RR w ro rs
theorem SR.below{w w':World}{b:Nat}{tz:Option Addr}{tc:Nat}{ts:List Ty}{ro:Option Addr}{rc:Nat}{rs:List Rk}(h:SR w b tz tc ts ro rc rs)(hb:Below w.heap.size w w'):SR w' b tz tc ts ro rc rs:=⟨(hb.cell (cell_lt h.c0)).trans h.c0,(hb.cell (cell_lt h.c1)).trans h.c1,h.T.below hb,h.R.below hb⟩
def okT(n:Nat)(t:Int):Bool:=decide (0≤t)&&decide (t<((n:Nat):Int))
theorem qba{n:Nat}{t:Int}(h:okT n t=true):0≤t∧t<((n:Nat):Int):=by unfold okT at h; simpa using h
structure Kd where
  nm:ByteArray
  par:Int
  own:Int
def Kd.c(k:Kd):List Value:=[.string k.nm,.int .i64 k.par,.int .i64 k.own]
theorem xga(k:Kd):k.c.length=3:=rfl
def kds: List Kd:=[
  ⟨⟨#[99,111,110,100,105,116,105,111,110]⟩,-1,0⟩,
  ⟨⟨#[109,101,115,115,97,103,101]⟩,0,1⟩,
  ⟨⟨#[119,97,114,110,105,110,103]⟩,0,0⟩,
  ⟨⟨#[115,101,114,105,111,117,115]⟩,0,0⟩,
  ⟨⟨#[101,114,114,111,114]⟩,3,0⟩,
  ⟨⟨#[118,105,111,108,97,116,105,111,110]⟩,3,0⟩,
  ⟨⟨#[97,115,115,101,114,116,105,111,110]⟩,5,0⟩,
  ⟨⟨#[105,114,114,105,116,97,110,116,115]⟩,0,1⟩,
  ⟨⟨#[119,104,111]⟩,0,1⟩,
  ⟨⟨#[110,111,110,45,99,111,110,116,105,110,117,97,98,108,101]⟩,5,0⟩,
  ⟨⟨#[105,109,112,108,101,109,101,110,116,97,116,105,111,110,45,114,101,115,116,114,105,99,116,105,111,110]⟩,5,0⟩,
  ⟨⟨#[108,101,120,105,99,97,108]⟩,5,0⟩,
  ⟨⟨#[115,121,110,116,97,120]⟩,5,2⟩,
  ⟨⟨#[117,110,100,101,102,105,110,101,100]⟩,5,0⟩,
  ⟨⟨#[105,47,111]⟩,4,0⟩,
  ⟨⟨#[105,47,111,45,114,101,97,100]⟩,14,0⟩,
  ⟨⟨#[105,47,111,45,119,114,105,116,101]⟩,14,0⟩,
  ⟨⟨#[105,47,111,45,102,105,108,101,110,97,109,101]⟩,14,1⟩,
  ⟨⟨#[105,47,111,45,102,105,108,101,45,100,111,101,115,45,110,111,116,45,101,120,105,115,116]⟩,17,0⟩,
  ⟨⟨#[105,47,111,45,102,105,108,101,45,97,108,114,101,97,100,121,45,101,120,105,115,116,115]⟩,17,0⟩]
def xx: Kd:=⟨⟨#[]⟩,0,0⟩
def kat(t:Int):Kd:=if okT 20 t=true then kds.getD t.toNat xx else xx
theorem qyg{t:Int}(h:okT 20 t=false):kat t=xx:=f7 (by rw[h]; decide)
theorem qra{t:Int}(h:okT 20 t=true):kat t=kds.getD t.toNat xx:=gj h
theorem qah{n:Nat}{t:Int}(h0:0≤t)(h1:t<((n:Nat):Int)):okT n t=true:=by unfold okT; rw[gv h0,gv h1]; rfl
theorem zjf{n:Nat}{t:Int}(h0:t<0):okT n t=false:=by unfold okT; rw[gn (by omega)]; rfl
theorem zjg{n:Nat}{t:Int}(h0:((n:Nat):Int)≤t):okT n t=false:=by unfold okT; rw[gn (show ¬t<((n:Nat):Int)by omega),Bool.and_false]
theorem jmh{t:Int}(h:okT 20 t=true):kds[t.toNat]?=some (kat t):=by
  have h1:=qba h;rw[qra h,List.getD_eq_getElem?_getD,List.getElem?_eq_getElem (show t.toNat<kds.length by show t.toNat<20; omega)];rfl
def pC: List Int:=[-1,0,0,0,3,3,5,0,0,5,5,5,5,5,4,14,14,14,17,17]
theorem wfC: Wf pC:=by
  intro i p h;have hi:=(List.getElem?_eq_some_iff.1 h).1;have key:∀i,i<20→-1≤pC.getD i 0∧pC.getD i 0<((i:Nat):Int):=by decide
  have:=key i hi;rw[List.getD_eq_getElem?_getD,h]at this;exact this
theorem jxi: ∀i,i<20→(kds.getD i xx).par=pC.getD i (-1):=by decide
theorem jmi{t:Int}(h:okT 20 t=true):pC.getD t.toNat (-1)=(kat t).par:=by
  have h1:=qba h;rw[qra h,jxi _ (by omega)]
theorem qdi{t:Int}(h:okT 20 t=true):-1≤(kat t).par∧(kat t).par<t:=by
  have:=wfC.at_ (qba h).1
  rwa [jmi h]at this
def chC(t:Int):List Int:=chT pC t
theorem zjh: chC (-1)=[]:=jxc (by decide)
theorem qyh{t:Int}(h:okT 20 t=true):chC t=t::chC (kat t).par:=by
  unfold chC;rw[jmf wfC (qba h).1,jmi h]
theorem jxj{t x:Int}(h:okT 20 t=true)(hx:x∈chC t):okT 20 x=true:=by
  have h1:=jxe wfC hx;have h2:=qba h;exact qah h1.1 (by omega)
theorem zji{t:Int}(h:okT 20 t=true):(chC t).length≤20:=by
  have h1:=jxd pC t;have h2:=qba h;unfold chC;omega
def yn(t o:Int):Bool:=(chC t).any fun z=>o==z
def un(t:Int):Int:=((chC t).map fun x=>(kat x).own).sum
theorem jya: ∀i,i<20→0≤(kds.getD i xx).own∧(kds.getD i xx).own≤2:=by decide
theorem jdd(t:Int):0≤(kat t).own∧(kat t).own≤2:=by
  unfold kat
  split
  · rename_i h;exact jya _ (by have:=qba h; omega)
  · decide
theorem jyb: ∀i,i<20→0≤un ((i:Nat):Int)∧un ((i:Nat):Int)≤2:=by decide +kernel
theorem jyc{t:Int}(h:okT 20 t=true):0≤un t∧un t≤2:=by
  have h1:=qba h;have:=jyb t.toNat (by omega)
  rwa [show((t.toNat:Nat):Int)=t by omega]at this
theorem jmj{l:List Int}{i:Nat}{x:Int}(f:Int→Int)(h:l[i]?=some x):((l.take (i+1)).map f).sum=((l.take i).map f).sum+f x:=by
  rw[List.take_add_one,h,Option.toList_some,j6,List.sum_append];simp
theorem jyd{l:List Int}:0≤(l.map fun x=>(kat x).own).sum∧(l.map fun x=>(kat x).own).sum≤2*((l.length:Nat):Int):=by
  induction l with
  | nil => simp
  | cons x xs ih =>
    have:=jdd x;simp only[i6,List.sum_cons,fw];omega
structure Sp where
  ty:Int
  vo:Option Addr
  vc:Nat
  vs:List Dt
def Sp.c(p:Sp):List Value:=[.int .i64 p.ty,.slice p.vo p.vs.length p.vc]
def Sp.k(p:Sp):Int×List Tr:=(p.ty,p.vs.map Dt.tr)
theorem jna(p:Sp):p.c.length=2:=rfl
theorem qig(ps:List Sp):∀u∈jb Sp.c ps,u.oneCell'=true:=by
  intro u hu;unfold jb at hu;obtain⟨t,_,ht⟩:=List.mem_flatMap.1 hu;unfold Sp.c at ht;simp only[ik,List.not_mem_nil,or_false]at ht;rcases ht with h|h<;>subst h<;>rfl
structure SpR(w:World)(p:Sp):Prop where
  v:Rt w p.vo p.vs
  d:∀t∈p.vs,t.rd w
theorem SpR.below{w w':World}{p:Sp}(h:SpR w p)(hb:Below w.heap.size w w'):SpR w' p:=⟨h.v.below hb,fun t ht=>Dt.keep hb _ (h.d t ht)⟩
structure PR(w:World)(so:Option Addr)(ps:List Sp):Prop where
  row:Rc w so (jb Sp.c ps)
  own:∀p∈ps,SpR w p
theorem PR.below{w w':World}{so:Option Addr}{ps:List Sp}(h:PR w so ps)(hb:Below w.heap.size w w'):PR w' so ps:=⟨h.row.below hb,fun t ht=>(h.own t ht).below hb⟩
theorem PR.at_{w:World}{so:Option Addr}{ps:List Sp}(h:PR w so ps){i:Nat}(hi:i<ps.length):∃p b o,ps[i]?=some p∧p∈ps∧SpR w p∧so=some ⟨b,o,none⟩∧Here w b (o+i*2) p.c:=by
  have e:ps[i]?=some ps[i]:=List.getElem?_eq_getElem hi;obtain⟨b,o,h1,h2⟩:=qkd jna (by decide) h.row e;exact⟨ps[i],b,o,e,ip hi,h.own _ (ip hi),h1,h2⟩
def ckP(k:Int×List Tr):Int:=
  if okT 20 k.1=true then
    if((k.2.length:Nat):Int)=un k.1 then
      if k.2.all (qs qh)=true then 0 else 2
    else 1
  else 7
def ckA: List (Int×List Tr)→Int
  | [] => 0
  | k :: ks => if ckP k = 0 then ckA ks else ckP k
def ckC(ks:List (Int×List Tr)):Int:=if 16<ks.length then 4 else ckA ks
theorem zpi{p:Sp}(h:okT 20 p.ty=false):ckP p.k=7:=f7 (by rw[show p.k.1=p.ty from rfl,h]; decide)
theorem jde{p:Sp}(h:okT 20 p.ty=true)(h1:((p.vs.length:Nat):Int)≠un p.ty):ckP p.k=1:=by
  unfold ckP;rw[gj (show okT 20 p.k.1=true from h),f7 (show ¬((p.k.2.length:Nat):Int)=un p.k.1 from fun e=>h1 (by rw[show p.k.2.length=p.vs.length from gy _]at e; exact e))]
theorem qvg{p:Sp}(h:okT 20 p.ty=true)(h1:((p.vs.length:Nat):Int)=un p.ty){b:Bool}(h2:(p.vs.map Dt.tr).all (qs qh)=b):ckP p.k=if b=true then 0 else 2:=by
  unfold ckP;rw[gj (show okT 20 p.k.1=true from h),gj (show((p.k.2.length:Nat):Int)=un p.k.1 from by rw[show p.k.2.length=p.vs.length from gy _]; exact h1),show p.k.2.all (qs qh)=b from h2]
theorem qfb{ks:List (Int×List Tr)}{i:Nat}{k:Int×List Tr}(h:ks[i]?=some k):ckA (ks.drop i)=if ckP k=0 then ckA (ks.drop (i+1))else ckP k:=by
  obtain⟨hi,rfl⟩:=List.getElem?_eq_some_iff.1 h;rw[List.drop_eq_getElem_cons hi,ckA]
theorem yg{ps:List Sp}{i:Nat}{p:Sp}(h:ps[i]?=some p):(ps.map Sp.k)[i]?=some p.k:=by rw[List.getElem?_map,h]; rfl
theorem xgb{ks:List (Int×List Tr)}:ckA ks=0→∀k∈ks,ckP k=0:=by
  induction ks with
  | nil => intro _ k hk; cases hk
  | cons x xs ih =>
    intro h k hk;rw[ckA]at h;by_cases hx:ckP x=0
    · rw[gj hx]at h;rcases ik.1 hk with rfl|hk
      · exact hx
      · exact ih h k hk
    · rw[f7 hx]at h; exact absurd h hx
theorem zjj{ks:List (Int×List Tr)}(h:ckC ks=0):ks.length≤16∧∀k∈ks,ckP k=0:=by
  unfold ckC at h
  split at h
  · cases h
  · exact⟨by omega,xgb h⟩
theorem zfb{ks:List (Int×List Tr)}(h:16<ks.length):ckC ks=4:=gj h
theorem qcb{ks:List (Int×List Tr)}(h:ks.length≤16):ckC ks=ckA ks:=f7 (by omega)
theorem zka{k:Int×List Tr}(h:ckP k=0):okT 20 k.1=true∧((k.2.length:Nat):Int)=un k.1∧k.2.all (qs qh)=true:=by
  unfold ckP at h
  split at h
  · rename_i h1
    split at h
    · rename_i h2
      split at h
      · rename_i h3; exact⟨h1,h2,h3⟩
      · cases h
    · cases h
  · cases h
def fdI(ks:List (Int×List Tr))(t:Int):Int:=ixG (fun k=>yn k.1 t) ks
section
variable {P:Program} {w0 w:World} {L:List Ck} {l:List (Nat×Value)} {dst:Option Tmp} {ty:TypeId} {pos:String} {after:Array Edge} {guard:Option (Nat×Bool)} {v:Value}
theorem jye{t e:TypeId}{sz n:Nat}(hu:P.underlying t=some (.array n e))(he:(P.info? e).map (·.size)=some sz){g o k:Nat}(hk:k<n):∀w,(Instr.indexAt t (.pointer (some ⟨g,o,none⟩)) (.int .i64 (k:Nat))).run P w=.ok (.pointer (some ⟨g,o+k*sz,none⟩)) w:=fun w=>by
  obtain⟨i,hi,hs⟩:=vx he;have h2:(sizeOf e).run P w=.ok sz w:=by simp[sizeOf,typeInfo,hi,hs]
  have h3:(0:Int)≤(k:Nat)∧((k:Nat):Int)<(n:Nat):=⟨by omega,by omega⟩;simp[Instr.indexAt,asIntOf,Instr.sureAddr,run_underlying hu,h2,h3,jt];intro h;omega
theorem jnb{t e:TypeId}{sz n:Nat}(hu:P.underlying t=some (.array n e))(he:(P.info? e).map (·.size)=some sz){x i:Operand}{g k:Nat}{z:Int}(hx:ev l x=some (.pointer (some ⟨g,0,none⟩)))(hi:ev l i=some (.int .i64 z))(hz:z=(k:Nat))(hk:k<n):
    Does P l ⟨dst,.indexAddr t x i,ty,pos,after,guard⟩ w (.pointer (some ⟨g,k*sz,none⟩)) w:=by
  subst hz;have:=jj (l:=l) (dst:=dst) (ty:=ty) (pos:=pos) (after:=after) (guard:=guard) (w:=w) hx hi (jye hu he (o:=0) hk)
  rwa [Nat.zero_add]at this
end
structure Sp.at_(q:Nat→Prop)(p:Sp):Prop where
  v:In q p.vo p.vs
  d:∀t∈p.vs,t.at_ q
theorem Sp.at_.mono{q r:Nat→Prop}{p:Sp}(h:p.at_ q)(hq:∀b,q b→r b):p.at_ r:=⟨h.v.mono hq,fun t ht=>Dt.at_mono hq _ (h.d t ht)⟩
theorem SpR.kept{q:Nat→Prop}{w w':World}{p:Sp}(h:SpR w p)(ha:p.at_ q)(hk:Kept q w w'):SpR w' p:=⟨h.v.kept ha.v hk,fun t ht=>Dt.kept hk _ (h.d t ht) (ha.d t ht)⟩
theorem SpR.seen{q:Nat→Prop}{w w':World}{p:Sp}(h:SpR w p)(ha:p.at_ q)(hk:Seen q w w'):SpR w' p:=⟨h.v.seen ha.v hk,fun t ht=>Dt.seen hk _ (h.d t ht) (ha.d t ht)⟩
theorem zfc{w w' w1 w2:World}(hM:Mg w1 w2 (made w w')):Seen (w.heap.size≤·) w' w2:=fun b i v hb hc=>by
  have h1:=cell_lt hc;have h2:w'.heap[b]?=some (w'.heap[b]'h1):=Array.getElem?_eq_getElem h1;have h3:=(hM.all _ (qyb (w:=w') (k:=w.heap.size) (n:=w'.heap.size-w.heap.size) hb (by show b<_; simp only at *; omega) h2)).2;unfold World.cell? at hc ⊢;simp only at hc ⊢;rw[h3,←h2]; exact hc
def SpOk(B g:Nat)(w:World)(cs:List Sp):Prop:=∀p∈cs,SpR w p∧p.at_ (fun b=>B≤b∧b≠g)
theorem SpOk.below{B g:Nat}{w w':World}{cs:List Sp}(h:SpOk B g w cs)(hb:Below w.heap.size w w'):SpOk B g w' cs:=fun t ht=>⟨(h t ht).1.below hb,(h t ht).2⟩
def ue: Sp:=⟨0,none,0,[]⟩
def PB(ps:List Sp):Prop:=∀p∈ps,Tr.bulks (p.vs.map Dt.tr)≤100000000
theorem PB.len{ps:List Sp}(h:PB ps){p:Sp}(hp:p∈ps):p.vs.length≤100000000:=gz (yj _) (h p hp)
theorem zwa(ps:List Sp)(t:Int):fdI (ps.map Sp.k) t=ixG (fun p:Sp=>yn p.ty t) ps:=by unfold fdI; rw[jxh]; rfl
theorem qpa{ps:List Sp}(h:ckC (ps.map Sp.k)=0):∀p∈ps,okT 20 p.ty=true:=fun p hp=>(zka ((zjj h).2 _ (j5 hp))).1
structure Cn where
  so:Option Addr
  ca:Nat
  ps:List Sp
def Cn.c(c:Cn):List Value:=[.slice c.so c.ps.length c.ca]
theorem xgc(c:Cn):c.c.length=1:=rfl
structure CR(w:World)(lo:Option Addr)(ls:List Cn):Prop where
  row:Rc w lo (jb Cn.c ls)
  own:∀c∈ls,PR w c.so c.ps
theorem CR.below{w w':World}{lo:Option Addr}{ls:List Cn}(h:CR w lo ls)(hb:Below w.heap.size w w'):CR w' lo ls:=⟨h.row.below hb,fun c hc=>(h.own c hc).below hb⟩
theorem CR.at_{w:World}{lo:Option Addr}{ls:List Cn}(h:CR w lo ls){i:Nat}(hi:i<ls.length):∃c b o,ls[i]?=some c∧c∈ls∧PR w c.so c.ps∧lo=some ⟨b,o,none⟩∧Here w b (o+i*1) c.c:=by
  have e:ls[i]?=some ls[i]:=List.getElem?_eq_getElem hi;obtain⟨b,o,h1,h2⟩:=qkd xgc (by decide) h.row e;exact⟨ls[i],b,o,e,ip hi,h.own _ (ip hi),h1,h2⟩
theorem ke: Is1 Tryz.prog 28:=⟨⟨_,f9,rfl⟩,by kernel_rfl⟩
theorem o93: Is1 Tryz.prog 3:=⟨⟨_,i8,rfl⟩,by kernel_rfl⟩
theorem xk: FieldAt Tryz.prog 30 0 0:=⟨_,_,iu,rfl,rfl,by kernel_rfl⟩
theorem jz: FieldAt Tryz.prog 30 5 10:=⟨_,_,iu,rfl,rfl,by kernel_rfl⟩
theorem jgc: Is1 Tryz.prog 22:=⟨⟨_,im,rfl⟩,by kernel_rfl⟩
theorem quf: Is1 Tryz.prog 27:=⟨⟨_,ib,rfl⟩,by kernel_rfl⟩
theorem o94: Is1 Tryz.prog 4:=⟨⟨_,lf,rfl⟩,by kernel_rfl⟩
theorem o99: Is1 Tryz.prog 9:=⟨⟨_,gi,rfl⟩,by kernel_rfl⟩
theorem zwb: FieldAt Tryz.prog 24 0 0:=⟨_,_,iv,rfl,rfl,by kernel_rfl⟩
theorem zwc: FieldAt Tryz.prog 24 1 1:=⟨_,_,iv,rfl,rfl,by kernel_rfl⟩
theorem zwd: FieldAt Tryz.prog 24 2 2:=⟨_,_,iv,rfl,rfl,by kernel_rfl⟩
theorem zwe: FieldAt Tryz.prog 26 0 0:=⟨_,_,j7,rfl,rfl,by kernel_rfl⟩
theorem zwf: FieldAt Tryz.prog 26 1 3:=⟨_,_,j7,rfl,rfl,by kernel_rfl⟩
theorem vn: FieldAt Tryz.prog 30 1 1:=⟨_,_,iu,rfl,rfl,by kernel_rfl⟩
theorem uq: FieldAt Tryz.prog 30 2 2:=⟨_,_,iu,rfl,rfl,by kernel_rfl⟩
theorem vg: FieldAt Tryz.prog 30 3 8:=⟨_,_,iu,rfl,rfl,by kernel_rfl⟩
theorem qai: FieldAt Tryz.prog 30 4 9:=⟨_,_,iu,rfl,rfl,by kernel_rfl⟩
theorem zwg: IsS Tryz.prog 24 3:=⟨⟨_,iv⟩,by kernel_rfl⟩
theorem jnc: IsS Tryz.prog 26 6:=⟨⟨_,j7⟩,by kernel_rfl⟩
theorem zv: IsS Tryz.prog 30 11:=⟨⟨_,iu⟩,by kernel_rfl⟩
theorem jyf: FieldAt Tryz.prog 120 1 1:=⟨_,_,Tryz.underlying120,rfl,rfl,by kernel_rfl⟩
theorem jyg: FieldAt Tryz.prog 120 2 2:=⟨_,_,Tryz.underlying120,rfl,rfl,by kernel_rfl⟩
theorem jdf: IsS Tryz.prog 120 3:=⟨⟨_,Tryz.underlying120⟩,by kernel_rfl⟩
theorem qch: FieldAt Tryz.prog 65 0 0:=⟨_,_,Tryz.underlying65,rfl,rfl,by kernel_rfl⟩
theorem qci: FieldAt Tryz.prog 65 1 1:=⟨_,_,Tryz.underlying65,rfl,rfl,by kernel_rfl⟩
theorem zwh: IsS Tryz.prog 65 2:=⟨⟨_,Tryz.underlying65⟩,by kernel_rfl⟩
theorem jnd: FieldAt Tryz.prog 71 1 1:=⟨_,_,Tryz.underlying71,rfl,rfl,by kernel_rfl⟩
theorem jdg: FieldAt Tryz.prog 120 0 0:=⟨_,_,Tryz.underlying120,rfl,rfl,by kernel_rfl⟩
theorem jyh: FieldAt Tryz.prog 211 1 1:=⟨_,_,Tryz.underlying211,rfl,rfl,by kernel_rfl⟩
theorem o95: Is1 Tryz.prog 5:=⟨⟨_,ir,rfl⟩,by kernel_rfl⟩
theorem jyi: FieldAt Tryz.prog 182 0 0:=⟨_,_,lh,rfl,rfl,by kernel_rfl⟩
theorem qyi: Is1 Tryz.prog 21:=⟨⟨_,iz,rfl⟩,by kernel_rfl⟩
def FitsAt(t:Dt):Prop:=∀{w0 w:World} {b o gl:Nat} {left dp:Int} {T:List Ck},t.rd w0→Here w0 b o t.cells→Mg w0 w (.obj gl (.cells #[iV left] 3)::T)→0≤left→left≤20000→0≤dp→dp≤201→Calls Tryz.prog 139 #[pA b o,iV dp,pA gl 0] w fun e w'=>e=.returned (bV (jx dp left t.tr).1)∧Mg w0 w' (.obj gl (.cells #[iV (jx dp left t.tr).2] 3)::T)
theorem zwi: ∀t:Dt,FitsAt t:=Dt.indT fun d ts ih=>by
 intro w0 w b o gl left dp T hrd hH hM0 hl0 hl1 hd0 hd1;replace hH:Here w0 b o (d.cells ts.length):=hH;have hok:=(Dt.rd_iff.1 hrd);have hk0:=hok.1.k0;have hk1:=hok.1.k1;have hlen:ts.length≤9223372036854775807:=gz hok.2.1 hok.2.2.1;have M:Mg w0 w (.obj gl (.cells #[iV left] 3)::T):=hM0;refine wof Tryz.func139 Tryz.ntmps139 fun Q hret hnorm hP a A=>?_;refine wsr fun K1 hK1=>sda A λA=>?_;refine qwr hK1 fun K2 hK2=>sdm A λA=>?_;refine sdn A λA=>?_;refine sdl A M o93 0 λA=>?_;refine sdo (v:=iV (left-1)) A (qb rfl rfl (jbi (jk (by omega) (by omega)))) λA=>?_;refine sdn A λA=>?_;refine qt A M rfl rfl (qj rfl rfl rfl (by kernel_rfl) M 0 rfl rfl rfl) 0 rfl rfl rfl ?_;intro w3 M;refine qwk hK2 fun K4 hK4=>wsr fun K5 hK5=>sdm A λA=>?_;refine sdn A λA=>?_;refine sdl A M o93 0 λA=>?_;rcases tf (decide (left-1<0))with hb6|hb6
 ·have hb6':=f5 hb6;refine sdc A qy hb6 λA=>?_;refine sdm A λA=>?_;iterate 2 refine sks A λA=>?_
  refine sdk (v:=bV true) A λA=>?_;refine qct hK5 A ?_;refine wsr fun K7 hK7=>sda A λA=>?_;refine qr1 hK7 hret A ?_;rw[jcb (by omega)];exact⟨rfl,M⟩
 ·have hb6':=fy hb6;refine sdc A qy hb6 λA=>?_;iterate 2 refine sdm A λA=>?_
  rcases tf (decide (200<dp))with hb8|hb8
  ·have hb8':=f5 hb8;refine sdc A jh hb8 λA=>?_;refine sdk (v:=bV true) A λA=>?_;refine qct hK5 A ?_;refine wsr fun K9 hK9=>sda A λA=>?_;refine qr1 hK9 hret A ?_;rw[jcb (by omega)];exact⟨rfl,M⟩
  ·have hb8':=fy hb8;refine sdc A jh hb8 λA=>?_;refine sdk (v:=bV false) A λA=>?_;refine qcf hK5 A ?_;refine wp_skip (hK4 _ _ (wsk fun K10 hK10=>wsr fun K11 hK11=>sdm A λA=>?_));refine sdn A λA=>?_;refine sdo (v:=pA b (o+10)) A (qp jz rfl rfl) λA=>?_;refine sdo A (xl (j:=10) M hH ke rfl rfl rfl) λA=>?_;refine sdo A (qr f9 rfl) λA=>?_;refine sdm A λA=>?_;refine qa (hK11 _ _ (wp_block (zg (fun m_ a w1=>∃(i:Nat) (m:Int),m_=1+(ts.length-i)∧(i≤ts.length∧qag dp (decide (d.k=8)) 0 (left-1) ((ts.map Dt.tr).drop 0)=qag dp (decide (d.k=8)) i m ((ts.map Dt.tr).drop i)∧0≤m∧m≤20000)∧Sl a 53 [(0,pA b o),(1,iV dp),(2,pA gl 0),(9,pA gl 0),(10,pA gl 0),(11,iV left),(12,iV (left-1)),(13,pA gl 0),(14,pA gl 0),(15,pA gl 0),(16,iV (left-1)),(17,bV false),(18,bV false),(19,iV dp),(20,bV false),(21,bV false),(22,pA b o),(23,pA b o),(24,pA b (o+10)),(25,.slice d.lo ts.length d.lc),(26,iV (((ts.length:Nat):Int))),(27,iV (((i:Nat):Int)))]∧Mg w0 w1 (.obj gl (.cells #[iV m] 3)::T)) _ ⟨0,left-1,rfl,⟨ii _,rfl,by omega,by omega⟩,A.keep _ (by repeat' constructor),M⟩ ?_)));clear M A;rintro m_ a w12 ⟨i,m,rfl,hinv14,A,M⟩ K13 hK13;obtain⟨hi0,hin9,hm0,hm1⟩:=hinv14;refine wsr fun K15 hK15=>?_;rcases tf (decide (((i:Nat):Int)<((ts.length:Nat):Int)))with hb16|hb16
   ·have hb16':=f5 hb16;refine sdc A qy hb16 λA=>?_;refine qa (hK15 _ _ (wsk fun K17 hK17=>wp_cond_true (A.ev rfl) ?_));refine wp_skip (hK17 _ _ (wsk fun K18 hK18=>wp_block (wsr fun K19 hK19=>sdm A λA=>?_)));refine sda A λA=>?_;refine qwr hK19 fun K20 hK20=>sdm A λA=>?_;refine sdo (v:=iV (dp+1)) A (qb rfl rfl (zq (jk (by omega) (by omega)))) λA=>?_;refine sda A λA=>?_;refine qwk hK20 fun K21 hK21=>wsr fun K22 hK22=>sdm A λA=>?_;refine sdn A λA=>?_;refine sdo (v:=pA b o) A (qp xk rfl rfl) λA=>?_;refine sdo A (xl (j:=0) M hH o93 rfl rfl rfl) λA=>?_;rcases tf ((d.k==8))with hb23|hb23
    ·have hb23':=gr hb23;refine sdc A qe hb23 λA=>?_;iterate 2 refine sdm A λA=>?_
     rcases tf ((((i:Nat):Int)==1))with hb24|hb24
     ·have hb24':=gr hb24;refine sdc A qe hb24 λA=>?_;refine sdk (v:=bV true) A λA=>?_;refine qct hK22 A ?_;refine wrl (sdm A λA=>?_);refine sda A λA=>?_;refine qwk hK21 fun K25 hK25=>?_;obtain⟨t1,b1,o1,hi1,hm1,hr1,hl1,hH1⟩:=kid hrd (i:=i) (by omega);have hD:(if decide (d.k=8)=true∧i=1 then dp else dp+1)=dp:=gj ⟨gv hb23',by omega⟩;refine wrl (sdm A λA=>?_);refine sdn A λA=>?_;refine sdo (v:=pA b (o+10)) A (qp jz rfl rfl) λA=>?_;refine sdo A (xl (j:=10) M hH ke rfl rfl rfl) λA=>?_;refine sdm A λA=>?_;refine sdo (v:=pA b1 (o1+i*11)) A (qk (k:=i) f9 (by kernel_rfl) rfl rfl rfl hl1 (by omega)) λA=>?_;iterate 2 refine sdm A λA=>?_
      refine sct A ec (ih t1 hm1 hr1 hH1 M (by omega) (by omega) (by omega) (by omega)) ?_;rintro _ w27 ⟨rfl,hM26⟩;replace M:=hM26;refine⟨_,rfl,?_⟩;intro a A;refine sdo (v:=bV (!((jx (dp) m t1.tr).1))) A (ya rfl qaf) λA=>?_;refine qa (hK25 _ _ ?_);refine wp_cond_split (t:=!((jx (dp) m t1.tr).1)) (A.ev rfl) (fun hc28=>?_) (fun hc28=>?_)
      ·refine wsr fun K29 hK29=>sda A λA=>?_;refine qr1 hK29 hret A ?_;have hr9:(jx (dp) m t1.tr).1=false:=(by simpa using hc28);have e9:jx dp left (Dt.mk d ts).tr=(false,(jx (dp) m t1.tr).2):=(by rw[quj (by omega) (by omega),hin9,qqg hi1 hD hr9]);rw[e9];exact⟨rfl,M⟩
      ·refine wp_skip (hK18 _ _ (wrl (sdo (v:=iV (((i+1:Nat):Int))) A (qb rfl rfl (fun w=>(zq (jk (by omega) (by omega)) w).trans (by rw[show(((i:Nat):Int)+1:Int)=((i+1:Nat):Int)from by omega]))) λA=>?_)));refine sdm A λA=>?_;refine qa ?_;have hr9:(jx (dp) m t1.tr).1=true:=(by simpa using hc28);have hp9:=qgg t1.tr _ _ hr9;have hl9:=zig t1.tr (dp) m;refine hK13 _ _ _ (by omega) ⟨i+1,(jx (dp) m t1.tr).2,rfl,⟨by omega,by rw[hin9,zih hi1 hD hr9],by omega,by omega⟩,A.keep _ (by repeat' constructor),M⟩
     ·have hb24':=f6 hb24;refine sdc A qe hb24 λA=>?_;refine sdk (v:=bV false) A λA=>?_;refine qcf hK22 A ?_;refine wp_skip (hK21 _ _ (wsk fun K30 hK30=>?_));obtain⟨t1,b1,o1,hi1,hm1,hr1,hl1,hH1⟩:=kid hrd (i:=i) (by omega);have hD:(if decide (d.k=8)=true∧i=1 then dp else dp+1)=dp+1:=f7 (fun e=>by omega);refine wrl (sdm A λA=>?_);refine sdn A λA=>?_;refine sdo (v:=pA b (o+10)) A (qp jz rfl rfl) λA=>?_;refine sdo A (xl (j:=10) M hH ke rfl rfl rfl) λA=>?_;refine sdm A λA=>?_;refine sdo (v:=pA b1 (o1+i*11)) A (qk (k:=i) f9 (by kernel_rfl) rfl rfl rfl hl1 (by omega)) λA=>?_;iterate 2 refine sdm A λA=>?_
      refine sct A ec (ih t1 hm1 hr1 hH1 M (by omega) (by omega) (by omega) (by omega)) ?_;rintro _ w32 ⟨rfl,hM31⟩;replace M:=hM31;refine⟨_,rfl,?_⟩;intro a A;refine sdo (v:=bV (!((jx (dp+1) m t1.tr).1))) A (ya rfl qaf) λA=>?_;refine qa (hK30 _ _ ?_);refine wp_cond_split (t:=!((jx (dp+1) m t1.tr).1)) (A.ev rfl) (fun hc33=>?_) (fun hc33=>?_)
      ·refine wsr fun K34 hK34=>sda A λA=>?_;refine qr1 hK34 hret A ?_;have hr9:(jx (dp+1) m t1.tr).1=false:=(by simpa using hc33);have e9:jx dp left (Dt.mk d ts).tr=(false,(jx (dp+1) m t1.tr).2):=(by rw[quj (by omega) (by omega),hin9,qqg hi1 hD hr9]);rw[e9];exact⟨rfl,M⟩
      ·refine wp_skip (hK18 _ _ (wrl (sdo (v:=iV (((i+1:Nat):Int))) A (qb rfl rfl (fun w=>(zq (jk (by omega) (by omega)) w).trans (by rw[show(((i:Nat):Int)+1:Int)=((i+1:Nat):Int)from by omega]))) λA=>?_)));refine sdm A λA=>?_;refine qa ?_;have hr9:(jx (dp+1) m t1.tr).1=true:=(by simpa using hc33);have hp9:=qgg t1.tr _ _ hr9;have hl9:=zig t1.tr (dp+1) m;refine hK13 _ _ _ (by omega) ⟨i+1,(jx (dp+1) m t1.tr).2,rfl,⟨by omega,by rw[hin9,zih hi1 hD hr9],by omega,by omega⟩,A.keep _ (by repeat' constructor),M⟩
    ·have hb23':=f6 hb23;refine sdc A qe hb23 λA=>?_;refine sdm A λA=>?_;iterate 2 refine sks A λA=>?_
     refine sdk (v:=bV false) A λA=>?_;refine qcf hK22 A ?_;refine wp_skip (hK21 _ _ (wsk fun K35 hK35=>?_));obtain⟨t1,b1,o1,hi1,hm1,hr1,hl1,hH1⟩:=kid hrd (i:=i) (by omega);have hD:(if decide (d.k=8)=true∧i=1 then dp else dp+1)=dp+1:=f7 (fun e=>hb23' (f5 e.1));refine wrl (sdm A λA=>?_);refine sdn A λA=>?_;refine sdo (v:=pA b (o+10)) A (qp jz rfl rfl) λA=>?_;refine sdo A (xl (j:=10) M hH ke rfl rfl rfl) λA=>?_;refine sdm A λA=>?_;refine sdo (v:=pA b1 (o1+i*11)) A (qk (k:=i) f9 (by kernel_rfl) rfl rfl rfl hl1 (by omega)) λA=>?_;iterate 2 refine sdm A λA=>?_
     refine sct A ec (ih t1 hm1 hr1 hH1 M (by omega) (by omega) (by omega) (by omega)) ?_;rintro _ w37 ⟨rfl,hM36⟩;replace M:=hM36;refine⟨_,rfl,?_⟩;intro a A;refine sdo (v:=bV (!((jx (dp+1) m t1.tr).1))) A (ya rfl qaf) λA=>?_;refine qa (hK35 _ _ ?_);refine wp_cond_split (t:=!((jx (dp+1) m t1.tr).1)) (A.ev rfl) (fun hc38=>?_) (fun hc38=>?_)
     ·refine wsr fun K39 hK39=>sda A λA=>?_;refine qr1 hK39 hret A ?_;have hr9:(jx (dp+1) m t1.tr).1=false:=(by simpa using hc38);have e9:jx dp left (Dt.mk d ts).tr=(false,(jx (dp+1) m t1.tr).2):=(by rw[quj (by omega) (by omega),hin9,qqg hi1 hD hr9]);rw[e9];exact⟨rfl,M⟩
     ·refine wp_skip (hK18 _ _ (wrl (sdo (v:=iV (((i+1:Nat):Int))) A (qb rfl rfl (fun w=>(zq (jk (by omega) (by omega)) w).trans (by rw[show(((i:Nat):Int)+1:Int)=((i+1:Nat):Int)from by omega]))) λA=>?_)));refine sdm A λA=>?_;refine qa ?_;have hr9:(jx (dp+1) m t1.tr).1=true:=(by simpa using hc38);have hp9:=qgg t1.tr _ _ hr9;have hl9:=zig t1.tr (dp+1) m;refine hK13 _ _ _ (by omega) ⟨i+1,(jx (dp+1) m t1.tr).2,rfl,⟨by omega,by rw[hin9,zih hi1 hD hr9],by omega,by omega⟩,A.keep _ (by repeat' constructor),M⟩
   ·have hb16':=fy hb16;refine sdc A qy hb16 λA=>?_;refine qa (hK15 _ _ (wsk fun K40 hK40=>wp_cond_false (A.ev rfl) ?_));refine wp_exit (hK10 _ _ (wsr fun K41 hK41=>sda A λA=>?_));refine qr1 hK41 hret A ?_;have e9:jx dp left (Dt.mk d ts).tr=(true,m):=(by rw[quj (by omega) (by omega),hin9,qbj (by omega),qag]);rw[e9];exact⟨rfl,M⟩
end Go.Proofs.YtmnlfahgklnpeaaGreatDoor.G
namespace Go.Proofs
open Go.Shelf
def Tryz.lays119_ren: Go.Shelf.Ren:=⟨fun|119=>236|n=>n,fun|21=>21|4=>4|n=>n,fun|n=>n⟩
theorem Tryz.lays119: Go.Proofs.Lays.n119 Tryz.prog Tryz.lays119_ren:={
  mixed:=by kernel_rfl
  f119:=Tryz.func236.trans (congrArg some (by kernel_rfl))
  t4:=Tryz.underlying4
  a4:=Tryz.isAgg4
  z4:=Tryz.sizeOf4
  v4:=Tryz.zeroValue4
  t21:=Tryz.underlying21
  a21:=Tryz.isAgg21
  z21:=Tryz.sizeOf21
  v21:=Tryz.zeroValue21 }
theorem Tryz.utf8_ValidRune(r:Int)(w:World):
    Calls Tryz.prog 236 #[.int .i32 r] w fun e w'=>e=.returned (.bool (Lib.validRune r))∧w'=w:=Any.utf8_ValidRune Tryz.lays119 r w
def Tryz.laysValid_ren: Go.Shelf.Ren:=⟨fun|196=>189|259=>237|n=>n,fun|9=>9|4=>4|3=>3|5=>5|12=>12|119=>246|0=>0|46=>142|139=>249|138=>248|53=>91|n=>n,fun|3=>0|4=>1|n=>n⟩
theorem Tryz.laysValid: Go.Proofs.Lays.n196 Tryz.prog Tryz.laysValid_ren:={
  mixed:=by kernel_rfl
  f196:=Tryz.func189.trans (congrArg some (by kernel_rfl))
  f259:=Tryz.func237.trans (congrArg some (by kernel_rfl))
  t0:=Tryz.underlying0
  a0:=Tryz.isAgg0
  z0:=Tryz.sizeOf0
  v0:=Tryz.zeroValue0
  t3:=Tryz.underlying3
  a3:=Tryz.isAgg3
  z3:=Tryz.sizeOf3
  v3:=Tryz.zeroValue3
  t4:=Tryz.underlying4
  a4:=Tryz.isAgg4
  z4:=Tryz.sizeOf4
  v4:=Tryz.zeroValue4
  t5:=Tryz.underlying5
  a5:=Tryz.isAgg5
  z5:=Tryz.sizeOf5
  v5:=Tryz.zeroValue5
  t9:=Tryz.underlying9
  a9:=Tryz.isAgg9
  z9:=Tryz.sizeOf9
  v9:=Tryz.zeroValue9
  t12:=Tryz.underlying12
  a12:=Tryz.isAgg12
  z12:=Tryz.sizeOf12
  v12:=Tryz.zeroValue12
  t46:=Tryz.underlying142
  a46:=Tryz.isAgg142
  z46:=Tryz.sizeOf142
  v46:=Tryz.zeroValue142
  t53:=Tryz.underlying91
  a53:=Tryz.isAgg91
  z53:=Tryz.sizeOf91
  v53:=Tryz.zeroValue91
  t119:=Tryz.underlying246
  a119:=Tryz.isAgg246
  z119:=Tryz.sizeOf246
  t138:=Tryz.underlying248
  a138:=Tryz.isAgg248
  z138:=Tryz.sizeOf248
  v138:=Tryz.zeroValue248
  t139:=Tryz.underlying249
  a139:=Tryz.isAgg249
  z139:=Tryz.sizeOf249
  v139:=Tryz.zeroValue249
  g3:=by kernel_rfl
  g4:=by kernel_rfl }
end Go.Proofs
namespace Go.Proofs.YtmnlfahgklnpeaaGreatDoor.G
open Go.RowKit
def Tabs8(w:World):Prop:=Lib.Utf8Tabs (Tryz.laysValid_ren.g 3) (Tryz.laysValid_ren.g 4) w
theorem Tabs8.below{w w':World}(h:Tabs8 w)(hb:Below w.heap.size w w'):Tabs8 w':=Utf8Tabs_below h hb
theorem qcc{w:World}{s:ByteArray}(hs:s.size≤9223372036854775807)(hT:Tabs8 w){b:Bool}(h:okS s=b):Calls Tryz.prog 189 #[.string s] w (RB w (bV b)):=h▸Any.utf8_ValidString Tryz.laysValid s w hs hT
theorem jgd{w:World}{r:Int}:Calls Tryz.prog 236 #[.int .i32 r] w (RB w (bV (Lib.validRune r))):=(Tryz.utf8_ValidRune r w).mono fun e w' ⟨h,e2⟩=>⟨h,e2▸Below.refl _ _⟩
theorem zkb{P:Program}{s d:TypeId}(hs:P.underlying s=some (.int .i64))(hd:P.underlying d=some (.int .i32)){n:Int}(h0:0≤n)(h1:n≤1114111):∀w,(convert s d (iV n)).run P w=.ok (.int .i32 n) w:=fun w=>by
 simp[go_sem,run_underlying hs,run_underlying hd,convert];exact in_i32 (by omega) (by omega)
theorem zpj{w:World}{n:Int}:Calls Tryz.prog 188 #[iV n] w (RB w (bV (yw n))):=by
 have M:=Mg.start w;refine wof Tryz.func188 Tryz.ntmps188 fun Q hret hnorm hP a A=>?_;refine wsr fun _ ae=>sda A λA=>?_;refine qwr ae fun _ ac=>sdm A λA=>?_;rcases tf (decide (0≤n))with aa|aa
 ·have aa':=f5 aa;refine sdc A zt aa λA=>?_;iterate 2 refine sdm A λA=>?_
  rcases tf (decide (n≤1114111))with ab|ab
  ·have ab':=f5 ab;refine sdc A xi ab λA=>?_;refine sdk (v:=bV true) A λA=>?_;iterate 2 refine sdm A λA=>?_
   refine sdo (v:=.int .i32 n) A (zk rfl (zkb i8 iz (by omega) (by omega))) λA=>?_;refine gcl A M ec (jgd) fun _ hbv M a A=>?_;refine sdo (v:=bV (Lib.validRune n)) A (qbg rfl rfl rfl rfl) λA=>?_;refine sda A λA=>?_;refine qr1 ac hret A ?_;exact⟨by rw[show yw n=Lib.validRune n from by unfold yw; unfold Lib.validRune; exact decide_eq_decide.2 (by omega)],M.bel⟩
  ·have ab':=fy ab;refine sdc A xi ab λA=>?_;refine sdk (v:=bV false) A λA=>?_;refine sdm A λA=>?_;iterate 3 refine sks A λA=>?_
   refine sdk (v:=bV false) A λA=>?_;refine sda A λA=>?_;refine qr1 ac hret A ?_;exact⟨by rw[show yw n=false from by unfold yw; apply gn; omega],M.bel⟩
 ·have aa':=fy aa;refine sdc A zt aa λA=>?_;refine sdm A λA=>?_;iterate 2 refine sks A λA=>?_
  refine sdk (v:=bV false) A λA=>?_;refine sdm A λA=>?_;iterate 3 refine sks A λA=>?_
  refine sdk (v:=bV false) A λA=>?_;refine sda A λA=>?_;refine qr1 ac hret A ?_;exact⟨by rw[show yw n=false from by unfold yw; apply gn; omega],M.bel⟩
theorem qyj{m1 m2:Nat}(h1:m1≤9223372036854775807)(h2:m2≤9223372036854775807):(IntKind.i64.wrap (((m1:Nat):Int)+((m2:Nat):Int))==0)=(decide (m1=0)&&decide (m2=0)):=by
 rw[IntKind.wrap_i64];by_cases a1:m1=0
 ·subst a1;by_cases a2:m2=0
  ·subst a2; rfl
  ·simp[a2]; omega
 ·simp[a1]; omega
theorem qbd{w:World}{b:Bool}{o1 o2:Option Addr}{m1 m2 c1 c2:Nat}(h1:m1≤9223372036854775807)(h2:m2≤9223372036854775807){r:Bool}(hr:ye b m1 m2=r):Calls Tryz.prog 238 #[.agg #[bV b,.slice o1 m1 c1,.slice o2 m2 c2]] w (RB w (bV r)):=by
 have M:=Mg.start w;refine wof Tryz.func238 Tryz.ntmps238 fun Q hret hnorm hP a A=>?_;refine wsr fun _ ae=>zj (vs:=[bV b,.slice o1 m1 c1,.slice o2 m2 c2]) (t:=24) A M rfl rfl rfl pg (qx rfl rfl) (by decide) ?_;intro g2 _ M a A;refine sda A λA=>?_;refine qa (ae _ _ (wsr fun K4 ac=>sdf A 0 zwb λA=>?_));refine sdl A M o94 0 λA=>?_;rcases b with _|_
 ·refine sdu A λA=>?_;refine sdm A λA=>?_;refine sdf A 1 zwc λA=>?_;refine sdl A M jgc 0 λA=>?_;refine sdo A (qr im rfl) λA=>?_;rcases tf ((((m1:Nat):Int)==0))with aa|aa
  ·have aa':=gr aa;refine sdc A qe aa λA=>?_;refine sdk (v:=bV true) A λA=>?_;refine sdm A λA=>?_;refine sdf A 2 zwd λA=>?_;refine sdl A M jgc 0 λA=>?_;refine sdo A (qr im rfl) λA=>?_;rcases tf ((((m2:Nat):Int)==0))with ab|ab
   ·have ab':=gr ab;refine sdc A qe ab λA=>?_;refine sdk (v:=bV true) A λA=>?_;refine sda A λA=>?_;refine qr1 ac hret A ?_;subst hr;exact⟨by unfold ye; simp_all; try omega,M.bel⟩
   ·have ab':=f6 ab;refine sdc A qe ab λA=>?_;refine sdk (v:=bV false) A λA=>?_;refine sda A λA=>?_;refine qr1 ac hret A ?_;subst hr;exact⟨by unfold ye; simp_all; try omega,M.bel⟩
  ·have aa':=f6 aa;refine sdc A qe aa λA=>?_;refine sdk (v:=bV false) A λA=>?_;refine sdm A λA=>?_;iterate 4 refine sks A λA=>?_
   refine sdk (v:=bV false) A λA=>?_;refine sda A λA=>?_;refine qr1 ac hret A ?_;subst hr;exact⟨by unfold ye; simp_all; try omega,M.bel⟩
 ·refine sdu A λA=>?_;refine sdm A λA=>?_;iterate 4 refine sks A λA=>?_
  refine sdk (v:=bV false) A λA=>?_;refine sdm A λA=>?_;iterate 4 refine sks A λA=>?_
  refine sdk (v:=bV false) A λA=>?_;refine sda A λA=>?_;refine qr1 ac hret A ?_;subst hr;exact⟨by unfold ye; simp_all; try omega,M.bel⟩
theorem qke{w:World}{b:Bool}{o1 o2:Option Addr}{m1 m2 c1 c2:Nat}(h1:m1≤9223372036854775807)(h2:m2≤9223372036854775807){r:Bool}(hr:ye b m1 m2=r):Calls Tryz.prog 142 #[.agg #[bV b,.slice o1 m1 c1,.slice o2 m2 c2]] w (RB w (bV r)):=by
 have M:=Mg.start w;refine wof Tryz.func142 Tryz.ntmps142 fun Q hret hnorm hP a A=>?_;refine wsr fun _ ac=>zj (vs:=[bV b,.slice o1 m1 c1,.slice o2 m2 c2]) (t:=24) A M rfl rfl rfl pg (qx rfl rfl) (by decide) ?_;intro g2 _ M a A;refine sda A λA=>?_;refine qa (ac _ _ (wsr fun K4 ab=>sdf A 0 zwb λA=>?_));refine sdl A M o94 0 λA=>?_;rcases b with _|_
 ·refine sdu A λA=>?_;refine sdm A λA=>?_;refine sdf A 1 zwc λA=>?_;refine sdl A M jgc 0 λA=>?_;refine sdo A (qr im rfl) λA=>?_;refine sdf A 2 zwd λA=>?_;refine sdl A M jgc 0 λA=>?_;refine sdo A (qr im rfl) λA=>?_;refine sdo (v:=iV (IntKind.i64.wrap (((m1:Nat):Int)+((m2:Nat):Int)))) A (qb rfl rfl (ar_add rfl)) λA=>?_;rcases tf ((IntKind.i64.wrap (((m1:Nat):Int)+((m2:Nat):Int))==0))with aa|aa
  ·have aa':=gr aa;refine sdc A qe aa λA=>?_;refine sdk (v:=bV true) A λA=>?_;refine sda A λA=>?_;refine qr1 ab hret A ?_;subst hr;have e9:=qyj h1 h2;try rw[e9]at aa
   exact⟨by unfold ye; simp_all; try omega,M.bel⟩
  ·have aa':=f6 aa;refine sdc A qe aa λA=>?_;refine sdk (v:=bV false) A λA=>?_;refine sda A λA=>?_;refine qr1 ab hret A ?_;subst hr;have e9:=qyj h1 h2;try rw[e9]at aa
   exact⟨by unfold ye; simp_all; try omega,M.bel⟩
 ·refine sdu A λA=>?_;refine sdm A λA=>?_;iterate 8 refine sks A λA=>?_
  refine sdk (v:=bV false) A λA=>?_;refine sda A λA=>?_;refine qr1 ab hret A ?_;subst hr;have e9:=qyj h1 h2;exact⟨by unfold ye; simp_all; try omega,M.bel⟩
theorem jne{w:World}{k n:Int}{b1 b2:Bool}{o1 o2 o3 o4 ro lo:Option Addr}{m1 m2 m3 m4 mr ml c1 c2 c3 c4 rc lc:Nat}{s:ByteArray}(h1:m1≤9223372036854775807)(h2:m2≤9223372036854775807)(h3:m3≤9223372036854775807)(h4:m4≤9223372036854775807){r:Bool}(hr:kg n b1 m1 m2 b2 m3 m4 s mr ml=r):Calls Tryz.prog 190 #[.agg #[iV k,iV n,bV b1,.slice o1 m1 c1,.slice o2 m2 c2,bV b2,.slice o3 m3 c3,.slice o4 m4 c4,.string s,.slice ro mr rc,.slice lo ml lc]] w (RB w (bV r)):=by
 have M:=Mg.start w;refine wof Tryz.func190 Tryz.ntmps190 fun Q hret hnorm hP a A=>?_;refine wsr fun _ ai=>zj (vs:=[iV k,iV n,bV b1,.slice o1 m1 c1,.slice o2 m2 c2,bV b2,.slice o3 m3 c3,.slice o4 m4 c4,.string s,.slice ro mr rc,.slice lo ml lc]) (t:=30) A M rfl rfl rfl pg (qx rfl rfl) (by decide) ?_;intro g2 _ M a A;refine sda A λA=>?_;refine qa (ai _ _ (wsr fun K4 ae=>sdf A 1 vn λA=>?_));refine sdl A M o93 0 λA=>?_;rcases tf ((n==0))with af|af
 ·have af':=gr af;refine sdc A qe af λA=>?_;refine sdm A λA=>?_;refine sdf A 2 uq λA=>?_;refine sdf A 2 zwe λA=>?_;refine sdo A (qz M zwg rfl 0 rfl (cs:=[bV b1,.slice o1 m1 c1,.slice o2 m2 c2]) rfl rfl) λA=>?_;rcases tf (ye b1 m1 m2)with ag|ag
  ·refine gcl A M ec (qbd h1 h2 ag) fun _ _ M a A=>?_;refine sdk (v:=bV true) A λA=>?_;refine sdm A λA=>?_;refine sdf A 2 uq λA=>?_;refine sdf A 5 zwf λA=>?_;refine sdo A (qz M zwg rfl 0 rfl (cs:=[bV b2,.slice o3 m3 c3,.slice o4 m4 c4]) rfl rfl) λA=>?_;rcases tf (ye b2 m3 m4)with ah|ah
   ·refine gcl A M ec (qbd h3 h4 ah) fun _ _ M a A=>?_;refine sdk (v:=bV true) A λA=>?_;refine sdm A λA=>?_;refine sdf A 8 vg λA=>?_;refine sdl A M o99 0 λA=>?_;rcases tf (decide (s=⟨#[]⟩))with aa|aa
    ·have aa':=f5 aa;refine sdo (v:=bV true) A (qb rfl rfl (fun w=>(je gi w).trans (by rw[aa]<;>rfl))) λA=>?_;refine sdk (v:=bV true) A λA=>?_;refine sdm A λA=>?_;refine sdf A 9 qai λA=>?_;refine sdl A M quf 0 λA=>?_;refine sdo A (qr ib rfl) λA=>?_;rcases tf ((((mr:Nat):Int)==0))with ab|ab
     ·have ab':=gr ab;refine sdc A qe ab λA=>?_;refine sdk (v:=bV true) A λA=>?_;refine sdm A λA=>?_;refine sdf A 10 jz λA=>?_;refine sdl A M ke 0 λA=>?_;refine sdo A (qr f9 rfl) λA=>?_;rcases tf ((((ml:Nat):Int)==0))with ac|ac
      ·have ac':=gr ac;refine sdc A qe ac λA=>?_;refine sdk (v:=bV true) A λA=>?_;refine sda A λA=>?_;refine qr1 ae hret A ?_;subst hr;exact⟨by unfold kg; simp_all,M.bel⟩
      ·have ac':=f6 ac;refine sdc A qe ac λA=>?_;refine sdk (v:=bV false) A λA=>?_;refine sda A λA=>?_;refine qr1 ae hret A ?_;subst hr;exact⟨by unfold kg; simp_all,M.bel⟩
     ·have ab':=f6 ab;refine sdc A qe ab λA=>?_;refine sdk (v:=bV false) A λA=>?_;refine sdm A λA=>?_;iterate 4 refine sks A λA=>?_
      refine sdk (v:=bV false) A λA=>?_;refine sda A λA=>?_;refine qr1 ae hret A ?_;subst hr;exact⟨by unfold kg; simp_all,M.bel⟩
    ·have aa':=fy aa;refine sdo (v:=bV false) A (qb rfl rfl (fun w=>(je gi w).trans (by rw[aa]<;>rfl))) λA=>?_;refine sdk (v:=bV false) A λA=>?_;refine sdm A λA=>?_;iterate 4 refine sks A λA=>?_
     refine sdk (v:=bV false) A λA=>?_;refine sdm A λA=>?_;iterate 4 refine sks A λA=>?_
     refine sdk (v:=bV false) A λA=>?_;refine sda A λA=>?_;refine qr1 ae hret A ?_;subst hr;exact⟨by unfold kg; simp_all,M.bel⟩
   ·refine gcl A M ec (qbd h3 h4 ah) fun _ _ M a A=>?_;refine sdk (v:=bV false) A λA=>?_;refine sdm A λA=>?_;iterate 3 refine sks A λA=>?_
    refine sdk (v:=bV false) A λA=>?_;refine sdm A λA=>?_;iterate 4 refine sks A λA=>?_
    refine sdk (v:=bV false) A λA=>?_;refine sdm A λA=>?_;iterate 4 refine sks A λA=>?_
    refine sdk (v:=bV false) A λA=>?_;refine sda A λA=>?_;refine qr1 ae hret A ?_;subst hr;exact⟨by unfold kg; simp_all,M.bel⟩
  ·refine gcl A M ec (qbd h1 h2 ag) fun _ _ M a A=>?_;refine sdk (v:=bV false) A λA=>?_;refine sdm A λA=>?_;iterate 4 refine sks A λA=>?_
   refine sdk (v:=bV false) A λA=>?_;refine sdm A λA=>?_;iterate 3 refine sks A λA=>?_
   refine sdk (v:=bV false) A λA=>?_;refine sdm A λA=>?_;iterate 4 refine sks A λA=>?_
   refine sdk (v:=bV false) A λA=>?_;refine sdm A λA=>?_;iterate 4 refine sks A λA=>?_
   refine sdk (v:=bV false) A λA=>?_;refine sda A λA=>?_;refine qr1 ae hret A ?_;subst hr;exact⟨by unfold kg; simp_all,M.bel⟩
 ·have af':=f6 af;refine sdc A qe af λA=>?_;refine sdm A λA=>?_;iterate 4 refine sks A λA=>?_
  refine sdk (v:=bV false) A λA=>?_;refine sdm A λA=>?_;iterate 4 refine sks A λA=>?_
  refine sdk (v:=bV false) A λA=>?_;refine sdm A λA=>?_;iterate 3 refine sks A λA=>?_
  refine sdk (v:=bV false) A λA=>?_;refine sdm A λA=>?_;iterate 4 refine sks A λA=>?_
  refine sdk (v:=bV false) A λA=>?_;refine sdm A λA=>?_;iterate 4 refine sks A λA=>?_
  refine sdk (v:=bV false) A λA=>?_;refine sda A λA=>?_;refine qr1 ae hret A ?_;subst hr;exact⟨by unfold kg; simp_all,M.bel⟩
theorem qza{w:World}{d:Nd}{ts:List Dt}(hok:NdOk w d)(hT:Tabs8 w):Calls Tryz.prog 140 #[.agg (d.cells ts.length).toArray] w (RB w (bV (jm d.k d.n d.y.q d.s d.rl.length ts.length))):=by
 have aa:=hok.len.l1;have ab:=hok.len.l2;have ac:=hok.len.l3;have ae:=hok.len.l4;have M:=Mg.start w;refine wof Tryz.func140 Tryz.ntmps140 fun Q hret hnorm hP a A=>?_;refine wsr fun _ ci=>zj (vs:=[iV d.k,iV d.n,bV d.y.q.b1,.slice d.y.o1 d.y.q.t1.length d.y.c1,.slice d.y.o2 d.y.q.q1.length d.y.c2,bV d.y.q.b2,.slice d.y.o3 d.y.q.t2.length d.y.c3,.slice d.y.o4 d.y.q.q2.length d.y.c4,.string d.s,.slice d.ro d.rl.length d.rc,.slice d.lo ts.length d.lc]) (t:=30) A M rfl rfl rfl pg (qx rfl rfl) (by decide) ?_;intro g2 _ M a A;refine sda A λA=>?_;refine qwr ci fun K4 cj=>sda A λA=>?_;refine qwk cj fun K5 ck=>?_;have af:∀a w1,(∃(ok:Bool) (z1:Int) (z2:Bool) (y1:Option Addr) (m1:Nat) (e1:Nat) (y2:Option Addr) (m2:Nat) (e2:Nat) (z3:Bool) (y3:Option Addr) (m3:Nat) (e3:Nat) (y4:Option Addr) (m4:Nat) (e4:Nat) (zs:ByteArray) (yr:Option Addr) (mr:Nat) (er:Nat) (yl:Option Addr) (ml:Nat) (el:Nat),(jm d.k d.n d.y.q d.s d.rl.length ts.length=(ok&&kg z1 z2 m1 m2 z3 m3 m4 zs mr ml)∧m1≤9223372036854775807∧m2≤9223372036854775807∧m3≤9223372036854775807∧m4≤9223372036854775807)∧Sl a 59 [(0,.agg (d.cells ts.length).toArray),(1,pA g2 0),(2,bV false),(3,bV ok)]∧Mg w w1 (.obj g2 (.cells #[iV d.k,iV z1,bV z2,.slice y1 m1 e1,.slice y2 m2 e2,bV z3,.slice y3 m3 e3,.slice y4 m4 e4,.string zs,.slice yr mr er,.slice yl ml el] 30)::[]))→K5 a w1:=by
  clear A M;rintro a _ ⟨ok,z1,z2,y1,m1,e1,y2,m2,e2,z3,y3,m3,e3,y4,m4,e4,zs,yr,mr,er,yl,ml,el,cl,A,M⟩;obtain⟨hsh,aa,ab,ac,ae⟩:=cl;refine ck _ _ (wsr fun _ ch=>?_);iterate 2 refine sdm A λA=>?_
  rcases ok with _|_
  ·iterate 2 refine sks A λA=>?_
   refine sdk (v:=bV false) A λA=>?_;refine sda A λA=>?_;refine qr1 ch hret A ?_;exact⟨by rw[hsh]; rfl,M.bel⟩
  ·refine sdo A (qz M zv rfl 0 rfl (cs:=[iV d.k,iV z1,bV z2,.slice y1 m1 e1,.slice y2 m2 e2,bV z3,.slice y3 m3 e3,.slice y4 m4 e4,.string zs,.slice yr mr er,.slice yl ml el]) rfl rfl) λA=>?_;refine gcl A M ec (jne (by first|exact aa|omega) (by first|exact ab|omega) (by first|exact ac|omega) (by first|exact ae|omega) rfl) fun _ _ M a A=>?_;refine sdo (v:=bV (kg z1 z2 m1 m2 z3 m3 m4 zs mr ml)) A (qbg rfl rfl rfl rfl) λA=>?_;refine sda A λA=>?_;refine qr1 ch hret A ?_;exact⟨by rw[hsh]; rfl,M.bel⟩
 refine wsr fun _ cg=>sdf A 0 xk λA=>?_;refine sdl A M o93 0 λA=>?_;refine qa (cg _ _ (wp_block (wsk fun _ bj=>wsr fun _ bn=>?_)));rcases tf ((d.k==1))with ag|ag
 ·have ag':=gr ag;refine sdc A qe ag λA=>?_;refine sda A λA=>?_;refine qct bn A ?_;refine wp_skip (bj _ _ (ct A ?_));refine wp_skip ?_;exact af _ _ ⟨true,d.n,d.y.q.b1,d.y.o1,d.y.q.t1.length,d.y.c1,d.y.o2,d.y.q.q1.length,d.y.c2,d.y.q.b2,d.y.o3,d.y.q.t2.length,d.y.c3,d.y.o4,d.y.q.q2.length,d.y.c4,d.s,d.ro,d.rl.length,d.rc,d.lo,ts.length,d.lc,⟨by
   unfold jm;repeat (first|rw[gj (by omega)]|rw[f7 (by omega)])
   first|rfl,by first|exact aa|decide,by first|exact ab|decide,by first|exact ac|decide,by first|exact ae|decide⟩,A.keep _ ⟨rfl,rfl,rfl,rfl,trivial⟩,M⟩
 ·have ag':=f6 ag;refine sdc A qe ag λA=>?_;refine sda A λA=>?_;refine qcf bn A ?_;refine wrl ?_;rcases tf ((d.k==10))with ah|ah
  ·have ah':=gr ah;refine sdc A qe ah λA=>?_;refine sda A λA=>?_;refine qct bj A ?_;refine wp_skip ?_;exact af _ _ ⟨true,d.n,d.y.q.b1,d.y.o1,d.y.q.t1.length,d.y.c1,d.y.o2,d.y.q.q1.length,d.y.c2,d.y.q.b2,d.y.o3,d.y.q.t2.length,d.y.c3,d.y.o4,d.y.q.q2.length,d.y.c4,d.s,d.ro,d.rl.length,d.rc,d.lo,ts.length,d.lc,⟨by
    unfold jm;repeat (first|rw[gj (by omega)]|rw[f7 (by omega)])
    first|rfl,by first|exact aa|decide,by first|exact ab|decide,by first|exact ac|decide,by first|exact ae|decide⟩,A.keep _ ⟨rfl,rfl,rfl,rfl,trivial⟩,M⟩
  ·have ah':=f6 ah;refine sdc A qe ah λA=>?_;refine sda A λA=>?_;refine qcf bj A ?_;refine wsr fun _ bp=>?_;rcases tf ((d.k==2))with ai|ai
   ·have ai':=gr ai;refine sdc A qe ai λA=>?_;refine sda A λA=>?_;refine qct bp A ?_;refine wrl (sdf A 1 vn λA=>?_);refine sdl A M o93 0 λA=>?_;rcases tf ((d.n==0))with aj|aj
    ·have aj':=gr aj;refine sdc A qe aj λA=>?_;refine sdm A λA=>?_;iterate 3 refine sks A λA=>?_
     refine sdk (v:=bV true) A λA=>?_;refine sda A λA=>?_;refine sdf A 1 vn λA=>?_;refine qt A M rfl rfl (qj rfl rfl rfl (by kernel_rfl) M 0 rfl rfl rfl) 0 rfl rfl rfl ?_;intro _ M;refine qa ?_;exact af _ _ ⟨true,0,d.y.q.b1,d.y.o1,d.y.q.t1.length,d.y.c1,d.y.o2,d.y.q.q1.length,d.y.c2,d.y.q.b2,d.y.o3,d.y.q.t2.length,d.y.c3,d.y.o4,d.y.q.q2.length,d.y.c4,d.s,d.ro,d.rl.length,d.rc,d.lo,ts.length,d.lc,⟨by
      unfold jm;repeat (first|rw[gj (by omega)]|rw[f7 (by omega)])
      first|rfl|(rw[gv (show(d.n=0∨d.n=1)by omega)]),by first|exact aa|decide,by first|exact ab|decide,by first|exact ac|decide,by first|exact ae|decide⟩,A.keep _ ⟨rfl,rfl,rfl,rfl,trivial⟩,M⟩
    ·have aj':=f6 aj;refine sdc A qe aj λA=>?_;refine sdm A λA=>?_;refine sdf A 1 vn λA=>?_;refine sdl A M o93 0 λA=>?_;rcases tf ((d.n==1))with ak|ak
     ·have ak':=gr ak;refine sdc A qe ak λA=>?_;refine sdk (v:=bV true) A λA=>?_;refine sda A λA=>?_;refine sdf A 1 vn λA=>?_;refine qt A M rfl rfl (qj rfl rfl rfl (by kernel_rfl) M 0 rfl rfl rfl) 0 rfl rfl rfl ?_;intro _ M;refine qa ?_;exact af _ _ ⟨true,0,d.y.q.b1,d.y.o1,d.y.q.t1.length,d.y.c1,d.y.o2,d.y.q.q1.length,d.y.c2,d.y.q.b2,d.y.o3,d.y.q.t2.length,d.y.c3,d.y.o4,d.y.q.q2.length,d.y.c4,d.s,d.ro,d.rl.length,d.rc,d.lo,ts.length,d.lc,⟨by
       unfold jm;repeat (first|rw[gj (by omega)]|rw[f7 (by omega)])
       first|rfl|(rw[gv (show(d.n=0∨d.n=1)by omega)]),by first|exact aa|decide,by first|exact ab|decide,by first|exact ac|decide,by first|exact ae|decide⟩,A.keep _ ⟨rfl,rfl,rfl,rfl,trivial⟩,M⟩
     ·have ak':=f6 ak;refine sdc A qe ak λA=>?_;refine sdk (v:=bV false) A λA=>?_;refine sda A λA=>?_;refine sdf A 1 vn λA=>?_;refine qt A M rfl rfl (qj rfl rfl rfl (by kernel_rfl) M 0 rfl rfl rfl) 0 rfl rfl rfl ?_;intro _ M;refine qa ?_;exact af _ _ ⟨false,0,d.y.q.b1,d.y.o1,d.y.q.t1.length,d.y.c1,d.y.o2,d.y.q.q1.length,d.y.c2,d.y.q.b2,d.y.o3,d.y.q.t2.length,d.y.c3,d.y.o4,d.y.q.q2.length,d.y.c4,d.s,d.ro,d.rl.length,d.rc,d.lo,ts.length,d.lc,⟨by
       unfold jm;repeat (first|rw[gj (by omega)]|rw[f7 (by omega)])
       first|rfl|(rw[gn (show ¬(d.n=0∨d.n=1)by omega)]),by first|exact aa|decide,by first|exact ab|decide,by first|exact ac|decide,by first|exact ae|decide⟩,A.keep _ ⟨rfl,rfl,rfl,rfl,trivial⟩,M⟩
   ·have ai':=f6 ai;refine sdc A qe ai λA=>?_;refine sda A λA=>?_;refine qcf bp A ?_;refine wsr fun _ bq=>?_;rcases tf ((d.k==3))with am|am
    ·have am':=gr am;refine sdc A qe am λA=>?_;refine sda A λA=>?_;refine qct bq A ?_;refine wrl (sdf A 2 uq λA=>?_);refine sdo A (qz M jnc rfl 0 rfl (cs:=[bV d.y.q.b1,.slice d.y.o1 d.y.q.t1.length d.y.c1,.slice d.y.o2 d.y.q.q1.length d.y.c2,bV d.y.q.b2,.slice d.y.o3 d.y.q.t2.length d.y.c3,.slice d.y.o4 d.y.q.q2.length d.y.c4]) rfl rfl) λA=>?_;rcases tf (xt d.y.q)with az|az
     ·refine gcl A M ec (qlj (Nu.below hok.num M.bel) hok.len az) fun _ _ M a A=>?_;refine sdo (v:=.agg #[bV false,.slice none 0 0,.slice none 0 0,bV false,.slice none 0 0,.slice none 0 0]) A (qn rfl (fun w=>by kernel_rfl)) λA=>?_;refine sda A λA=>?_;refine sdf A 2 uq λA=>?_;refine qt A M rfl rfl (qj rfl rfl rfl (by kernel_rfl) M 0 rfl rfl rfl) 0 rfl rfl rfl ?_;intro _ M;refine qa ?_;exact af _ _ ⟨true,d.n,false,none,0,0,none,0,0,false,none,0,0,none,0,0,d.s,d.ro,d.rl.length,d.rc,d.lo,ts.length,d.lc,⟨by
       unfold jm;repeat (first|rw[gj (by omega)]|rw[f7 (by omega)])
       first|rfl|rw[az],by first|exact aa|decide,by first|exact ab|decide,by first|exact ac|decide,by first|exact ae|decide⟩,A.keep _ ⟨rfl,rfl,rfl,rfl,trivial⟩,M⟩
     ·refine gcl A M ec (qlj (Nu.below hok.num M.bel) hok.len az) fun _ _ M a A=>?_;refine sdo (v:=.agg #[bV false,.slice none 0 0,.slice none 0 0,bV false,.slice none 0 0,.slice none 0 0]) A (qn rfl (fun w=>by kernel_rfl)) λA=>?_;refine sda A λA=>?_;refine sdf A 2 uq λA=>?_;refine qt A M rfl rfl (qj rfl rfl rfl (by kernel_rfl) M 0 rfl rfl rfl) 0 rfl rfl rfl ?_;intro _ M;refine qa ?_;exact af _ _ ⟨false,d.n,false,none,0,0,none,0,0,false,none,0,0,none,0,0,d.s,d.ro,d.rl.length,d.rc,d.lo,ts.length,d.lc,⟨by
       unfold jm;repeat (first|rw[gj (by omega)]|rw[f7 (by omega)])
       first|rfl|rw[az],by first|exact aa|decide,by first|exact ab|decide,by first|exact ac|decide,by first|exact ae|decide⟩,A.keep _ ⟨rfl,rfl,rfl,rfl,trivial⟩,M⟩
    ·have am':=f6 am;refine sdc A qe am λA=>?_;refine sda A λA=>?_;refine qcf bq A ?_;refine wsr fun _ br=>?_;rcases tf ((d.k==4))with ap|ap
     ·have ap':=gr ap;refine sdc A qe ap λA=>?_;refine sda A λA=>?_;refine qct br A ?_;refine wrl (sdf A 1 vn λA=>?_);refine sdl A M o93 0 λA=>?_;rcases tf (yw d.n)with bd|bd
      ·refine gcl A M ec ((bd▸zpj)) fun _ _ M a A=>?_;refine sda A λA=>?_;refine sdf A 1 vn λA=>?_;refine qt A M rfl rfl (qj rfl rfl rfl (by kernel_rfl) M 0 rfl rfl rfl) 0 rfl rfl rfl ?_;intro _ M;refine qa ?_;exact af _ _ ⟨true,0,d.y.q.b1,d.y.o1,d.y.q.t1.length,d.y.c1,d.y.o2,d.y.q.q1.length,d.y.c2,d.y.q.b2,d.y.o3,d.y.q.t2.length,d.y.c3,d.y.o4,d.y.q.q2.length,d.y.c4,d.s,d.ro,d.rl.length,d.rc,d.lo,ts.length,d.lc,⟨by
        unfold jm;repeat (first|rw[gj (by omega)]|rw[f7 (by omega)])
        first|rfl|rw[bd],by first|exact aa|decide,by first|exact ab|decide,by first|exact ac|decide,by first|exact ae|decide⟩,A.keep _ ⟨rfl,rfl,rfl,rfl,trivial⟩,M⟩
      ·refine gcl A M ec ((bd▸zpj)) fun _ _ M a A=>?_;refine sda A λA=>?_;refine sdf A 1 vn λA=>?_;refine qt A M rfl rfl (qj rfl rfl rfl (by kernel_rfl) M 0 rfl rfl rfl) 0 rfl rfl rfl ?_;intro _ M;refine qa ?_;exact af _ _ ⟨false,0,d.y.q.b1,d.y.o1,d.y.q.t1.length,d.y.c1,d.y.o2,d.y.q.q1.length,d.y.c2,d.y.q.b2,d.y.o3,d.y.q.t2.length,d.y.c3,d.y.o4,d.y.q.q2.length,d.y.c4,d.s,d.ro,d.rl.length,d.rc,d.lo,ts.length,d.lc,⟨by
        unfold jm;repeat (first|rw[gj (by omega)]|rw[f7 (by omega)])
        first|rfl|rw[bd],by first|exact aa|decide,by first|exact ab|decide,by first|exact ac|decide,by first|exact ae|decide⟩,A.keep _ ⟨rfl,rfl,rfl,rfl,trivial⟩,M⟩
     ·have ap':=f6 ap;refine sdc A qe ap λA=>?_;refine sda A λA=>?_;refine qcf br A ?_;refine wsk fun _ bi=>wsr fun _ bw=>?_;rcases tf ((d.k==5))with aq|aq
      ·have aq':=gr aq;refine sdc A qe aq λA=>?_;refine sda A λA=>?_;refine qct bw A ?_;refine wp_skip (bi _ _ (ct A ?_));refine wrl (sdf A 8 vg λA=>?_);refine sdl A M o99 0 λA=>?_;rcases tf (okS d.s)with bf|bf
       ·refine gcl A M ec (qcc hok.smax (hT.below M.bel) bf) fun _ _ M a A=>?_;refine sda A λA=>?_;refine sdf A 8 vg λA=>?_;refine qt A M rfl rfl (qj rfl rfl rfl (by kernel_rfl) M 0 rfl rfl rfl) 0 rfl rfl rfl ?_;intro _ M;refine qa ?_;exact af _ _ ⟨true,d.n,d.y.q.b1,d.y.o1,d.y.q.t1.length,d.y.c1,d.y.o2,d.y.q.q1.length,d.y.c2,d.y.q.b2,d.y.o3,d.y.q.t2.length,d.y.c3,d.y.o4,d.y.q.q2.length,d.y.c4,⟨#[]⟩,d.ro,d.rl.length,d.rc,d.lo,ts.length,d.lc,⟨by
         unfold jm;repeat (first|rw[gj (by omega)]|rw[f7 (by omega)])
         first|rfl|rw[bf],by first|exact aa|decide,by first|exact ab|decide,by first|exact ac|decide,by first|exact ae|decide⟩,A.keep _ ⟨rfl,rfl,rfl,rfl,trivial⟩,M⟩
       ·refine gcl A M ec (qcc hok.smax (hT.below M.bel) bf) fun _ _ M a A=>?_;refine sda A λA=>?_;refine sdf A 8 vg λA=>?_;refine qt A M rfl rfl (qj rfl rfl rfl (by kernel_rfl) M 0 rfl rfl rfl) 0 rfl rfl rfl ?_;intro _ M;refine qa ?_;exact af _ _ ⟨false,d.n,d.y.q.b1,d.y.o1,d.y.q.t1.length,d.y.c1,d.y.o2,d.y.q.q1.length,d.y.c2,d.y.q.b2,d.y.o3,d.y.q.t2.length,d.y.c3,d.y.o4,d.y.q.q2.length,d.y.c4,⟨#[]⟩,d.ro,d.rl.length,d.rc,d.lo,ts.length,d.lc,⟨by
         unfold jm;repeat (first|rw[gj (by omega)]|rw[f7 (by omega)])
         first|rfl|rw[bf],by first|exact aa|decide,by first|exact ab|decide,by first|exact ac|decide,by first|exact ae|decide⟩,A.keep _ ⟨rfl,rfl,rfl,rfl,trivial⟩,M⟩
      ·have aq':=f6 aq;refine sdc A qe aq λA=>?_;refine sda A λA=>?_;refine qcf bw A ?_;refine wsr fun _ bz=>?_;rcases tf ((d.k==6))with ar|ar
       ·have ar':=gr ar;refine sdc A qe ar λA=>?_;refine sda A λA=>?_;refine qct bz A ?_;refine wp_skip (bi _ _ (ct A ?_));refine wrl (sdf A 8 vg λA=>?_);refine sdl A M o99 0 λA=>?_;rcases tf (okS d.s)with bg|bg
        ·refine gcl A M ec (qcc hok.smax (hT.below M.bel) bg) fun _ _ M a A=>?_;refine sda A λA=>?_;refine sdf A 8 vg λA=>?_;refine qt A M rfl rfl (qj rfl rfl rfl (by kernel_rfl) M 0 rfl rfl rfl) 0 rfl rfl rfl ?_;intro _ M;refine qa ?_;exact af _ _ ⟨true,d.n,d.y.q.b1,d.y.o1,d.y.q.t1.length,d.y.c1,d.y.o2,d.y.q.q1.length,d.y.c2,d.y.q.b2,d.y.o3,d.y.q.t2.length,d.y.c3,d.y.o4,d.y.q.q2.length,d.y.c4,⟨#[]⟩,d.ro,d.rl.length,d.rc,d.lo,ts.length,d.lc,⟨by
          unfold jm;repeat (first|rw[gj (by omega)]|rw[f7 (by omega)])
          first|rfl|rw[bg],by first|exact aa|decide,by first|exact ab|decide,by first|exact ac|decide,by first|exact ae|decide⟩,A.keep _ ⟨rfl,rfl,rfl,rfl,trivial⟩,M⟩
        ·refine gcl A M ec (qcc hok.smax (hT.below M.bel) bg) fun _ _ M a A=>?_;refine sda A λA=>?_;refine sdf A 8 vg λA=>?_;refine qt A M rfl rfl (qj rfl rfl rfl (by kernel_rfl) M 0 rfl rfl rfl) 0 rfl rfl rfl ?_;intro _ M;refine qa ?_;exact af _ _ ⟨false,d.n,d.y.q.b1,d.y.o1,d.y.q.t1.length,d.y.c1,d.y.o2,d.y.q.q1.length,d.y.c2,d.y.q.b2,d.y.o3,d.y.q.t2.length,d.y.c3,d.y.o4,d.y.q.q2.length,d.y.c4,⟨#[]⟩,d.ro,d.rl.length,d.rc,d.lo,ts.length,d.lc,⟨by
          unfold jm;repeat (first|rw[gj (by omega)]|rw[f7 (by omega)])
          first|rfl|rw[bg],by first|exact aa|decide,by first|exact ab|decide,by first|exact ac|decide,by first|exact ae|decide⟩,A.keep _ ⟨rfl,rfl,rfl,rfl,trivial⟩,M⟩
       ·have ar':=f6 ar;refine sdc A qe ar λA=>?_;refine sda A λA=>?_;refine qcf bz A ?_;refine wrl ?_;rcases tf ((d.k==11))with au|au
        ·have au':=gr au;refine sdc A qe au λA=>?_;refine sda A λA=>?_;refine qct bi A ?_;refine wrl (sdf A 8 vg λA=>?_);refine sdl A M o99 0 λA=>?_;rcases tf (okS d.s)with bh|bh
         ·refine gcl A M ec (qcc hok.smax (hT.below M.bel) bh) fun _ _ M a A=>?_;refine sda A λA=>?_;refine sdf A 8 vg λA=>?_;refine qt A M rfl rfl (qj rfl rfl rfl (by kernel_rfl) M 0 rfl rfl rfl) 0 rfl rfl rfl ?_;intro _ M;refine qa ?_;exact af _ _ ⟨true,d.n,d.y.q.b1,d.y.o1,d.y.q.t1.length,d.y.c1,d.y.o2,d.y.q.q1.length,d.y.c2,d.y.q.b2,d.y.o3,d.y.q.t2.length,d.y.c3,d.y.o4,d.y.q.q2.length,d.y.c4,⟨#[]⟩,d.ro,d.rl.length,d.rc,d.lo,ts.length,d.lc,⟨by
           unfold jm;repeat (first|rw[gj (by omega)]|rw[f7 (by omega)])
           first|rfl|rw[bh],by first|exact aa|decide,by first|exact ab|decide,by first|exact ac|decide,by first|exact ae|decide⟩,A.keep _ ⟨rfl,rfl,rfl,rfl,trivial⟩,M⟩
         ·refine gcl A M ec (qcc hok.smax (hT.below M.bel) bh) fun _ _ M a A=>?_;refine sda A λA=>?_;refine sdf A 8 vg λA=>?_;refine qt A M rfl rfl (qj rfl rfl rfl (by kernel_rfl) M 0 rfl rfl rfl) 0 rfl rfl rfl ?_;intro _ M;refine qa ?_;exact af _ _ ⟨false,d.n,d.y.q.b1,d.y.o1,d.y.q.t1.length,d.y.c1,d.y.o2,d.y.q.q1.length,d.y.c2,d.y.q.b2,d.y.o3,d.y.q.t2.length,d.y.c3,d.y.o4,d.y.q.q2.length,d.y.c4,⟨#[]⟩,d.ro,d.rl.length,d.rc,d.lo,ts.length,d.lc,⟨by
           unfold jm;repeat (first|rw[gj (by omega)]|rw[f7 (by omega)])
           first|rfl|rw[bh],by first|exact aa|decide,by first|exact ab|decide,by first|exact ac|decide,by first|exact ae|decide⟩,A.keep _ ⟨rfl,rfl,rfl,rfl,trivial⟩,M⟩
        ·have au':=f6 au;refine sdc A qe au λA=>?_;refine sda A λA=>?_;refine qcf bi A ?_;refine wsr fun _ cc=>?_;rcases tf ((d.k==7))with av|av
         ·have av':=gr av;refine sdc A qe av λA=>?_;refine sda A λA=>?_;refine qct cc A ?_;refine wrl (sdf A 9 qai λA=>?_);refine qt A M rfl rfl (qj rfl rfl rfl (by kernel_rfl) M 0 rfl rfl rfl) 0 rfl rfl rfl ?_;intro _ M;refine qa ?_;exact af _ _ ⟨true,d.n,d.y.q.b1,d.y.o1,d.y.q.t1.length,d.y.c1,d.y.o2,d.y.q.q1.length,d.y.c2,d.y.q.b2,d.y.o3,d.y.q.t2.length,d.y.c3,d.y.o4,d.y.q.q2.length,d.y.c4,d.s,none,0,0,d.lo,ts.length,d.lc,⟨by
           unfold jm;repeat (first|rw[gj (by omega)]|rw[f7 (by omega)])
           first|rfl,by first|exact aa|decide,by first|exact ab|decide,by first|exact ac|decide,by first|exact ae|decide⟩,A.keep _ ⟨rfl,rfl,rfl,rfl,trivial⟩,M⟩
         ·have av':=f6 av;refine sdc A qe av λA=>?_;refine sda A λA=>?_;refine qcf cc A ?_;refine wsr fun _ cd=>?_;rcases tf ((d.k==8))with aw|aw
          ·have aw':=gr aw;refine sdc A qe aw λA=>?_;refine sda A λA=>?_;refine qct cd A ?_;refine wrl (sdf A 10 jz λA=>?_);refine sdl A M ke 0 λA=>?_;refine sdo A (qr f9 rfl) λA=>?_;rcases tf ((((ts.length:Nat):Int)==2))with ax|ax
           ·have ax':=gr ax;refine sdc A qe ax λA=>?_;refine sda A λA=>?_;refine sdf A 10 jz λA=>?_;refine qt A M rfl rfl (qj rfl rfl rfl (by kernel_rfl) M 0 rfl rfl rfl) 0 rfl rfl rfl ?_;intro _ M;refine qa ?_;exact af _ _ ⟨true,d.n,d.y.q.b1,d.y.o1,d.y.q.t1.length,d.y.c1,d.y.o2,d.y.q.q1.length,d.y.c2,d.y.q.b2,d.y.o3,d.y.q.t2.length,d.y.c3,d.y.o4,d.y.q.q2.length,d.y.c4,d.s,d.ro,d.rl.length,d.rc,none,0,0,⟨by
             unfold jm;repeat (first|rw[gj (by omega)]|rw[f7 (by omega)])
             first|rfl|(rw[gv (show(ts.length=2)by omega)]),by first|exact aa|decide,by first|exact ab|decide,by first|exact ac|decide,by first|exact ae|decide⟩,A.keep _ ⟨rfl,rfl,rfl,rfl,trivial⟩,M⟩
           ·have ax':=f6 ax;refine sdc A qe ax λA=>?_;refine sda A λA=>?_;refine sdf A 10 jz λA=>?_;refine qt A M rfl rfl (qj rfl rfl rfl (by kernel_rfl) M 0 rfl rfl rfl) 0 rfl rfl rfl ?_;intro _ M;refine qa ?_;exact af _ _ ⟨false,d.n,d.y.q.b1,d.y.o1,d.y.q.t1.length,d.y.c1,d.y.o2,d.y.q.q1.length,d.y.c2,d.y.q.b2,d.y.o3,d.y.q.t2.length,d.y.c3,d.y.o4,d.y.q.q2.length,d.y.c4,d.s,d.ro,d.rl.length,d.rc,none,0,0,⟨by
             unfold jm;repeat (first|rw[gj (by omega)]|rw[f7 (by omega)])
             first|rfl|(rw[gn (show ¬(ts.length=2)by omega)]),by first|exact aa|decide,by first|exact ab|decide,by first|exact ac|decide,by first|exact ae|decide⟩,A.keep _ ⟨rfl,rfl,rfl,rfl,trivial⟩,M⟩
          ·have aw':=f6 aw;refine sdc A qe aw λA=>?_;refine sda A λA=>?_;refine qcf cd A ?_;refine wsr fun _ ce=>?_;rcases tf ((d.k==9))with ay|ay
           ·have ay':=gr ay;refine sdc A qe ay λA=>?_;refine sda A λA=>?_;refine qct ce A ?_;refine wrl (sdf A 10 jz λA=>?_);refine qt A M rfl rfl (qj rfl rfl rfl (by kernel_rfl) M 0 rfl rfl rfl) 0 rfl rfl rfl ?_;intro _ M;refine qa ?_;exact af _ _ ⟨true,d.n,d.y.q.b1,d.y.o1,d.y.q.t1.length,d.y.c1,d.y.o2,d.y.q.q1.length,d.y.c2,d.y.q.b2,d.y.o3,d.y.q.t2.length,d.y.c3,d.y.o4,d.y.q.q2.length,d.y.c4,d.s,d.ro,d.rl.length,d.rc,none,0,0,⟨by
             unfold jm;repeat (first|rw[gj (by omega)]|rw[f7 (by omega)])
             first|rfl,by first|exact aa|decide,by first|exact ab|decide,by first|exact ac|decide,by first|exact ae|decide⟩,A.keep _ ⟨rfl,rfl,rfl,rfl,trivial⟩,M⟩
           ·have ay':=f6 ay;refine sdc A qe ay λA=>?_;refine sda A λA=>?_;refine qcf ce A ?_;refine wrl (sda A λA=>?_);refine qa ?_;exact af _ _ ⟨false,d.n,d.y.q.b1,d.y.o1,d.y.q.t1.length,d.y.c1,d.y.o2,d.y.q.q1.length,d.y.c2,d.y.q.b2,d.y.o3,d.y.q.t2.length,d.y.c3,d.y.o4,d.y.q.q2.length,d.y.c4,d.s,d.ro,d.rl.length,d.rc,d.lo,ts.length,d.lc,⟨by
             unfold jm;repeat (first|rw[gj (by omega)]|rw[f7 (by omega)])
             first|rfl,by first|exact aa|decide,by first|exact ab|decide,by first|exact ac|decide,by first|exact ae|decide⟩,A.keep _ ⟨rfl,rfl,rfl,rfl,trivial⟩,M⟩
theorem Mg.here{w0 w:World}{L:List Ck}(h:Mg w0 w L)(k:Nat){g:Nat}{cs:List Value}{t:TypeId}(hk:L[k]?=some (.obj g (.cells cs.toArray t))):Here w g 0 cs:=⟨(Array.getElem?_eq_some_iff.1 (h.obj k hk)).1,fun j v hj=>by rw[Nat.zero_add]; exact h.cell k hk j hj⟩
def Through(t:Dt):Prop:=∀{w:World},t.rd w→Tabs8 w→Calls Tryz.prog 94 #[.agg t.cells.toArray] w (RB w (bV (vi qh t.tr)))
theorem qtd: ∀t:Dt,Through t:=Dt.indT fun d ts ih=>by
 intro w hrd hT;have hok:=(Dt.rd_iff.1 hrd);have hlen:ts.length≤9223372036854775807:=gz hok.2.1 hok.2.2.1;have M:=Mg.start w;refine wof Tryz.func94 Tryz.ntmps94 fun Q hret hnorm hP a A=>?_;refine wsr fun K1 hK1=>zj (vs:=[iV d.k,iV d.n,bV d.y.q.b1,.slice d.y.o1 d.y.q.t1.length d.y.c1,.slice d.y.o2 d.y.q.q1.length d.y.c2,bV d.y.q.b2,.slice d.y.o3 d.y.q.t2.length d.y.c3,.slice d.y.o4 d.y.q.q2.length d.y.c4,.string d.s,.slice d.ro d.rl.length d.rc,.slice d.lo ts.length d.lc]) (t:=30) A M rfl rfl rfl pg (qx rfl rfl) (by decide) ?_;intro g2 w3 M a A;refine sda A λA=>?_;refine qa (hK1 _ _ (wsk fun K4 hK4=>wsr fun K5 hK5=>sdo A (qz M zv rfl 0 rfl (cs:=[iV d.k,iV d.n,bV d.y.q.b1,.slice d.y.o1 d.y.q.t1.length d.y.c1,.slice d.y.o2 d.y.q.q1.length d.y.c2,bV d.y.q.b2,.slice d.y.o3 d.y.q.t2.length d.y.c3,.slice d.y.o4 d.y.q.q2.length d.y.c4,.string d.s,.slice d.ro d.rl.length d.rc,.slice d.lo ts.length d.lc]) rfl rfl) λA=>?_));rcases tf (jm d.k d.n d.y.q d.s d.rl.length ts.length)with hb6|hb6
 ·refine gcl A M ec ((hb6▸qza (ts:=ts) (hok.1.below M.bel) (hT.below M.bel))) fun w8 hb7 M a A=>?_;refine sdu A λA=>?_;refine qcf hK5 A ?_;refine wp_skip (hK4 _ _ (wsk fun K9 hK9=>wsr fun K10 hK10=>sdf A 10 jz λA=>?_));refine sdl A M ke 0 λA=>?_;refine sdo A (qr f9 rfl) λA=>?_;refine sdm A λA=>?_;refine qa (hK10 _ _ (wp_block (zg (fun m_ a w1=>∃(i:Nat),m_=1+(ts.length-i)∧(i≤ts.length∧qeg qh ((ts.map Dt.tr).drop 0)=qeg qh ((ts.map Dt.tr).drop i))∧Sl a 19 [(0,.agg (d.cells ts.length).toArray),(1,pA g2 0),(5,.agg (d.cells ts.length).toArray),(6,bV true),(7,bV false),(8,pA g2 10),(9,.slice d.lo ts.length d.lc),(10,iV (((ts.length:Nat):Int))),(11,iV (((i:Nat):Int)))]∧Mg w w1 (.obj g2 (.cells (d.cells ts.length).toArray 30)::[])) _ ⟨0,rfl,⟨ii _,rfl⟩,A.keep _ (by repeat' constructor),M⟩ ?_)));clear M A;rintro m_ a w11 ⟨i,rfl,hinv13,A,M⟩ K12 hK12;obtain⟨hi0,hin9⟩:=hinv13;refine wsr fun K14 hK14=>?_;rcases tf (decide (((i:Nat):Int)<((ts.length:Nat):Int)))with hb15|hb15
  ·have hb15':=f5 hb15;refine sdc A qy hb15 λA=>?_;refine qa (hK14 _ _ (wsk fun K16 hK16=>wp_cond_true (A.ev rfl) ?_));refine wp_skip (hK16 _ _ (wsk fun K17 hK17=>wp_block (wsk fun K18 hK18=>?_)));obtain⟨t1,b1,o1,hi1,hm1,hr1,hl1,hH1⟩:=kid hrd (i:=i) (by omega);refine wrl (sdo (v:=pA b1 (o1+i*11)) A (qk (k:=i) f9 (by kernel_rfl) rfl rfl rfl hl1 (by omega)) λA=>?_);refine sdo A (zp M hH1 zv rfl rfl) λA=>?_;refine zj (vs:=zD) (t:=30) A M rfl rfl rfl pg (qm (z:=.agg zD.toArray) (by kernel_rfl) rfl) (by decide) ?_;intro g19 w20 M a A;refine qt A M rfl rfl (qj rfl rfl rfl (by kernel_rfl) M 0 rfl rfl rfl) 0 rfl rfl rfl ?_;intro w21 M;refine qa (hK18 _ _ (wsr fun K22 hK22=>sdo A (qz M zv rfl 0 rfl (cs:=[iV t1.d.k,iV t1.d.n,bV t1.d.y.q.b1,.slice t1.d.y.o1 t1.d.y.q.t1.length t1.d.y.c1,.slice t1.d.y.o2 t1.d.y.q.q1.length t1.d.y.c2,bV t1.d.y.q.b2,.slice t1.d.y.o3 t1.d.y.q.t2.length t1.d.y.c3,.slice t1.d.y.o4 t1.d.y.q.q2.length t1.d.y.c4,.string t1.d.s,.slice t1.d.ro t1.d.rl.length t1.d.rc,.slice t1.d.lo t1.ts.length t1.d.lc]) rfl rfl) λA=>?_));rcases tf (vi qh t1.tr)with hb23|hb23
   ·refine gcl A M ec ((hb23▸ih t1 hm1 (Dt.keep M.bel _ hr1) (hT.below M.bel))) fun w25 hb24 M a A=>?_;refine sdu A λA=>?_;refine qcf hK22 A ?_;refine wp_skip (hK17 _ _ (wrl (sdo (v:=iV (((i+1:Nat):Int))) A (qb rfl rfl (fun w=>(zq (jk (by omega) (by omega)) w).trans (by rw[show(((i:Nat):Int)+1:Int)=((i+1:Nat):Int)from by omega]))) λA=>?_)));refine sdm A λA=>?_;refine qa ?_;replace M:Mg w w25 (.obj g2 (.cells (d.cells ts.length).toArray 30)::[]):=by
     have h9:=M.sub (cN (cC (.refl _)));exact h9
    refine hK12 _ _ _ (by omega) ⟨i+1,rfl,⟨by omega,by rw[hin9,jcc hi1,hb23,Bool.true_and]⟩,A.keep _ (by repeat' constructor),M⟩
   ·refine gcl A M ec ((hb23▸ih t1 hm1 (Dt.keep M.bel _ hr1) (hT.below M.bel))) fun _ _ M a A=>?_;refine sdu A λA=>?_;refine qct hK22 A ?_;refine wsr fun _ aa=>sda A λA=>?_;refine qr1 aa hret A ?_;rw[show vi qh (Dt.mk d ts).tr=false from by rw[qva,uk,hb6,Bool.true_and,hin9,jcc hi1,hb23,Bool.false_and]];exact⟨rfl,M.bel⟩
  ·have hb15':=fy hb15;refine sdc A qy hb15 λA=>?_;refine qa (hK14 _ _ (wsk fun _ _=>wp_cond_false (A.ev rfl) ?_));refine wp_exit (hK9 _ _ (wsr fun _ ab=>sda A λA=>?_));refine qr1 ab hret A ?_;rw[show vi qh (Dt.mk d ts).tr=true from by rw[qva,uk,hb6,Bool.true_and,hin9,qbj (by omega),qeg]];exact⟨rfl,M.bel⟩
 ·refine gcl A M ec ((hb6▸qza (ts:=ts) (hok.1.below M.bel) (hT.below M.bel))) fun _ _ M a A=>?_;refine sdu A λA=>?_;refine qct hK5 A ?_;refine wsr fun _ ac=>sda A λA=>?_;refine qr1 ac hret A ?_;rw[show vi qh (Dt.mk d ts).tr=false from by rw[qva,uk,hb6,Bool.false_and]];exact⟨rfl,M.bel⟩
theorem qwf{w:World}{d:Nd}{ts:List Dt}(hrd:(Dt.mk d ts).rd w):Calls Tryz.prog 93 #[.agg (d.cells ts.length).toArray] w (RB w (bV (jx 1 20000 (Dt.mk d ts).tr).1)):=by
 have M:=Mg.start w;refine wof Tryz.func93 Tryz.ntmps93 fun Q hret hnorm hP a A=>?_;refine wsr fun _ aa=>zj (vs:=[iV d.k,iV d.n,bV d.y.q.b1,.slice d.y.o1 d.y.q.t1.length d.y.c1,.slice d.y.o2 d.y.q.q1.length d.y.c2,bV d.y.q.b2,.slice d.y.o3 d.y.q.t2.length d.y.c3,.slice d.y.o4 d.y.q.q2.length d.y.c4,.string d.s,.slice d.ro d.rl.length d.rc,.slice d.lo ts.length d.lc]) (t:=30) A M rfl rfl rfl pg (qx rfl rfl) (by decide) ?_;intro g2 w3 M a A;refine sda A λA=>?_;refine qwk aa fun K4 ab=>?_;have hB1:=M.bel;have hH1:=M.here 0 (cs:=d.cells ts.length) rfl;replace M:=Mg.start w3;refine wrl (zj (vs:=[iV 0]) (t:=3) A M rfl rfl rfl pg (qm (z:=iV 0) (by kernel_rfl) rfl) (by decide) ?_);intro g5 _ M a A;refine qt A M rfl rfl (qj rfl rfl rfl (by kernel_rfl) M 0 rfl rfl rfl) 0 rfl rfl rfl ?_;intro _ M;refine qa (ab _ _ (wsr fun _ ac=>sct A ec (zwi (Dt.mk d ts) (Dt.keep hB1 _ hrd) hH1 M (by omega) (by omega) (by omega) (by omega)) ?_));rintro _ _ ⟨rfl,ae⟩;replace M:=ae;refine⟨_,rfl,?_⟩;intro a A;refine sda A λA=>?_;refine qr1 ac hret A ?_;exact⟨rfl,hB1.trans (M.bel.mono hB1.size)⟩
theorem jnf{w:World}{d:Nd}{ts:List Dt}(hrd:(Dt.mk d ts).rd w)(hT:Tabs8 w):Calls Tryz.prog 59 #[.agg (d.cells ts.length).toArray] w (RB w (bV (qs qh (Dt.mk d ts).tr))):=by
 have M:=Mg.start w;refine wof Tryz.func59 Tryz.ntmps59 fun Q hret hnorm hP a A=>?_;refine wsr fun _ ae=>zj (vs:=[iV d.k,iV d.n,bV d.y.q.b1,.slice d.y.o1 d.y.q.t1.length d.y.c1,.slice d.y.o2 d.y.q.q1.length d.y.c2,bV d.y.q.b2,.slice d.y.o3 d.y.q.t2.length d.y.c3,.slice d.y.o4 d.y.q.q2.length d.y.c4,.string d.s,.slice d.ro d.rl.length d.rc,.slice d.lo ts.length d.lc]) (t:=30) A M rfl rfl rfl pg (qx rfl rfl) (by decide) ?_;intro g2 _ M a A;refine sda A λA=>?_;refine qa (ae _ _ (wsr fun K4 aa=>sdo A (qz M zv rfl 0 rfl (cs:=[iV d.k,iV d.n,bV d.y.q.b1,.slice d.y.o1 d.y.q.t1.length d.y.c1,.slice d.y.o2 d.y.q.q1.length d.y.c2,bV d.y.q.b2,.slice d.y.o3 d.y.q.t2.length d.y.c3,.slice d.y.o4 d.y.q.q2.length d.y.c4,.string d.s,.slice d.ro d.rl.length d.rc,.slice d.lo ts.length d.lc]) rfl rfl) λA=>?_));rcases tf ((jx 1 20000 (Dt.mk d ts).tr).1)with ab|ab
 ·refine gcl A M ec ((ab▸qwf (Dt.keep M.bel _ hrd))) fun _ _ M a A=>?_;refine sdm A λA=>?_;refine sdo A (qz M zv rfl 0 rfl (cs:=[iV d.k,iV d.n,bV d.y.q.b1,.slice d.y.o1 d.y.q.t1.length d.y.c1,.slice d.y.o2 d.y.q.q1.length d.y.c2,bV d.y.q.b2,.slice d.y.o3 d.y.q.t2.length d.y.c3,.slice d.y.o4 d.y.q.q2.length d.y.c4,.string d.s,.slice d.ro d.rl.length d.rc,.slice d.lo ts.length d.lc]) rfl rfl) λA=>?_;rcases tf (vi qh (Dt.mk d ts).tr)with ac|ac
  ·refine gcl A M ec ((ac▸qtd (Dt.mk d ts) (Dt.keep M.bel _ hrd) (hT.below M.bel))) fun _ _ M a A=>?_;refine sdk (v:=bV true) A λA=>?_;refine sda A λA=>?_;refine qr1 aa hret A ?_;exact⟨by unfold qs; simp_all,M.bel⟩
  ·refine gcl A M ec ((ac▸qtd (Dt.mk d ts) (Dt.keep M.bel _ hrd) (hT.below M.bel))) fun _ _ M a A=>?_;refine sdk (v:=bV false) A λA=>?_;refine sda A λA=>?_;refine qr1 aa hret A ?_;exact⟨by unfold qs; simp_all,M.bel⟩
 ·refine gcl A M ec ((ab▸qwf (Dt.keep M.bel _ hrd))) fun _ _ M a A=>?_;refine sdm A λA=>?_;iterate 2 refine sks A λA=>?_
  refine sdk (v:=bV false) A λA=>?_;refine sda A λA=>?_;refine qr1 aa hret A ?_;exact⟨by unfold qs; simp_all,M.bel⟩
theorem sound_any{w:World}{t:Dt}(hrd:t.rd w)(hT:Tabs8 w):Calls Tryz.prog 59 #[.agg t.cells.toArray] w (RB w (bV (qs qh t.tr))):=by
 obtain⟨d,ts⟩:=t;exact jnf hrd hT
end Go.Proofs.YtmnlfahgklnpeaaGreatDoor.G
namespace Go.Proofs
open Go.Shelf
def Tryz.laysM316_ren: Go.Shelf.Ren:=⟨fun|316=>96|n=>n,fun|9=>9|3=>3|4=>4|37=>27|0=>0|127=>124|5=>5|n=>n,fun|n=>n⟩
theorem Tryz.laysM316: Go.Proofs.LaysM.n316 Tryz.prog Tryz.laysM316_ren:={
  mixed:=by kernel_rfl
  f316:=Tryz.func96.trans (congrArg some (by kernel_rfl))
  t0:=Tryz.underlying0
  a0:=Tryz.isAgg0
  z0:=Tryz.sizeOf0
  v0:=Tryz.zeroValue0
  t3:=Tryz.underlying3
  a3:=Tryz.isAgg3
  z3:=Tryz.sizeOf3
  v3:=Tryz.zeroValue3
  t4:=Tryz.underlying4
  a4:=Tryz.isAgg4
  z4:=Tryz.sizeOf4
  v4:=Tryz.zeroValue4
  t9:=Tryz.underlying9
  a9:=Tryz.isAgg9
  z9:=Tryz.sizeOf9
  v9:=Tryz.zeroValue9
  t37:=Tryz.underlying27
  a37:=Tryz.isAgg27
  z37:=Tryz.sizeOf27
  v37:=Tryz.zeroValue27
  t127:=Tryz.underlying124
  a127:=Tryz.isAgg124
  z127:=Tryz.sizeOf124
  v127:=Tryz.zeroValue124
  t5:=Tryz.underlying5
  a5:=Tryz.isAgg5
  z5:=Tryz.sizeOf5
  v5:=Tryz.zeroValue5
  i0:=by kernel_rfl
  i3:=by kernel_rfl
  i4:=by kernel_rfl
  i5:=by kernel_rfl
  i9:=by kernel_rfl
  i37:=by kernel_rfl
  i127:=by kernel_rfl }
open Go.RowKit in
theorem Tryz.stringslite_Clone(s:ByteArray)(w:World)(hlim:s.size≤281474976710656):
    Calls Tryz.prog 96 #[.string s] w fun e w'=>e=.returned (.string s)∧Below w.heap.size w w':=Any.stringslite_Clone Tryz.laysM316 s w hlim
end Go.Proofs
namespace Go.Proofs.YtmnlfahgklnpeaaGreatDoor.G
open Go.RowKit
theorem xjh{w:World}{so:Option Addr}{ca:Nat}{l:List UInt8}(hb:Rb w so l)(hl:l.length≤1000000000):Calls Tryz.prog 62 #[.slice so l.length ca] w fun e w'=>∃v,e=.returned v∧Mg w w' [.row BY 1 v l.length (Lib.byteCells l)]:=by
 have M:=Mg.start w;refine wof Tryz.func62 Tryz.ntmps62 fun Q hret hnorm hP a A=>?_;refine wsr fun _ aa=>sda A λA=>?_;refine qwr aa fun _ ab=>sdm A λA=>?_;replace M:=M.nilRow (za zd) BY 1;refine xd (e:=BY) (sz:=1) (k:=0) (q:=0) (m:=l.length) (xs:=[]) (news:=Lib.byteCells l) A rfl rfl rfl (yf (z:=.int .u8 0) (sz:=1) (by_:=1) ib (by kernel_rfl) rfl rfl rfl M 0 rfl rfl rfl (jcg l) ((jlf hb).below M.bel) (jfh l) (by omega)) (fun _=>rfl) ?_;intro _ _ M a A;refine sda A λA=>?_;refine qr1 ab hret A ?_;exact⟨_,rfl,by rw[Nat.zero_add,f8]at M; exact M⟩
theorem xji{w:World}{so:Option Addr}{ca:Nat}{l:List Nat}(hb:Rd w so l)(hl:l.length≤1000000000):Calls Tryz.prog 95 #[.slice so l.length ca] w fun e w'=>∃v,e=.returned v∧Mg w w' [.row 144 1 v l.length (ka l)]:=by
 have M:=Mg.start w;refine wof Tryz.func95 Tryz.ntmps95 fun Q hret hnorm hP a A=>?_;refine wsr fun _ aa=>sda A λA=>?_;refine qwr aa fun _ ab=>sdm A λA=>?_;replace M:=M.nilRow (za zd) 144 1;refine xd (e:=144) (sz:=1) (k:=0) (q:=0) (m:=l.length) (xs:=[]) (news:=ka l) A rfl rfl rfl (yf (z:=.int .u32 0) (sz:=1) (by_:=4) im (by kernel_rfl) rfl rfl rfl M 0 rfl rfl rfl (jcf l) ((jlg hb).below M.bel) (qqd l) (by omega)) (fun _=>rfl) ?_;intro _ _ M a A;refine sda A λA=>?_;refine qr1 ab hret A ?_;exact⟨_,rfl,by rw[Nat.zero_add,f8]at M; exact M⟩
theorem xdj{w:World}{so:Option Addr}{ca:Nat}{ts:List Dt}(hb:Rt w so ts)(hl:ts.length≤1000000000):Calls Tryz.prog 97 #[.slice so ts.length ca] w fun e w'=>∃v,e=.returned v∧Mg w w' [.row 30 11 v ts.length (cellsOf ts)]:=by
 have M:=Mg.start w;refine wof Tryz.func97 Tryz.ntmps97 fun Q hret hnorm hP a A=>?_;refine wsr fun _ aa=>sda A λA=>?_;refine qwr aa fun _ ab=>sdm A λA=>?_;replace M:=M.nilRow (za zd) 30 11;refine xd (e:=30) (sz:=11) (k:=0) (q:=0) (m:=ts.length) (xs:=[]) (news:=cellsOf ts) A rfl rfl rfl (yf (z:=.agg #[iV 0,iV 0,bV false,.slice none 0 0,.slice none 0 0,bV false,.slice none 0 0,.slice none 0 0,.string ⟨#[]⟩,.slice none 0 0,.slice none 0 0]) (sz:=11) (by_:=192) f9 (by kernel_rfl) rfl rfl rfl M 0 rfl rfl rfl (qab ts) ((xje hb).below M.bel) (qgj ts) (by omega)) (fun _=>rfl) ?_;intro _ _ M a A;refine sda A λA=>?_;refine qr1 ab hret A ?_;exact⟨_,rfl,by rw[Nat.zero_add,f8]at M; exact M⟩
theorem jyj{w:World}{so:Option Addr}{ca:Nat}{l:List UInt8}(hb:Rb w so l)(hl:l.length≤1000000000):Calls Tryz.prog 62 #[.slice so l.length ca] w fun e w'=>∃so' ca',e=.returned (.slice so' l.length ca')∧(Rb w' so' l∧In (w.heap.size≤·) so' l∧l.length≤ca'∧ca'≤9223372036854775807)∧Below w.heap.size w w':=by
 refine(xjh hb hl).mono ?_;rintro _ w' ⟨v,rfl,M⟩;obtain⟨so',ca',rfl⟩:=yd (M.has 0 rfl);exact⟨so',ca',rfl,⟨(xfd M 0 rfl).1,zja (M.has 0 rfl) _,jch (M.has 0 rfl),jwf (M.has 0 rfl)⟩,M.bel⟩
theorem jdh{w:World}{so:Option Addr}{ca:Nat}{l:List Nat}(hb:Rd w so l)(hl:l.length≤1000000000):Calls Tryz.prog 95 #[.slice so l.length ca] w fun e w'=>∃so' ca',e=.returned (.slice so' l.length ca')∧(Sc w' so' ca' l∧In (w.heap.size≤·) so' l)∧Below w.heap.size w w':=by
 refine(xji hb hl).mono ?_;rintro _ w' ⟨v,rfl,M⟩;obtain⟨so',ca',rfl⟩:=yd (M.has 0 rfl);exact⟨so',ca',rfl,⟨xff hb.dig (M.has 0 rfl),zja (M.has 0 rfl) _⟩,M.bel⟩
theorem jdi{w:World}{b:Bool}{o1 o2:Option Addr}{c1 c2:Nat}{t q:List Nat}(h1:Sc w o1 c1 t)(h2:Sc w o2 c2 q)(l1:t.length≤1000000000)(l2:q.length≤1000000000):Calls Tryz.prog 60 #[.agg #[bV b,.slice o1 t.length c1,.slice o2 q.length c2]] w fun e w'=>∃p1 d1 p2 d2,e=.returned (.agg #[bV b,.slice p1 t.length d1,.slice p2 q.length d2])∧(Sc w' p1 d1 t∧In (w.heap.size≤·) p1 t∧Sc w' p2 d2 q∧In (w.heap.size≤·) p2 q)∧Below w.heap.size w w':=by
 have M:=Mg.start w;refine wof Tryz.func60 Tryz.ntmps60 fun Q hret hnorm hP a A=>?_;refine wsr fun _ ar=>zj (vs:=[bV b,.slice o1 t.length c1,.slice o2 q.length c2]) (t:=24) A M rfl rfl rfl pg (qx rfl rfl) (by decide) ?_;intro g2 _ M a A;refine zj (vs:=[bV false,.slice none 0 0,.slice none 0 0]) (t:=24) A M rfl rfl rfl pg (qm (z:=.agg #[bV false,.slice none 0 0,.slice none 0 0]) (by kernel_rfl) rfl) (by decide) ?_;intro g4 _ M a A;refine qwk ar fun _ au=>xg (S:=fun w1=>Mg w w1 (.obj g2 (.cells #[bV b,.slice o1 t.length c1,.slice o2 q.length c2] 24)::[])) (by kernel_rfl) ?_;replace M:=M.drew;refine atk (v:=pA g2 0) A 0 rfl hP (M.sub (cN (cC ns))) (λ_ M=>qp zwb rfl rfl) λA=>?_;refine atk A 1 rfl hP (M.sub (cN (cC ns))) (λ_ M=>xy M o94 rfl 0 rfl rfl) λA=>?_;refine atk (v:=pA g2 1) A 2 rfl hP (M.sub (cN (cC ns))) (λ_ M=>qp zwc rfl rfl) λA=>?_;refine atk A 3 rfl hP (M.sub (cN (cC ns))) (λ_ M=>xy M jgc rfl 0 rfl rfl) λA=>?_;refine atk (v:=pA g2 2) A 5 rfl hP (M.sub (cN (cC ns))) (λ_ M=>qp zwd rfl rfl) λA=>?_;refine atk A 6 rfl hP (M.sub (cN (cC ns))) (λ_ M=>xy M jgc rfl 0 rfl rfl) λA=>?_;have _:=(Ck.lt (M.has 0 rfl) g4 rfl).2;have _:=(Ck.lt (M.has 1 rfl) g2 rfl).2;have ap:=M.bel.size;refine zn (by kernel_rfl) (jc A 4 rfl rfl rfl rfl ec (jdh (h1.rd.below M.bel) l1) ?_);rintro _ _ ⟨ac,ae,rfl,⟨aa,af⟩,aq⟩;replace M:=M.call aq;refine⟨_,rfl,(M.sub (cN (cC ns))),?_⟩;intro a A;have _:=(Ck.lt (M.has 0 rfl) g4 rfl).2;have _:=(Ck.lt (M.has 1 rfl) g2 rfl).2;have ag:=M.bel.size;refine zn (by kernel_rfl) (jc A 7 rfl rfl rfl rfl ec (jdh (h2.rd.below M.bel) l2) ?_);rintro _ _ ⟨ah,ai,rfl,⟨ab,aj⟩,ak⟩;replace aa:=aa.below ak;replace M:=M.call ak;refine⟨_,rfl,(M.sub (cN (cC ns))),?_⟩;intro a A;refine atk (v:=.agg #[bV b,.slice ac t.length ae,.slice ah q.length ai]) A 8 rfl hP (M.sub (cN (cC ns))) (λ_ M=>qn rfl (fun w=>by kernel_rfl)) λA=>?_
 refine zn (by kernel_rfl) (qxb A M 9 rfl rfl rfl (qj rfl rfl rfl (by kernel_rfl) M 0 rfl rfl rfl) 0 rfl rfl rfl ?_);intro _ M am;replace aa:=uw aa (af.mono fun b hb=>by rintro rfl; omega) am;replace ab:=uw ab (aj.mono fun b hb=>by rintro rfl; omega) am;refine⟨(M.sub (cN (cC ns))),?_⟩;refine jl (by kernel_rfl) ?_;refine au _ _ (wp_ret (hret _ _ (en1 A rfl (zw M zwg rfl 0 rfl (cs:=[bV b,.slice ac t.length ae,.slice ah q.length ai]) rfl rfl) ?_)));exact⟨_,_,_,_,rfl,⟨aa,In.mono af (fun b hb=>gz ap hb),ab,In.mono aj (fun b hb=>gz ag hb)⟩,M.bel⟩
theorem clone_any{w:World}{s:ByteArray}(hs:s.size≤281474976710656):Calls Tryz.prog 61 #[.string s] w (RB w (.string s)):=by
 have M:=Mg.start w;refine wof Tryz.func61 Tryz.ntmps61 fun Q hret hnorm hP a A=>?_;refine wsr fun _ aa=>sda A λA=>?_;refine qwr aa fun _ ab=>sdm A λA=>?_;refine gcl A M ec (Tryz.stringslite_Clone s _ hs) fun _ _ M a A=>?_;refine sda A λA=>?_;refine qr1 ab hret A ?_;exact⟨rfl,M.bel⟩
def Copies(t:Dt):Prop:=∀{w:World},t.rd w→t.tr.bulk≤1000000000→Calls Tryz.prog 29 #[.agg (t.d.cells t.ts.length).toArray] w fun e w'=>∃t2:Dt,e=.returned (.agg (t2.d.cells t2.ts.length).toArray)∧(t2.rd w'∧t2.at_ (w.heap.size≤·)∧t2.tr=t.tr)∧Below w.heap.size w w'
def CopyAll(ts:List Dt):Prop:=∀{w:World} {so:Option Addr} {ca:Nat},Rt w so ts→(∀t∈ts,t.rd w)→Tr.bulks (ts.map Dt.tr)≤1000000000→Calls Tryz.prog 63 #[.slice so ts.length ca] w fun e w'=>∃v us,e=.returned v∧(us.map Dt.tr=ts.map Dt.tr∧(∀t∈us,t.rd w'∧t.at_ (fun b=>w.heap.size≤b∧v.ownBlock≠some b)))∧Mg w w' [.row 30 11 v us.length (cellsOf us)]
theorem zwj{ts:List Dt}(ih:∀t∈ts,Copies t)(hne:ts≠[]):CopyAll ts:=by
 intro w so ca hR hD hb;have hbl:=yj ts;have M:=Mg.start w;refine wof Tryz.func63 Tryz.ntmps63 fun Q hret hnorm hP a A=>?_;refine wsr fun _ aq=>sda A λA=>?_;refine qwr aq fun _ ar=>sdm A λA=>?_;refine sct A ec (xdj (hR.below M.bel) (by have:=yj ts; omega)) ?_;rintro _ _ ⟨_,rfl,am⟩;obtain⟨g9,c9,rfl⟩:=jlh (am.has 0 rfl) (fun k=>hne (ia.1 k));replace M:=am;refine⟨_,rfl,?_⟩;intro a A;refine sda A λA=>?_;refine qwk ar fun _ au=>wsr fun _ av=>sdm A λA=>?_;refine sdo A (qr f9 rfl) λA=>?_;refine sdm A λA=>?_;refine qa (av _ _ (wp_block (zg (fun m_ a w1=>∃(i:Nat) (cs:List Dt),m_=1+(ts.length-i)∧(i≤ts.length∧cs.length=i∧cs.map Dt.tr=(ts.take i).map Dt.tr∧CsOk w.heap.size g9 w1 cs)∧Sl a 22 [(0,.slice so ts.length ca),(2,.slice none 0 0),(3,.slice (aO g9) ts.length c9),(6,.slice so ts.length ca),(7,.slice (aO g9) ts.length c9),(8,.slice (aO g9) ts.length c9),(9,iV (((ts.length:Nat):Int))),(10,iV (((i:Nat):Int)))]∧Mg w w1 (.row 30 11 (.slice (aO g9) ts.length c9) ts.length (cellsOf (cs++ts.drop i))::[])) _ ⟨0,[],rfl,⟨ii _,rfl,rfl,jli⟩,A.keep _ (by repeat' constructor),M⟩ ?_)));clear M A;rintro m_ a _ ⟨i,cs,rfl,ab,A,M⟩ _ aw;obtain⟨_,hcl,htr,hcs⟩:=ab;refine wsr fun _ ac=>?_;rcases tf (decide (((i:Nat):Int)<((ts.length:Nat):Int)))with aa|aa
 ·have aa':=f5 aa;refine sdc A qy aa λA=>?_;refine qa (ac _ _ (wsk fun _ ae=>wp_cond_true (A.ev rfl) ?_));refine wp_skip (ae _ _ (wsk fun _ af=>wp_block (wsk fun _ ag=>?_)));obtain⟨t1,i1,m1,it1⟩:=xfg hcl (show i<ts.length by omega);refine wrl (sdm A λA=>?_);refine sdo (v:=pA g9 (i*11)) A (qaa (k:=i) f9 (by kernel_rfl) rfl rfl rfl (by omega)) λA=>?_;refine sdo A (zoa (o:=i*11) (cs:=t1.d.cells t1.ts.length) M 0 rfl zv (qmd it1) rfl rfl) λA=>?_;refine zjb (vs:=zD) (t:=30) A M rfl rfl rfl pg (qm (z:=.agg zD.toArray) (by kernel_rfl) rfl) (by decide) ?_;intro g15 _ M hg17 ah a A;refine sda A λA=>?_;refine ky A M rfl rfl (qj rfl rfl rfl (by kernel_rfl) M 0 rfl rfl rfl) 0 rfl rfl rfl ?_;intro _ M ai;replace hcs:=hcs.new hg17 ah ai;refine qa (ag _ _ (wrl ?_));iterate 2 refine sdm A λA=>?_
  refine sdo A (qz M zv rfl 0 rfl (cs:=(t1.d.cells t1.ts.length)) rfl rfl) λA=>?_;have hltg:=(Ck.lt (M.has 1 rfl) g9 rfl).2;have hsz:=M.bel.size;refine sct A ec (ih t1 m1 (Dt.keep M.bel _ (hD t1 m1)) (by have:=qdh m1; omega)) ?_;rintro _ _ ⟨t2,rfl,⟨hr2,ha2,ht2⟩,ap⟩;replace hcs:=hcs.below ap;replace M:=M.call ap;refine⟨_,rfl,?_⟩;intro a A;refine sdo (v:=pA g9 (i*11)) A (qaa (k:=i) f9 (by kernel_rfl) rfl rfl rfl (by omega)) λA=>?_;refine zeh A M rfl rfl (zoc (cs:=t2.d.cells t2.ts.length) rfl rfl rfl (by kernel_rfl) M 1 rfl (by show _+11≤_; omega) (qej t2)) 1 rfl (jlj (by rw[fv,il]; omega) (jwg t2 hcl (by omega))) rfl ?_;intro ax M aj;replace hcs:=hcs.snoc hr2 (Dt.at_mono (fun b hb=>⟨by omega,by rintro rfl; omega⟩) _ ha2) aj;refine qa (af _ _ (wrl (sdo (v:=iV (((i+1:Nat):Int))) A (qb rfl rfl (fun w=>(zq (jk (by omega) (by omega)) w).trans (by rw[show(((i:Nat):Int)+1:Int)=((i+1:Nat):Int)from by omega]))) λA=>?_)));refine sdm A λA=>?_;refine qa ?_;replace M:Mg w ax (.row 30 11 (.slice (aO g9) ts.length c9) ts.length (cellsOf ((cs++[t2])++ts.drop (i+1)))::[]):=by
   have h9:=M.sub (cN (cC (.refl _)));exact h9
  refine aw _ _ _ (by omega) ⟨i+1,cs++[t2],rfl,⟨by omega,by rw[fv]; simp only[fw,fx]; omega,jwh htr i1 ht2,hcs⟩,A.keep _ (by repeat' constructor),M⟩
 ·have aa':=fy aa;refine sdc A qy aa λA=>?_;refine qa (ac _ _ (wsk fun _ _=>wp_cond_false (A.ev rfl) ?_));refine wp_exit (au _ _ (wsr fun _ ak=>sdm A λA=>?_));refine sda A λA=>?_;refine qr1 ak hret A ?_;have e9:cs++ts.drop i=cs:=by rw[i7 (by omega),gh]
  rw[e9]at M;have e8:ts.length=cs.length:=by omega
  exact⟨_,cs,rfl,⟨by rw[htr,ld (by omega)],fun t ht=>⟨(hcs t ht).1,Dt.at_mono (fun b hb=>⟨hb.1,fun e=>hb.2 (io e).symm⟩) _ (hcs t ht).2⟩⟩,e8▸M⟩
theorem jge: CopyAll []:=by
 intro w so ca hR hD hb;have M:=Mg.start w;refine wof Tryz.func63 Tryz.ntmps63 fun Q hret hnorm hP a A=>?_;refine wsr fun _ ac=>sda A λA=>?_;refine qwr ac fun _ ae=>sdm A λA=>?_;refine sct A ec (xdj (ts:=[]) (fun k=>absurd rfl k) (by decide)) ?_;rintro _ _ ⟨_,rfl,ab⟩;obtain⟨_,c9,rfl⟩:=xu (ab.has 0 rfl);replace M:=ab;refine⟨_,rfl,?_⟩;intro a A;refine sda A λA=>?_;refine qwk ae fun _ af=>wsr fun _ ag=>sdm A λA=>?_;refine sdo A (qr f9 rfl) λA=>?_;refine sdm A λA=>?_;refine qa (ag _ _ (wp_block (wp_loop_rounds 12 ?_)));refine uy fun _ _=>?_;refine wsr fun _ ah=>sdo (v:=bV false) A (qb rfl rfl (fun w=>(qy w).trans (by rw[show(decide (0<((([]:List Dt).length:Nat):Int)))=false from(by rfl)]))) λA=>?_;refine qa (ah _ _ (wsk fun _ _=>wp_cond_false (A.ev rfl) ?_));refine wp_exit (af _ _ (wsr fun _ aa=>sdm A λA=>?_));refine sda A λA=>?_;refine qr1 aa hret A ?_;exact⟨_,[],rfl,⟨rfl,fun t h=>by cases h⟩,M⟩
theorem zfd{ts:List Dt}(ih:∀t∈ts,Copies t):CopyAll ts:=by
 by_cases h:ts=[]
 ·subst h; exact jge
 ·exact zwj ih h
theorem qcj: ∀t:Dt,Copies t:=Dt.indT fun d ts ih=>by
 intro w hrd hb;have hok:=(Dt.rd_iff.1 hrd);rw[zvh]at hb;have M:=Mg.start w;refine wof Tryz.func29 Tryz.ntmps29 fun Q hret hnorm hP a A=>?_;refine wsr fun K1 hK1=>zj (vs:=(d.cells ts.length)) (t:=30) A M rfl rfl rfl pg (qx rfl rfl) (by decide) ?_;intro g2 w3 M a A;refine zj (vs:=zD) (t:=30) A M rfl rfl rfl pg (qm (z:=.agg zD.toArray) (by kernel_rfl) rfl) (by decide) ?_;intro g4 w5 M a A;refine qwk hK1 fun K6 hK6=>xg (S:=fun w1=>Mg w w1 (.obj g2 (.cells (d.cells ts.length).toArray 30)::[])) (by kernel_rfl) ?_;replace M:=M.drew;refine atk (v:=pA g2 0) A 0 rfl hP (M.sub (cN (cC ns))) (λ_ M=>qp xk rfl rfl) λA=>?_;refine atk A 1 rfl hP (M.sub (cN (cC ns))) (λ_ M=>xy M o93 rfl 0 rfl rfl) λA=>?_;refine atk (v:=pA g2 1) A 2 rfl hP (M.sub (cN (cC ns))) (λ_ M=>qp vn rfl rfl) λA=>?_;refine atk A 3 rfl hP (M.sub (cN (cC ns))) (λ_ M=>xy M o93 rfl 0 rfl rfl) λA=>?_;refine atk (v:=pA g2 2) A 4 rfl hP (M.sub (cN (cC ns))) (λ_ M=>qp uq rfl rfl) λA=>?_;refine atk (v:=pA g2 2) A 5 rfl hP (M.sub (cN (cC ns))) (λ_ M=>qp zwe rfl rfl) λA=>?_;refine atk A 6 rfl hP (M.sub (cN (cC ns))) (λ_ M=>qz M zwg rfl 0 rfl (cs:=[bV d.y.q.b1,.slice d.y.o1 d.y.q.t1.length d.y.c1,.slice d.y.o2 d.y.q.q1.length d.y.c2]) rfl rfl) λA=>?_;refine atk (v:=pA g2 2) A 8 rfl hP (M.sub (cN (cC ns))) (λ_ M=>qp uq rfl rfl) λA=>?_;refine atk (v:=pA g2 5) A 9 rfl hP (M.sub (cN (cC ns))) (λ_ M=>qp zwf rfl rfl) λA=>?_;refine atk A 10 rfl hP (M.sub (cN (cC ns))) (λ_ M=>qz M zwg rfl 0 rfl (cs:=[bV d.y.q.b2,.slice d.y.o3 d.y.q.t2.length d.y.c3,.slice d.y.o4 d.y.q.q2.length d.y.c4]) rfl rfl) λA=>?_;refine atk (v:=pA g2 8) A 13 rfl hP (M.sub (cN (cC ns))) (λ_ M=>qp vg rfl rfl) λA=>?_;refine atk A 14 rfl hP (M.sub (cN (cC ns))) (λ_ M=>xy M o99 rfl 0 rfl rfl) λA=>?_;refine atk (v:=pA g2 9) A 16 rfl hP (M.sub (cN (cC ns))) (λ_ M=>qp qai rfl rfl) λA=>?_;refine atk A 17 rfl hP (M.sub (cN (cC ns))) (λ_ M=>xy M quf rfl 0 rfl rfl) λA=>?_
 refine atk (v:=pA g2 10) A 19 rfl hP (M.sub (cN (cC ns))) (λ_ M=>qp jz rfl rfl) λA=>?_;refine atk A 20 rfl hP (M.sub (cN (cC ns))) (λ_ M=>xy M ke rfl 0 rfl rfl) λA=>?_;have hlt7:=(Ck.lt (M.has 0 rfl) g4 rfl).2;have hlt8:=(Ck.lt (M.has 1 rfl) g2 rfl).2;have hsz9:=M.bel.size;refine zn (by kernel_rfl) (jc A 7 rfl rfl rfl rfl ec (jdi (hok.1.num.s1.below M.bel) (hok.1.num.s2.below M.bel) (by omega) (by omega)) ?_);rintro _ w11 ⟨p1,e1,p2,e2,rfl,⟨hs1,hi1,hs2,hi2⟩,hb10⟩;replace M:=M.call hb10;refine⟨_,rfl,(M.sub (cN (cC ns))),?_⟩;intro a A;have hlt12:=(Ck.lt (M.has 0 rfl) g4 rfl).2;have hlt13:=(Ck.lt (M.has 1 rfl) g2 rfl).2;have hsz14:=M.bel.size;refine zn (by kernel_rfl) (jc A 11 rfl rfl rfl rfl ec (jdi (hok.1.num.s3.below M.bel) (hok.1.num.s4.below M.bel) (by omega) (by omega)) ?_);rintro _ w16 ⟨p3,e3,p4,e4,rfl,⟨hs3,hi3,hs4,hi4⟩,hb15⟩;replace hs1:=hs1.below hb15;replace hs2:=hs2.below hb15;replace M:=M.call hb15;refine⟨_,rfl,(M.sub (cN (cC ns))),?_⟩;intro a A;refine atk (v:=.agg #[bV d.y.q.b1,.slice p1 d.y.q.t1.length e1,.slice p2 d.y.q.q1.length e2,bV d.y.q.b2,.slice p3 d.y.q.t2.length e3,.slice p4 d.y.q.q2.length e4]) A 12 rfl hP (M.sub (cN (cC ns))) (λ_ M=>qn rfl (fun w=>by kernel_rfl)) λA=>?_;refine zn (by kernel_rfl) (jc A 15 rfl rfl rfl rfl ec (clone_any (by omega)) ?_);rintro _ w17 ⟨rfl,hbc⟩;replace hs1:=hs1.below hbc;replace hs2:=hs2.below hbc;replace hs3:=hs3.below hbc;replace hs4:=hs4.below hbc;replace M:=M.call hbc;refine⟨_,rfl,(M.sub (cN (cC ns))),?_⟩;intro a A;have hlt18:=(Ck.lt (M.has 0 rfl) g4 rfl).2;have hlt19:=(Ck.lt (M.has 1 rfl) g2 rfl).2;have hz5:=M.bel.size;refine zn (by kernel_rfl) (jc A 18 rfl rfl rfl rfl ec (jyj (hok.1.raw.below M.bel) (by omega)) ?_);rintro _ w20 ⟨ro5,rc5,rfl,⟨hr5,hi5,hc5,hm5⟩,hb5⟩;replace hs1:=hs1.below hb5;replace hs2:=hs2.below hb5;replace hs3:=hs3.below hb5;replace hs4:=hs4.below hb5;replace M:=M.call hb5
 refine⟨_,rfl,(M.sub (cN (cC ns))),?_⟩;intro a A;have hlt21:=(Ck.lt (M.has 0 rfl) g4 rfl).2;have hlt22:=(Ck.lt (M.has 1 rfl) g2 rfl).2;have hz6:=M.bel.size;refine zn (by kernel_rfl) (jc A 21 rfl rfl rfl rfl ec (zfd ih (hok.2.2.2.1.below M.bel) (fun t ht=>Dt.keep M.bel _ (hok.2.2.2.2 t ht)) (by omega)) ?_);rintro _ w23 ⟨v6,us,rfl,⟨htr,hus⟩,hM6⟩;obtain⟨lo6,lc6,rfl⟩:=xu (hM6.has 0 rfl);replace hs1:=hs1.below hM6.bel;replace hs2:=hs2.below hM6.bel;replace hs3:=hs3.below hM6.bel;replace hs4:=hs4.below hM6.bel;replace hr5:=hr5.below hM6.bel;replace M:=(M.both hM6 (qi (by simp) (qi (by simp) (za zd))) (qi (by simp) (za zd)));refine⟨_,rfl,(M.sub (cN (cN (cC ns)))),?_⟩;intro a A;refine atk (v:=.agg #[iV d.k,iV d.n,bV d.y.q.b1,.slice p1 d.y.q.t1.length e1,.slice p2 d.y.q.q1.length e2,bV d.y.q.b2,.slice p3 d.y.q.t2.length e3,.slice p4 d.y.q.q2.length e4,.string d.s,.slice ro5 d.rl.length rc5,.slice lo6 us.length lc6]) A 22 rfl hP (M.sub (cN (cN (cC ns)))) (λ_ M=>qn rfl (fun w=>by kernel_rfl)) λA=>?_;refine zn (by kernel_rfl) (qxb A M 23 rfl rfl rfl (qj rfl rfl rfl (by kernel_rfl) M 1 rfl rfl rfl) 1 rfl rfl rfl ?_);intro w24 M hK25;replace hs1:=uw hs1 (hi1.mono fun b hb=>by rintro rfl; omega) hK25;replace hs2:=uw hs2 (hi2.mono fun b hb=>by rintro rfl; omega) hK25;replace hs3:=uw hs3 (hi3.mono fun b hb=>by rintro rfl; omega) hK25;replace hs4:=uw hs4 (hi4.mono fun b hb=>by rintro rfl; omega) hK25;replace hr5:=jce hr5 (hi5.mono fun b hb=>by rintro rfl; omega) hK25;have hu9:∀t∈us,t.rd w24:=fun t ht=>Dt.kept hK25 _ (hus t ht).1 (Dt.at_mono (fun b hb=>by rintro rfl; have:=hb.1; omega) _ (hus t ht).2);refine⟨(M.sub (cN (cN (cC ns)))),?_⟩;refine jl (by kernel_rfl) ?_
 refine hK6 _ _ (wp_ret (hret _ _ (en1 A rfl (zw M zv rfl 1 rfl (cs:=[iV d.k,iV d.n,bV d.y.q.b1,.slice p1 d.y.q.t1.length e1,.slice p2 d.y.q.q1.length e2,bV d.y.q.b2,.slice p3 d.y.q.t2.length e3,.slice p4 d.y.q.q2.length e4,.string d.s,.slice ro5 d.rl.length rc5,.slice lo6 us.length lc6]) rfl rfl) ?_)));have ho9:=kv (M.has 0 rfl);exact⟨.mk ⟨d.k,d.n,⟨d.y.q,p1,e1,p2,e2,p3,e3,p4,e4⟩,d.s,ro5,rc5,d.rl,lo6,lc6⟩ us,rfl,⟨Dt.rd_iff.2 ⟨{ hok.1 with num:=⟨hs1,hs2,hs3,hs4⟩,raw:=hr5,rcap:=hc5,rmax:=hm5 },ho9.2.2.1,ho9.2.2.2,ho9.1,hu9⟩,Dt.at_iff.2 ⟨⟨hi1.mono fun b hb=>gz hsz9 hb,hi2.mono fun b hb=>gz hsz9 hb,hi3.mono fun b hb=>gz hsz14 hb,hi4.mono fun b hb=>gz hsz14 hb,hi5.mono fun b hb=>gz hz5 hb⟩,zja (M.has 0 rfl) _,fun t ht=>Dt.at_mono (fun b hb=>gz hz6 hb.1) _ (hus t ht).2⟩,by rw[Dt.tr_mk,Dt.tr_mk,htr]⟩,M.bel⟩
theorem jgf{w:World}{so:Option Addr}{ca:Nat}{ts:List Dt}(hR:Rt w so ts)(hD:∀t∈ts,t.rd w)(hl:ts.length≤1000000000){f:FuncId}{cs:List Value}{p:Dt→Bool}(hF:Asks Tryz.prog f cs w ts p):Calls Tryz.prog 114 #[.slice so ts.length ca,.func (.func f) #[] cs.toArray] w (RB w (iV (zpb p ts))):=by
 have M:=Mg.start w;refine wof Tryz.func114 Tryz.ntmps114 fun Q hret hnorm hP a A=>?_;refine wsr fun _ aq=>sda A λA=>?_;refine qwk aq fun _ ar=>wsr fun _ au=>sdm A λA=>?_;refine sdo A (qr f9 rfl) λA=>?_;refine sdm A λA=>?_;refine qa (au _ _ (wp_block (zg (fun m_ a w1=>∃(i:Nat),m_=1+(ts.length-i)∧(i≤ts.length∧∀j u,j<i→ts[j]?=some u→p u=false)∧Sl a 19 [(0,.slice so ts.length ca),(1,.func (.func f) #[] cs.toArray),(6,.slice so ts.length ca),(7,iV (((ts.length:Nat):Int))),(8,iV (((i:Nat):Int)))]∧Mg w w1 ([])) _ ⟨0,rfl,⟨ii _,fun j u h=>absurd h (j4 _)⟩,A.keep _ ⟨rfl,rfl,rfl,rfl,rfl,trivial⟩,M⟩ ?_)));clear M A;rintro m_ a _ ⟨i,rfl,ae,A,M⟩ _ av;obtain⟨_,ab⟩:=ae;refine wsr fun _ ap=>?_;rcases tf (decide (((i:Nat):Int)<((ts.length:Nat):Int)))with ac|ac
 ·have ac':=f5 ac;refine sdc A qy ac λA=>?_;refine qa (ap _ _ (wsk fun _ aw=>wp_cond_true (A.ev rfl) ?_));refine wp_skip (aw _ _ (wsk fun _ ag=>wp_block (wsr fun _ ah=>sdm A λA=>?_)));refine sda A λA=>?_;refine qwk ah fun _ af=>?_;obtain⟨t1,bt1,ot1,it1,mt1,rt1_,lt1,Ht1⟩:=que hR hD (i:=i) (by omega);refine wrl ?_;iterate 3 refine sdm A λA=>?_
  refine sdo (v:=pA bt1 (ot1+i*11)) A (qk (k:=i) f9 (by kernel_rfl) rfl rfl rfl lt1 (by omega)) λA=>?_;refine sdo A (zp M Ht1 zv rfl rfl) λA=>?_;rcases tf (p t1)with aa|aa
  ·refine yp A rfl rfl rfl (qji rfl rfl hF.inv) ((aa▸hF.run t1 _ mt1 M.bel)) ?_;rintro _ _ ⟨rfl,ai⟩;replace M:=M.call ai;refine⟨_,rfl,?_⟩;intro a A;refine qct af A ?_;refine wsr fun _ aj=>sdm A λA=>?_;refine sda A λA=>?_;refine qr1 aj hret A ?_;exact⟨by rw[jwj ab it1 aa],M.bel⟩
  ·refine yp A rfl rfl rfl (qji rfl rfl hF.inv) ((aa▸hF.run t1 _ mt1 M.bel)) ?_;rintro _ ax ⟨rfl,ak⟩;replace M:=M.call ak;refine⟨_,rfl,?_⟩;intro a A;refine qcf af A ?_;refine wp_skip (ag _ _ (wrl (sdo (v:=iV (((i+1:Nat):Int))) A (qb rfl rfl (fun w=>(zq (jk (by omega) (by omega)) w).trans (by rw[show(((i:Nat):Int)+1:Int)=((i+1:Nat):Int)from by omega]))) λA=>?_)));refine sdm A λA=>?_;refine qa ?_;replace M:Mg w ax ([]):=by
    have h9:=M.sub (.refl _);exact h9
   refine av _ _ _ (by omega) ⟨i+1,rfl,⟨by omega,fun j u hj hu=>if h9:j<i then ab j u h9 hu else by have h8:j=i:=(by omega); subst h8; rw[it1]at hu; rw[←io hu]; exact aa⟩,A.keep _ ⟨rfl,rfl,rfl,rfl,rfl,trivial⟩,M⟩
 ·have ac':=fy ac;refine sdc A qy ac λA=>?_;refine qa (ap _ _ (wsk fun _ _=>wp_cond_false (A.ev rfl) ?_));refine wp_exit (ar _ _ (wsr fun _ am=>sda A λA=>?_));refine qr1 am hret A ?_;exact⟨by rw[jmb (fun j u hj=>ab j u (by omega))],M.bel⟩
theorem qpb{w:World}{so:Option Addr}{ca:Nat}{ts:List Dt}(hR:Rt w so ts)(hD:∀t∈ts,t.rd w)(hl:ts.length≤1000000000){f:FuncId}{cs:List Value}{p:Dt→Bool}(hF:Asks Tryz.prog f cs w ts p):Calls Tryz.prog 78 #[.slice so ts.length ca,.func (.func f) #[] cs.toArray] w (RB w (bV (ts.any p))):=by
 have M:=Mg.start w;refine wof Tryz.func78 Tryz.ntmps78 fun Q hret hnorm hP a A=>?_;refine wsr fun _ ac=>sda A λA=>?_;refine qwr ac fun _ ab=>?_;iterate 2 refine sdm A λA=>?_
 refine gcl A M ec (jgf (hR.below M.bel) (fun t ht=>Dt.keep M.bel _ (hD t ht)) hl ⟨hF.inv,fun t w1 ht hb=>hF.run t w1 ht (M.bel.trans (hb.mono M.bel.size))⟩) fun _ _ M a A=>?_;rcases tf (decide (0≤zpb p ts))with aa|aa
 ·have aa':=f5 aa;refine sdc A zt aa λA=>?_;refine sda A λA=>?_;refine qr1 ab hret A ?_;exact⟨by rw[←jda p ts]; simp_all,M.bel⟩
 ·have aa':=fy aa;refine sdc A zt aa λA=>?_;refine sda A λA=>?_;refine qr1 ab hret A ?_;exact⟨by rw[←jda p ts]; simp_all,M.bel⟩
theorem zqa{w:World}{t:Dt}(ht:t.rd w)(hT:Tabs8 w):Calls Tryz.prog 202 #[.agg (t.d.cells t.ts.length).toArray] w (RB w (bV (!qs qh t.tr))):=by
 have M:=Mg.start w;refine wof Tryz.func202 Tryz.ntmps202 fun Q hret hnorm hP a A=>?_;refine wsr fun _ ac=>zj (vs:=(t.d.cells t.ts.length)) (t:=30) A M rfl rfl rfl pg (qx rfl rfl) (by decide) ?_;intro g2 _ M a A;refine sda A λA=>?_;refine qa (ac _ _ (wsr fun K4 ab=>sdo A (qz M zv rfl 0 rfl (cs:=(t.d.cells t.ts.length)) rfl rfl) λA=>?_));rcases tf (qs qh t.tr)with aa|aa
 ·refine gcl A M ec ((aa▸sound_any (t:=t) (Dt.keep M.bel _ ht) (hT.below M.bel))) fun _ _ M a A=>?_;refine sdu A λA=>?_;refine sda A λA=>?_;refine qr1 ab hret A ?_;exact⟨by simp_all,M.bel⟩
 ·refine gcl A M ec ((aa▸sound_any (t:=t) (Dt.keep M.bel _ ht) (hT.below M.bel))) fun _ _ M a A=>?_;refine sdu A λA=>?_;refine sda A λA=>?_;refine qr1 ab hret A ?_;exact⟨by simp_all,M.bel⟩
theorem zkc{w:World}{ts:List Dt}(hD:∀t∈ts,t.rd w)(hT:Tabs8 w):Asks Tryz.prog 202 [] w ts (fun t=>!qs qh t.tr):=⟨fun us w=>by kernel_rfl,fun t w1 ht hb=>zqa (Dt.keep hb _ (hD t ht)) (hT.below hb)⟩
theorem jgg(ts:List Dt):(!ts.any fun t=>!qs qh t.tr)=ts.all fun t=>qs qh t.tr:=by
 induction ts with
 | nil => rfl
 | cons t ts ih => rw [List.any_cons, List.all_cons, Bool.not_or, Bool.not_not, ih]
theorem zkd{w:World}{so:Option Addr}{ca:Nat}{ts:List Dt}(hR:Rt w so ts)(hD:∀t∈ts,t.rd w)(hl:ts.length≤1000000000)(hT:Tabs8 w):Calls Tryz.prog 147 #[.slice so ts.length ca] w (RB w (bV (ts.all fun t=>qs qh t.tr))):=by
 have M:=Mg.start w;refine wof Tryz.func147 Tryz.ntmps147 fun Q hret hnorm hP a A=>?_;refine wsr fun _ aa=>sda A λA=>?_;refine qwr aa fun _ ab=>sdm A λA=>?_;refine gcl A M ec (qpb (cs:=[]) (hR.below M.bel) (fun t ht=>Dt.keep M.bel _ (hD t ht)) hl (zkc (fun t ht=>Dt.keep M.bel _ (hD t ht)) (hT.below M.bel))) fun _ _ M a A=>?_;refine sdo (v:=bV (!(ts.any fun t=>!qs qh t.tr))) A (ya rfl qaf) λA=>?_;refine sda A λA=>?_;refine qr1 ab hret A ?_;exact⟨by rw[←jgg],M.bel⟩
theorem zxa{w:World}{so:Option Addr}{ca:Nat}{l:List Int}(hI:Rc w so (inC l))(hl:l.length≤2000000){x:Int}:Calls Tryz.prog 192 #[.slice so l.length ca,iV x] w (RB w (iV (ixG (fun z=>x==z) l))):=by
 have M:=Mg.start w;refine wof Tryz.func192 Tryz.ntmps192 fun Q hret hnorm hP a A=>?_;refine wsr fun _ aq=>sda A λA=>?_;refine qwk aq fun _ ar=>wsr fun _ au=>sdm A λA=>?_;refine sdo A (qr ln rfl) λA=>?_;refine sdm A λA=>?_;refine qa (au _ _ (wp_block (zg (fun m_ a w1=>∃(i:Nat),m_=1+(l.length-i)∧(i≤l.length∧∀(j:Nat) u,j<i→l[j]?=some u→(fun z=>x==z) u=false)∧Sl a 19 [(0,.slice so l.length ca),(1,iV x),(6,.slice so l.length ca),(7,iV (((l.length:Nat):Int))),(8,iV (((i:Nat):Int)))]∧Mg w w1 ([])) _ ⟨0,rfl,⟨ii _,fun j u h=>absurd h (j4 _)⟩,A.keep _ ⟨rfl,rfl,rfl,rfl,rfl,trivial⟩,M⟩ ?_)));clear M A;rintro m_ a w4 ⟨i,rfl,ae,A,M⟩ _ av;obtain⟨_,ab⟩:=ae;refine wsr fun _ ap=>?_;rcases tf (decide (((i:Nat):Int)<((l.length:Nat):Int)))with ac|ac
 ·have ac':=f5 ac;refine sdc A qy ac λA=>?_;refine qa (ap _ _ (wsk fun _ aw=>wp_cond_true (A.ev rfl) ?_));refine wp_skip (aw _ _ (wsk fun _ ah=>wp_block (wsr fun _ ai=>sdm A λA=>?_)));refine sda A λA=>?_;refine qwr ai fun _ af=>?_;iterate 3 refine sdm A λA=>?_
  obtain⟨bi13,oi14,zi15,hs16,aj,ag,hm19⟩:=xdi (hI.below M.bel) (i:=i) (by omega);refine sdo (v:=pA bi13 (oi14+i)) A (ja (k:=i) ln (by kernel_rfl) rfl rfl (by first|rfl|omega) hs16 (by omega)) λA=>?_;refine sdo A (qvf aj o93 rfl) λA=>?_;rcases tf ((x==zi15))with aa|aa
  ·have aa':=gr aa;refine sdc A qe aa λA=>?_;refine qct af A ?_;refine wsr fun _ ak=>sdm A λA=>?_;refine sda A λA=>?_;refine qr1 ak hret A ?_;exact⟨by rw[zje (p:=fun z=>x==z) ab ag aa],M.bel⟩
  ·have aa':=f6 aa;refine sdc A qe aa λA=>?_;refine qcf af A ?_;refine wp_skip (ah _ _ (wrl (sdo (v:=iV (((i+1:Nat):Int))) A (qb rfl rfl (fun w=>(zq (jk (by omega) (by omega)) w).trans (by rw[show(((i:Nat):Int)+1:Int)=((i+1:Nat):Int)from by omega]))) λA=>?_)));refine sdm A λA=>?_;refine qa ?_;replace M:Mg w w4 ([]):=by
    have h9:=M.sub (.refl _);exact h9
   refine av _ _ _ (by omega) ⟨i+1,rfl,⟨by omega,fun j u hj hu=>if h9:j<i then ab j u h9 hu else by have h8:j=i:=(by omega); subst h8; rw[ag]at hu; rw[←io hu]; exact aa⟩,A.keep _ ⟨rfl,rfl,rfl,rfl,rfl,trivial⟩,M⟩
 ·have ac':=fy ac;refine sdc A qy ac λA=>?_;refine qa (ap _ _ (wsk fun _ _=>wp_cond_false (A.ev rfl) ?_));refine wp_exit (ar _ _ (wsr fun _ am=>sda A λA=>?_));refine qr1 am hret A ?_;exact⟨by rw[qye (p:=fun z=>x==z) (fun j u hj=>ab j u (by omega))],M.bel⟩
theorem zdb{w:World}{so:Option Addr}{ca:Nat}{l:List Int}(hI:Rc w so (inC l))(hl:l.length≤2000000){x:Int}:Calls Tryz.prog 145 #[.slice so l.length ca,iV x] w (RB w (bV (l.any fun z=>x==z))):=by
 have M:=Mg.start w;refine wof Tryz.func145 Tryz.ntmps145 fun Q hret hnorm hP a A=>?_;refine wsr fun _ aa=>sda A λA=>?_;refine qwr aa fun _ ab=>?_;iterate 2 refine sdm A λA=>?_
 refine gcl A M ec (zxa (hI.below M.bel) hl) fun _ _ M a A=>?_;refine sdo (v:=bV (decide (0≤ixG (fun z=>x==z) l))) A (qb rfl rfl zt) λA=>?_;refine sda A λA=>?_;refine qr1 ab hret A ?_;exact⟨by rw[←jxg],M.bel⟩
theorem qzb{w:World}{t:Int}:Calls Tryz.prog 70 #[iV t] w (RB w (.tuple #[.agg (kat t).c.toArray,iV (if okT 20 t=true then(0:Int)else 7)])):=by
 have M:=Mg.start w;refine wof Tryz.func70 Tryz.ntmps70 fun Q hret hnorm hP a A=>?_;refine wsr fun _ ah=>zj (vs:=xx.c) (t:=120) A M rfl rfl rfl pg (qm (z:=.agg xx.c.toArray) (by kernel_rfl) rfl) (by decide) ?_;intro g2 _ M a A;refine sda A λA=>?_;refine qa (ah _ _ (wsr fun K4 ai=>sdo (v:=.agg #[.string (⟨#[99,111,110,100,105,116,105,111,110]⟩),iV (-1),iV 0]) A (qn rfl (fun w=>by kernel_rfl)) λA=>?_));refine sdo (v:=.agg #[.string (⟨#[109,101,115,115,97,103,101]⟩),iV 0,iV 1]) A (qn rfl (fun w=>by kernel_rfl)) λA=>?_;refine sdo (v:=.agg #[.string (⟨#[119,97,114,110,105,110,103]⟩),iV 0,iV 0]) A (qn rfl (fun w=>by kernel_rfl)) λA=>?_;refine sdo (v:=.agg #[.string (⟨#[115,101,114,105,111,117,115]⟩),iV 0,iV 0]) A (qn rfl (fun w=>by kernel_rfl)) λA=>?_;refine sdo (v:=.agg #[.string (⟨#[101,114,114,111,114]⟩),iV 3,iV 0]) A (qn rfl (fun w=>by kernel_rfl)) λA=>?_;refine sdo (v:=.agg #[.string (⟨#[118,105,111,108,97,116,105,111,110]⟩),iV 3,iV 0]) A (qn rfl (fun w=>by kernel_rfl)) λA=>?_;refine sdo (v:=.agg #[.string (⟨#[97,115,115,101,114,116,105,111,110]⟩),iV 5,iV 0]) A (qn rfl (fun w=>by kernel_rfl)) λA=>?_;refine sdo (v:=.agg #[.string (⟨#[105,114,114,105,116,97,110,116,115]⟩),iV 0,iV 1]) A (qn rfl (fun w=>by kernel_rfl)) λA=>?_;refine sdo (v:=.agg #[.string (⟨#[119,104,111]⟩),iV 0,iV 1]) A (qn rfl (fun w=>by kernel_rfl)) λA=>?_;refine sdo (v:=.agg #[.string (⟨#[110,111,110,45,99,111,110,116,105,110,117,97,98,108,101]⟩),iV 5,iV 0]) A (qn rfl (fun w=>by kernel_rfl)) λA=>?_;refine sdo (v:=.agg #[.string (⟨#[105,109,112,108,101,109,101,110,116,97,116,105,111,110,45,114,101,115,116,114,105,99,116,105,111,110]⟩),iV 5,iV 0]) A (qn rfl (fun w=>by kernel_rfl)) λA=>?_;refine sdo (v:=.agg #[.string (⟨#[108,101,120,105,99,97,108]⟩),iV 5,iV 0]) A (qn rfl (fun w=>by kernel_rfl)) λA=>?_
 refine sdo (v:=.agg #[.string (⟨#[115,121,110,116,97,120]⟩),iV 5,iV 2]) A (qn rfl (fun w=>by kernel_rfl)) λA=>?_;refine sdo (v:=.agg #[.string (⟨#[117,110,100,101,102,105,110,101,100]⟩),iV 5,iV 0]) A (qn rfl (fun w=>by kernel_rfl)) λA=>?_;refine sdo (v:=.agg #[.string (⟨#[105,47,111]⟩),iV 4,iV 0]) A (qn rfl (fun w=>by kernel_rfl)) λA=>?_;refine sdo (v:=.agg #[.string (⟨#[105,47,111,45,114,101,97,100]⟩),iV 14,iV 0]) A (qn rfl (fun w=>by kernel_rfl)) λA=>?_;refine sdo (v:=.agg #[.string (⟨#[105,47,111,45,119,114,105,116,101]⟩),iV 14,iV 0]) A (qn rfl (fun w=>by kernel_rfl)) λA=>?_;refine sdo (v:=.agg #[.string (⟨#[105,47,111,45,102,105,108,101,110,97,109,101]⟩),iV 14,iV 1]) A (qn rfl (fun w=>by kernel_rfl)) λA=>?_;refine sdo (v:=.agg #[.string (⟨#[105,47,111,45,102,105,108,101,45,100,111,101,115,45,110,111,116,45,101,120,105,115,116]⟩),iV 17,iV 0]) A (qn rfl (fun w=>by kernel_rfl)) λA=>?_;refine sdo (v:=.agg #[.string (⟨#[105,47,111,45,102,105,108,101,45,97,108,114,101,97,100,121,45,101,120,105,115,116,115]⟩),iV 17,iV 0]) A (qn rfl (fun w=>by kernel_rfl)) λA=>?_;refine sdo (v:=.agg (jb Kd.c kds).toArray) A (qn rfl (fun w=>by kernel_rfl)) λA=>?_;refine zj (vs:=(jb Kd.c (List.replicate 20 xx))) (t:=149) A M rfl rfl rfl pg (qm (z:=.agg (jb Kd.c (List.replicate 20 xx)).toArray) (by kernel_rfl) rfl) (by decide) ?_;intro g5 _ M a A;refine qt A M rfl rfl (qj rfl rfl rfl (by kernel_rfl) M 0 rfl rfl rfl) 0 rfl rfl rfl ?_;intro _ M;refine qwk ai fun _ aj=>wsr fun _ ac=>sdm A λA=>?_;rcases tf (decide (t<0))with aa|aa
 ·have aa':=f5 aa;refine sdc A qy aa λA=>?_;refine sdm A λA=>?_;iterate 2 refine sks A λA=>?_
  refine sdk (v:=bV true) A λA=>?_;refine qct ac A ?_;refine wsr fun _ ae=>sdo (v:=.agg xx.c.toArray) A (qn rfl (fun w=>by kernel_rfl)) λA=>?_;refine qt A M rfl rfl (qj rfl rfl rfl (by kernel_rfl) M 1 rfl rfl rfl) 1 rfl rfl rfl ?_;intro _ M;refine sda A λA=>?_;refine qa (ae _ _ (wp_ret (hret _ _ (en2 A rfl (zw M jdf rfl 1 rfl (cs:=[.string (⟨#[]⟩),iV 0,iV 0]) rfl rfl) (qf rfl) ?_))));have hno:okT 20 t=false:=(by first|exact zjf (by omega)|exact zjg (by omega));exact⟨by rw[qyg hno,f7 (by rw[hno]; decide)]<;>rfl,M.bel⟩
 ·have aa':=fy aa;refine sdc A qy aa λA=>?_;iterate 2 refine sdm A λA=>?_
  rcases tf (decide (20≤t))with ab|ab
  ·have ab':=f5 ab;refine sdc A zt ab λA=>?_;refine sdk (v:=bV true) A λA=>?_;refine qct ac A ?_;refine wsr fun _ af=>sdo (v:=.agg xx.c.toArray) A (qn rfl (fun w=>by kernel_rfl)) λA=>?_;refine qt A M rfl rfl (qj rfl rfl rfl (by kernel_rfl) M 1 rfl rfl rfl) 1 rfl rfl rfl ?_;intro _ M;refine sda A λA=>?_;refine qa (af _ _ (wp_ret (hret _ _ (en2 A rfl (zw M jdf rfl 1 rfl (cs:=[.string (⟨#[]⟩),iV 0,iV 0]) rfl rfl) (qf rfl) ?_))));have hno:okT 20 t=false:=(by first|exact zjf (by omega)|exact zjg (by omega));exact⟨by rw[qyg hno,f7 (by rw[hno]; decide)]<;>rfl,M.bel⟩
  ·have ab':=fy ab;refine sdc A zt ab λA=>?_;refine sdk (v:=bV false) A λA=>?_;refine qcf ac A ?_;refine wp_skip (aj _ _ (wsk fun _ ag=>?_));have hok:okT 20 t=true:=qah (by omega) (by omega);refine wrl (sdm A λA=>?_);refine sdo (v:=pA g5 (t.toNat*3)) A (jnb (k:=t.toNat) Tryz.underlying149 (by kernel_rfl) rfl rfl (by omega) (by omega)) λA=>?_;refine sdo A (qz (cs:=(kat t).c) M jdf rfl 0 rfl (zjd xga (jmh hok)) rfl) λA=>?_;refine qt A M rfl rfl (qj rfl rfl rfl (by kernel_rfl) M 1 rfl rfl rfl) 1 rfl rfl rfl ?_;intro _ M;refine sda A λA=>?_;refine qa (ag _ _ (wp_ret (hret _ _ (en2 A rfl (zw M jdf rfl 1 rfl (cs:=[.string ((kat t).nm),iV ((kat t).par),iV ((kat t).own)]) rfl rfl) (qf rfl) ?_))));exact⟨by rw[gj hok]<;>rfl,M.bel⟩
theorem qih{w:World}{t:Int}(h:okT 20 t=true):Calls Tryz.prog 70 #[iV t] w (RB w (.tuple #[.agg (kat t).c.toArray,iV 0])):=by
 have:=qzb (w:=w) (t:=t)
 rwa [gj h]at this
theorem jng{w:World}{t:Int}(h:okT 20 t=false):Calls Tryz.prog 70 #[iV t] w (RB w (.tuple #[.agg (kat t).c.toArray,iV 7])):=by
 have:=qzb (w:=w) (t:=t)
 rwa [f7 (by rw[h]; decide)]at this
theorem qzc{w:World}{t:Int}:Calls Tryz.prog 99 #[iV t] w (RB w (bV (okT 20 t))):=by
 have M:=Mg.start w;refine wof Tryz.func99 Tryz.ntmps99 fun Q hret hnorm hP a A=>?_;refine wsr fun _ ae=>sda A λA=>?_;refine qwr ae fun _ ac=>sdm A λA=>?_;rcases tf (okT 20 t)with aa|aa
 ·refine gcl A M ec (qih aa) fun _ _ M a A=>?_;refine sdm A λA=>?_;iterate 2 refine sde A λA=>?_
  refine zj (vs:=xx.c) (t:=120) A M rfl rfl rfl pg (qm (z:=.agg xx.c.toArray) (by kernel_rfl) rfl) (by decide) ?_;intro g6 _ M a A;refine qt A M rfl rfl (qj rfl rfl rfl (by kernel_rfl) M 0 rfl rfl rfl) 0 rfl rfl rfl ?_;intro _ M;refine sda A λA=>?_;refine qwr ac fun _ af=>sdm A λA=>?_;refine sdo (v:=bV true) A dbK λA=>?_;refine sda A λA=>?_;refine qr1 af hret A ?_;exact⟨by rw[aa]<;>rfl,M.bel⟩
 ·refine gcl A M ec (jng aa) fun _ _ M a A=>?_;refine sdm A λA=>?_;iterate 2 refine sde A λA=>?_
  refine zj (vs:=xx.c) (t:=120) A M rfl rfl rfl pg (qm (z:=.agg xx.c.toArray) (by kernel_rfl) rfl) (by decide) ?_;intro g12 _ M a A;refine qt A M rfl rfl (qj rfl rfl rfl (by kernel_rfl) M 0 rfl rfl rfl) 0 rfl rfl rfl ?_;intro _ M;refine sda A λA=>?_;refine qwr ac fun _ ab=>sdm A λA=>?_;refine sdo (v:=bV false) A dbK λA=>?_;refine sda A λA=>?_;refine qr1 ab hret A ?_;exact⟨by rw[aa]<;>rfl,M.bel⟩
theorem zfe{w:World}{t:Int}(ht:okT 20 t=true):Calls Tryz.prog 144 #[iV t] w fun e w'=>∃so' ca',e=.returned (.slice so' (chC t).length ca')∧Mg w w' [.row 3 1 (.slice so' (chC t).length ca') (chC t).length (inC (chC t))]:=by
 have ht9:=qba ht;have M:=Mg.start w;refine wof Tryz.func144 Tryz.ntmps144 fun Q hret hnorm hP a A=>?_;refine wsr fun _ aq=>sda A λA=>?_;refine qwr aq fun _ ar=>sda A λA=>?_;refine qwk ar fun _ au=>wp_block ?_;replace M:=M.nilRow (za zd) 3 1;refine zg (fun m_ a w1=>∃(out:List Int) (x:Int) (ag:Option Addr) (ah:Nat),m_=(x+1).toNat∧(-1≤x∧x≤t∧out++chC x=chC t)∧Sl a 20 [(0,iV x),(2,.slice none 0 0),(3,.slice ag out.length ah)]∧Mg w w1 (.row 3 1 (.slice ag out.length ah) out.length (inC out)::[])) _ ⟨[],t,none,0,rfl,⟨by omega,by omega,rfl⟩,A.keep _ ⟨rfl,rfl,rfl,trivial⟩,M⟩ ?_;clear M A;rintro m_ a w4 ⟨out,x,ag,ah,rfl,ac,A,M⟩ _ av;obtain⟨_,am,aa⟩:=ac;refine wsk fun _ aw=>wsr fun _ ap=>sdm A λA=>?_;rcases tf ((x != -1))with ab|ab
 ·have ab':=iy.1 ab;refine sdc A zh ab λA=>?_;refine qct ap A ?_;refine wp_skip (aw _ _ (wp_block (wsk fun _ ai=>?_)));have hx:okT 20 x=true:=qah (by omega) (by omega);have hstep:=qyh hx;have hpr:=qdi hx;have hol:=zji ht;rw[←aa,fv]at hol;refine wrl ?_;iterate 2 refine sdm A λA=>?_
  refine jr (e:=3) (sz:=1) (m:=1) (vs:=inC [x]) A M rfl rfl rfl (qg rfl (by kernel_rfl)) rfl rfl (.inl (by decide)) ?_;intro g11 _ M a A;refine xd (e:=3) (sz:=1) (k:=1) (q:=out.length) (m:=1) (xs:=inC out) (news:=inC [x]) A rfl rfl rfl (yf (z:=iV 0) (sz:=1) (by_:=8) ln (by kernel_rfl) rfl rfl rfl M 1 rfl rfl rfl rfl (vm (M.has 0 rfl)) (jxf [x]) (by first|omega|(simp only[fx]; omega))) (fun _=>rfl) ?_;intro ax ay M a A;replace M:Mg w ay (.row 3 1 (.slice (aO g11) 1 1) 1 (inC [x])::.row 3 1 (ax) ((out++[x]).length) (inC (out++[x]))::[]):=by
   rw[zvj,fv]; exact M
  obtain⟨ae,af,rfl⟩:=xu (M.has 1 rfl);refine sda A λA=>?_;refine qwr ai fun _ aj=>sdm A λA=>?_;refine gcl A M ec (qih hx) fun _ hbk M a A=>?_;refine sdm A λA=>?_;iterate 2 refine sde A λA=>?_
  refine zj (vs:=xx.c) (t:=120) A M rfl rfl rfl pg (qm (z:=.agg xx.c.toArray) (by kernel_rfl) rfl) (by decide) ?_;intro g19 _ M a A;refine qt A M rfl rfl (qj rfl rfl rfl (by kernel_rfl) M 0 rfl rfl rfl) 0 rfl rfl rfl ?_;intro az M;refine sda A λA=>?_;refine qa (aj _ _ (wrl (sdf A 1 jyf λA=>?_)));refine sdl A M o93 0 λA=>?_;refine sda A λA=>?_;refine qa ?_;replace M:Mg w az (.row 3 1 (.slice ae ((out++[x]).length) af) ((out++[x]).length) (inC (out++[x]))::[]):=by
   have h9:=M.sub (cN (cN (cC (.refl _))));exact h9
  refine av _ _ _ (by omega) ⟨(out++[x]),(kat x).par,ae,af,rfl,⟨by omega,by omega,by rw[f4,←aa,hstep]; rfl⟩,A.keep _ ⟨rfl,rfl,rfl,trivial⟩,M⟩
 ·have ab':=ie.1 ab;refine sdc A zh ab λA=>?_;refine qcf ap A ?_;refine wp_exit (au _ _ (wsr fun _ ak=>sdm A λA=>?_));refine sda A λA=>?_;refine qr1 ak hret A ?_;replace M:Mg w w4 (.row 3 1 (.slice ag out.length ah) out.length (inC out)::[]):=by
   have h9:=M.sub (cC (.refl _));exact h9
  have am:x=-1:=ab';subst am;rw[zjh,gh]at aa;subst aa;exact⟨_,_,rfl,M⟩
theorem zqb{w:World}{t o:Int}(ht:okT 20 t=true):Calls Tryz.prog 104 #[iV t,iV o] w (RB w (bV (yn t o))):=by
 have M:=Mg.start w;refine wof Tryz.func104 Tryz.ntmps104 fun Q hret hnorm hP a A=>?_;refine wsr fun _ aa=>sda A λA=>?_;refine qwr aa fun _ ab=>sdm A λA=>?_;refine sct A ec (zfe ht) ?_;rintro _ _ ⟨_,_,rfl,ac⟩;replace M:=(M.both ac (za zd) (qi (by simp) (za zd)));refine⟨_,rfl,?_⟩;intro a A;refine sdm A λA=>?_;refine gcl A M ec (zdb (l:=(chC t)) (vm (M.has 0 rfl)) (by have h9:=zji ht; omega)) fun _ _ M a A=>?_;refine sda A λA=>?_;refine qr1 ab hret A ?_;exact⟨rfl,M.bel⟩
theorem qzd{w:World}{t:Int}(ht:okT 20 t=true):Calls Tryz.prog 100 #[iV t] w (RB w (iV (un t))):=by
 have hcl:=zji ht;have M:=Mg.start w;refine wof Tryz.func100 Tryz.ntmps100 fun Q hret hnorm hP a A=>?_;refine wsr fun _ ar=>sda A λA=>?_;refine qwr ar fun _ au=>sda A λA=>?_;refine qwk au fun _ av=>wsr fun K4 aw=>sdm A λA=>?_;refine sct A ec (zfe ht) ?_;rintro _ _ ⟨ae,af,rfl,ax⟩;replace M:=(M.both ax (za zd) (qi (by simp) (za zd)));refine⟨_,rfl,?_⟩;intro a A;refine sdo A (qr ln rfl) λA=>?_;refine sdm A λA=>?_;refine qa (aw _ _ (wp_block (zg (fun m_ a w1=>∃(i:Nat),m_=1+((chC t).length-i)∧(i≤(chC t).length)∧Sl a 26 [(0,iV t),(2,iV 0),(3,iV ((((chC t).take i).map fun x=>(kat x).own).sum)),(8,iV t),(9,.slice ae ((chC t).length) af),(10,iV ((((chC t).length:Nat):Int))),(11,iV (((i:Nat):Int)))]∧Mg w w1 (.row 3 1 (.slice ae ((chC t).length) af) ((chC t).length) (inC (chC t))::[])) _ ⟨0,rfl,ii _,A.keep _ (by repeat' constructor),M⟩ ?_)));clear M A;rintro m_ a _ ⟨i,rfl,ab,A,M⟩ _ ag;have _:=ab;refine wsr fun _ ac=>?_;rcases tf (decide (((i:Nat):Int)<(((chC t).length:Nat):Int)))with aa|aa
 ·have aa':=f5 aa;refine sdc A qy aa λA=>?_;refine qa (ac _ _ (wsk fun _ ah=>wp_cond_true (A.ev rfl) ?_));refine wp_skip (ah _ _ (wsk fun _ ai=>wp_block (wsr fun _ aj=>?_)));obtain⟨bi17,oi18,zi19,hs20,ak,am,hm23⟩:=xdi (vm (M.has 0 rfl)) (i:=i) (by omega);refine sdo (v:=pA bi17 (oi18+i)) A (ja (k:=i) ln (by kernel_rfl) rfl rfl (by first|rfl|omega) hs20 (by omega)) λA=>?_;refine sdo A (qvf ak o93 rfl) λA=>?_;refine sda A λA=>?_;refine qwr aj fun _ ap=>sdm A λA=>?_;refine gcl A M ec (qih (jxj ht hm23)) fun _ hbk M a A=>?_;refine sdm A λA=>?_;iterate 2 refine sde A λA=>?_
  refine zj (vs:=xx.c) (t:=120) A M rfl rfl rfl pg (qm (z:=.agg xx.c.toArray) (by kernel_rfl) rfl) (by decide) ?_;intro g26 _ M a A;refine qt A M rfl rfl (qj rfl rfl rfl (by kernel_rfl) M 0 rfl rfl rfl) 0 rfl rfl rfl ?_;intro ay M;refine sda A λA=>?_;refine qa (ap _ _ (wrl (sdm A λA=>?_)));refine sdf A 2 jyg λA=>?_;refine sdl A M o93 0 λA=>?_;have hsn:=jmj (fun x=>(kat x).own) am;have hsr:=jyd (l:=(chC t).take i);have hown:=jdd zi19;have _:((chC t).take i).length≤20:=by rw[li]; omega
  refine sdo (v:=iV ((((chC t).take (i+1)).map fun x=>(kat x).own).sum)) A (qb rfl rfl (ar_add ((in_i64 (by omega) (by omega)).trans (by omega)))) λA=>?_;refine sda A λA=>?_;refine qa (ai _ _ (wrl (sdo (v:=iV (((i+1:Nat):Int))) A (qb rfl rfl (fun w=>(zq (jk (by omega) (by omega)) w).trans (by rw[show(((i:Nat):Int)+1:Int)=((i+1:Nat):Int)from by omega]))) λA=>?_)));refine sdm A λA=>?_;refine qa ?_;replace M:Mg w ay (.row 3 1 (.slice ae ((chC t).length) af) ((chC t).length) (inC (chC t))::[]):=by
   have h9:=M.sub (cN (cC (.refl _)));exact h9
  refine ag _ _ _ (by omega) ⟨i+1,rfl,by omega,A.keep _ (by repeat' constructor),M⟩
 ·have aa':=fy aa;refine sdc A qy aa λA=>?_;refine qa (ac _ _ (wsk fun _ _=>wp_cond_false (A.ev rfl) ?_));refine wp_exit (av _ _ (wsr fun _ aq=>sdm A λA=>?_));refine sda A λA=>?_;refine qr1 aq hret A ?_;exact⟨by unfold un; rw[ld (by omega)],M.bel⟩
theorem vh{w:World}{t:Dt}(ht:t.rd w)(hT:Tabs8 w):Calls Tryz.prog 26 #[.agg (t.d.cells t.ts.length).toArray] w (RB w (bV (!qs qh t.tr))):=by
 have M:=Mg.start w;refine wof Tryz.func26 Tryz.ntmps26 fun Q hret hnorm hP a A=>?_;refine wsr fun _ ac=>zj (vs:=(t.d.cells t.ts.length)) (t:=30) A M rfl rfl rfl pg (qx rfl rfl) (by decide) ?_;intro g2 _ M a A;refine sda A λA=>?_;refine qa (ac _ _ (wsr fun K4 ab=>sdo A (qz M zv rfl 0 rfl (cs:=(t.d.cells t.ts.length)) rfl rfl) λA=>?_));rcases tf (qs qh t.tr)with aa|aa
 ·refine gcl A M ec ((aa▸sound_any (t:=t) (Dt.keep M.bel _ ht) (hT.below M.bel))) fun _ _ M a A=>?_;refine sdu A λA=>?_;refine sda A λA=>?_;refine qr1 ab hret A ?_;exact⟨by simp_all,M.bel⟩
 ·refine gcl A M ec ((aa▸sound_any (t:=t) (Dt.keep M.bel _ ht) (hT.below M.bel))) fun _ _ M a A=>?_;refine sdu A λA=>?_;refine sda A λA=>?_;refine qr1 ab hret A ?_;exact⟨by simp_all,M.bel⟩
theorem jza{w:World}{ts:List Dt}(hD:∀t∈ts,t.rd w)(hT:Tabs8 w):Asks Tryz.prog 26 [] w ts (fun t=>!qs qh t.tr):=⟨fun us w=>by kernel_rfl,fun t w1 ht hb=>vh (Dt.keep hb _ (hD t ht)) (hT.below hb)⟩
theorem jzb(vs:List Dt):(vs.any fun t=>!qs qh t.tr)=!(vs.map Dt.tr).all (qs qh):=by
 induction vs with
 | nil => rfl
 | cons t ts ih => rw [List.any_cons, i6, List.all_cons, ih, Bool.not_and]
theorem qte{w:World}{so:Option Addr}{ca:Nat}{vs:List Dt}(hR:Rt w so vs)(hD:∀t∈vs,t.rd w)(hl:vs.length≤1000000000)(hT:Tabs8 w){b:Bool}(h:(vs.map Dt.tr).all (qs qh)=b):Calls Tryz.prog 78 #[.slice so vs.length ca,.func (.func 26) #[] #[]] w (RB w (bV (!b))):=by
 have:=qpb (ca:=ca) (cs:=[]) hR hD hl (jza hD hT);rw[jzb,h]at this;exact this
theorem zdc{w:World}{p:Sp}(hp:SpR w p)(hT:Tabs8 w)(hl:p.vs.length≤1000000000):Calls Tryz.prog 67 #[.agg p.c.toArray] w (RB w (iV (ckP p.k))):=by
 have M:=Mg.start w;refine wof Tryz.func67 Tryz.ntmps67 fun Q hret hnorm hP a A=>?_;refine wsr fun _ ap=>zj (vs:=p.c) (t:=65) A M rfl rfl rfl pg (qx rfl rfl) (by decide) ?_;intro g2 _ M a A;refine sda A λA=>?_;refine qa (ap _ _ (wsk fun K4 aq=>wp_block (wsr fun _ ak=>sdf A 0 qch λA=>?_)));refine sdl A M o93 0 λA=>?_;rcases tf (okT 20 p.ty)with ac|ac
 ·refine gcl A M ec ((ac▸qzc)) fun _ _ M a A=>?_;refine sdu A λA=>?_;refine sda A λA=>?_;refine qcf ak A ?_;refine wsk fun _ am=>xg (S:=fun w1=>Mg w w1 (.obj g2 (.cells p.c.toArray 65)::[])) (by kernel_rfl) ?_;replace M:=M.drew;refine atk (v:=pA g2 1) A 0 rfl hP (M.sub (cC ns)) (λ_ M=>qp qci rfl rfl) λA=>?_;refine atk A 1 rfl hP (M.sub (cC ns)) (λ_ M=>xy M ke rfl 0 rfl rfl) λA=>?_;refine atk (v:=iV (((p.vs.length:Nat):Int))) A 2 rfl hP (M.sub (cC ns)) (λ_ M=>qr f9 rfl) λA=>?_;refine atk (v:=pA g2 0) A 3 rfl hP (M.sub (cC ns)) (λ_ M=>qp qch rfl rfl) λA=>?_;refine atk A 4 rfl hP (M.sub (cC ns)) (λ_ M=>xy M o93 rfl 0 rfl rfl) λA=>?_;refine zn (by kernel_rfl) (jc A 5 rfl rfl rfl rfl ec (qzd ac) ?_);rintro _ _ ⟨rfl,af⟩;replace M:=M.call af;refine⟨_,rfl,(M.sub (cC ns)),?_⟩;intro a A;rcases tf ((((p.vs.length:Nat):Int) != un p.ty))with aa|aa
  ·have aa':=iy.1 aa;refine atk (v:=bV true) A 6 rfl hP (M.sub (cC ns)) (λ_ M=>qb rfl rfl (fun w=>(zh w).trans (by rw[aa]))) λA=>?_;refine atk A 7 rfl hP (M.sub (cC ns)) (λ_ M=>ji rfl) λA=>?_;refine jl (by kernel_rfl) ?_;refine am _ _ (ct A ?_);refine wsr fun _ ag=>sda A λA=>?_;refine qr1 ag hret A ?_;exact⟨by rw[jde ac aa'],M.bel⟩
  ·have aa':=ie.1 aa;refine atk (v:=bV false) A 6 rfl hP (M.sub (cC ns)) (λ_ M=>qb rfl rfl (fun w=>(zh w).trans (by rw[aa]))) λA=>?_;refine atk A 7 rfl hP (M.sub (cC ns)) (λ_ M=>ji rfl) λA=>?_;refine jl (by kernel_rfl) ?_;refine am _ _ (cf A ?_);refine wsr fun _ ae=>sdf A 1 qci λA=>?_;refine sdl A M ke 0 λA=>?_;rcases tf ((p.vs.map Dt.tr).all (qs qh))with ab|ab
   ·refine gcl A M ec (qte (hp.v.below M.bel) (fun t ht=>Dt.keep M.bel _ (hp.d t ht)) hl (hT.below M.bel) ab) fun _ _ M a A=>?_;refine sda A λA=>?_;refine qcf ae A ?_;refine wp_skip (aq _ _ (wsr fun _ ah=>sda A λA=>?_));refine qr1 ah hret A ?_;exact⟨by rw[qvg ac aa' ab]<;>rfl,M.bel⟩
   ·refine gcl A M ec (qte (hp.v.below M.bel) (fun t ht=>Dt.keep M.bel _ (hp.d t ht)) hl (hT.below M.bel) ab) fun _ _ M a A=>?_;refine sda A λA=>?_;refine qct ae A ?_;refine wsr fun _ ai=>sda A λA=>?_;refine qr1 ai hret A ?_;exact⟨by rw[qvg ac aa' ab]<;>rfl,M.bel⟩
 ·refine gcl A M ec ((ac▸qzc)) fun _ _ M a A=>?_;refine sdu A λA=>?_;refine sda A λA=>?_;refine qct ak A ?_;refine wsr fun _ aj=>sda A λA=>?_;refine qr1 aj hret A ?_;exact⟨by rw[zpi ac],M.bel⟩
theorem zff{w:World}{so:Option Addr}{ca:Nat}{ps:List Sp}(hPs:PR w so ps)(hB:PB ps)(hl:ps.length≤1000000000)(hT:Tabs8 w):Calls Tryz.prog 32 #[.slice so ps.length ca] w (RB w (iV (ckC (ps.map Sp.k)))):=by
 have M:=Mg.start w;refine wof Tryz.func32 Tryz.ntmps32 fun Q hret hnorm hP a A=>?_;refine wsr fun _ au=>sda A λA=>?_;refine qwk au fun _ av=>wsr fun _ ar=>sdm A λA=>?_;refine sdo A (qr ic rfl) λA=>?_;rcases tf (decide (16<((ps.length:Nat):Int)))with ac|ac
 ·have ac':=f5 ac;refine sdc A jh ac λA=>?_;refine qct ar A ?_;refine wsr fun _ aw=>sda A λA=>?_;refine qr1 aw hret A ?_;exact⟨by rw[zfb (by rw[gy]; omega)],M.bel⟩
 ·have ac':=fy ac;refine sdc A jh ac λA=>?_;refine qcf ar A ?_;refine wp_skip (av _ _ (wsk fun _ ax=>wsr fun _ ay=>sdm A λA=>?_));refine sdo A (qr ic rfl) λA=>?_;refine sdm A λA=>?_;refine qa (ay _ _ (wp_block (zg (fun m_ a w1=>∃(i:Nat),m_=1+(ps.length-i)∧(i≤ps.length∧ckA ((ps.map Sp.k).drop i)=ckA (ps.map Sp.k))∧Sl a 21 [(0,.slice so ps.length ca),(6,.slice so ps.length ca),(7,iV (((ps.length:Nat):Int))),(8,bV false),(9,.slice so ps.length ca),(10,iV (((ps.length:Nat):Int))),(11,iV (((i:Nat):Int)))]∧Mg w w1 ([])) _ ⟨0,rfl,⟨ii _,rfl⟩,A.keep _ (by repeat' constructor),M⟩ ?_)));clear M A;rintro m_ a _ ⟨i,rfl,ae,A,M⟩ _ az;obtain⟨_,af⟩:=ae;refine wsr fun _ ag=>?_;rcases tf (decide (((i:Nat):Int)<((ps.length:Nat):Int)))with ab|ab
  ·have ab':=f5 ab;refine sdc A qy ab λA=>?_;refine qa (ag _ _ (wsk fun _ ai=>wp_cond_true (A.ev rfl) ?_));refine wp_skip (ai _ _ (wsk fun _ aj=>wp_block (wsr fun _ ak=>?_)));obtain⟨sp16,bs17,os18,is19,ms20,rs21,ls22,Hs23⟩:=hPs.at_ (i:=i) (by omega);refine sdo (v:=pA bs17 (os18+i*2)) A (qk (k:=i) ic (by kernel_rfl) rfl rfl (by first|rfl|omega) ls22 (by omega)) λA=>?_;refine sdo (v:=.agg sp16.c.toArray) A (zp M Hs23 zwh rfl rfl) λA=>?_;refine zj (vs:=ue.c) (t:=65) A M rfl rfl rfl pg (qm (z:=.agg ue.c.toArray) (by kernel_rfl) rfl) (by decide) ?_;intro g24 _ M a A;refine qt A M rfl rfl (qj rfl rfl rfl (by kernel_rfl) M 0 rfl rfl rfl) 0 rfl rfl rfl ?_;intro _ M;refine qa (ak _ _ (wsr fun _ am=>sdo A (qz M zwh rfl 0 rfl (cs:=sp16.c) rfl rfl) λA=>?_));refine gcl A M ec (zdc (rs21.below M.bel) (hT.below M.bel) (by have:=hB.len ms20; omega)) fun bd _ M a A=>?_;refine sda A λA=>?_;refine qwr am fun _ ah=>sdm A λA=>?_;rcases tf ((ckP sp16.k != 0))with aa|aa
   ·have aa':=iy.1 aa;refine sdc A zh aa λA=>?_;refine qct ah A ?_;refine wsr fun _ ap=>sdm A λA=>?_;refine sda A λA=>?_;refine qr1 ap hret A ?_;exact⟨by rw[qcb (by rw[gy]; omega),←af,qfb (yg is19),f7 aa'],M.bel⟩
   ·have aa':=ie.1 aa;refine sdc A zh aa λA=>?_;refine qcf ah A ?_;refine wp_skip (aj _ _ (wrl (sdo (v:=iV (((i+1:Nat):Int))) A (qb rfl rfl (fun w=>(zq (jk (by omega) (by omega)) w).trans (by rw[show(((i:Nat):Int)+1:Int)=((i+1:Nat):Int)from by omega]))) λA=>?_)));refine sdm A λA=>?_;refine qa ?_;replace M:Mg w bd ([]):=by
     have h9:=M.sub (cN (.refl _));exact h9
    refine az _ _ _ (by omega) ⟨i+1,rfl,⟨by omega,by rw[←af,qfb (i:=i) (yg is19),gj aa']⟩,A.keep _ (by repeat' constructor),M⟩
  ·have ab':=fy ab;refine sdc A qy ab λA=>?_;refine qa (ag _ _ (wsk fun _ _=>wp_cond_false (A.ev rfl) ?_));refine wp_exit (ax _ _ (wsr fun _ aq=>sda A λA=>?_));refine qr1 aq hret A ?_;exact⟨by rw[qcb (by rw[gy]; omega),←af,i7 (by rw[gy]; omega)]<;>rfl,M.bel⟩
theorem zxb{w:World}{so:Option Addr}{ca:Nat}{ps:List Sp}(hPs:PR w so ps)(hl:ps.length≤1000000000){f:FuncId}{cs:List Value}{q:Sp→Bool}(hF:AskG (fun p:Sp=>.agg p.c.toArray) Tryz.prog f cs w ps q):Calls Tryz.prog 102 #[.slice so ps.length ca,.func (.func f) #[] cs.toArray] w (RB w (iV (ixG q ps))):=by
 have M:=Mg.start w;refine wof Tryz.func102 Tryz.ntmps102 fun Q hret hnorm hP a A=>?_;refine wsr fun _ aq=>sda A λA=>?_;refine qwk aq fun _ ar=>wsr fun _ au=>sdm A λA=>?_;refine sdo A (qr ic rfl) λA=>?_;refine sdm A λA=>?_;refine qa (au _ _ (wp_block (zg (fun m_ a w1=>∃(i:Nat),m_=1+(ps.length-i)∧(i≤ps.length∧∀(j:Nat) u,j<i→ps[j]?=some u→q u=false)∧Sl a 19 [(0,.slice so ps.length ca),(1,.func (.func f) #[] cs.toArray),(6,.slice so ps.length ca),(7,iV (((ps.length:Nat):Int))),(8,iV (((i:Nat):Int)))]∧Mg w w1 ([])) _ ⟨0,rfl,⟨ii _,fun j u h=>absurd h (j4 _)⟩,A.keep _ ⟨rfl,rfl,rfl,rfl,rfl,trivial⟩,M⟩ ?_)));clear M A;rintro m_ a _ ⟨i,rfl,ae,A,M⟩ _ av;obtain⟨_,ab⟩:=ae;refine wsr fun _ ap=>?_;rcases tf (decide (((i:Nat):Int)<((ps.length:Nat):Int)))with ac|ac
 ·have ac':=f5 ac;refine sdc A qy ac λA=>?_;refine qa (ap _ _ (wsk fun _ aw=>wp_cond_true (A.ev rfl) ?_));refine wp_skip (aw _ _ (wsk fun _ ag=>wp_block (wsr fun _ ah=>sdm A λA=>?_)));refine sda A λA=>?_;refine qwr ah fun _ af=>?_;iterate 3 refine sdm A λA=>?_
  obtain⟨sp13,bs14,os15,is16,ms17,rs18,ls19,Hs20⟩:=hPs.at_ (i:=i) (by omega);refine sdo (v:=pA bs14 (os15+i*2)) A (qk (k:=i) ic (by kernel_rfl) rfl rfl (by first|rfl|omega) ls19 (by omega)) λA=>?_;refine sdo (v:=.agg sp13.c.toArray) A (zp M Hs20 zwh rfl rfl) λA=>?_;rcases tf (q sp13)with aa|aa
  ·refine yp A rfl rfl rfl (qji rfl rfl hF.inv) ((aa▸hF.run sp13 _ ms17 M.bel)) ?_;rintro _ _ ⟨rfl,ai⟩;replace M:=M.call ai;refine⟨_,rfl,?_⟩;intro a A;refine qct af A ?_;refine wsr fun _ aj=>sdm A λA=>?_;refine sda A λA=>?_;refine qr1 aj hret A ?_;exact⟨by rw[zje (p:=q) ab is16 aa],M.bel⟩
  ·refine yp A rfl rfl rfl (qji rfl rfl hF.inv) ((aa▸hF.run sp13 _ ms17 M.bel)) ?_;rintro _ ax ⟨rfl,ak⟩;replace M:=M.call ak;refine⟨_,rfl,?_⟩;intro a A;refine qcf af A ?_;refine wp_skip (ag _ _ (wrl (sdo (v:=iV (((i+1:Nat):Int))) A (qb rfl rfl (fun w=>(zq (jk (by omega) (by omega)) w).trans (by rw[show(((i:Nat):Int)+1:Int)=((i+1:Nat):Int)from by omega]))) λA=>?_)));refine sdm A λA=>?_;refine qa ?_;replace M:Mg w ax ([]):=by
    have h9:=M.sub (.refl _);exact h9
   refine av _ _ _ (by omega) ⟨i+1,rfl,⟨by omega,fun j u hj hu=>if h9:j<i then ab j u h9 hu else by have h8:j=i:=(by omega); subst h8; rw[is16]at hu; rw[←io hu]; exact aa⟩,A.keep _ ⟨rfl,rfl,rfl,rfl,rfl,trivial⟩,M⟩
 ·have ac':=fy ac;refine sdc A qy ac λA=>?_;refine qa (ap _ _ (wsk fun _ _=>wp_cond_false (A.ev rfl) ?_));refine wp_exit (ar _ _ (wsr fun _ am=>sda A λA=>?_));refine qr1 am hret A ?_;exact⟨by rw[qye (p:=q) (fun j u hj=>ab j u (by omega))],M.bel⟩
theorem jzc{w:World}{p:Sp}{gt:Nat}{t:Int}(hg:w.cell? ⟨gt,0,none⟩=some (iV t))(ht:okT 20 p.ty=true):Calls Tryz.prog 103 #[.agg p.c.toArray,pA gt 0] w (RB w (bV (yn p.ty t))):=by
 have hg9:∀w1,Below w.heap.size w w1→w1.cell? ⟨gt,0,none⟩=some (iV t):=fun w1 hb=>(hb.cell (cell_lt hg)).trans hg;have M:=Mg.start w;refine wof Tryz.func103 Tryz.ntmps103 fun Q hret hnorm hP a A=>?_;refine wsr fun _ aa=>zj (vs:=p.c) (t:=65) A M rfl rfl rfl pg (qx rfl rfl) (by decide) ?_;intro g2 _ M a A;refine sda A λA=>?_;refine qa (aa _ _ (wsr fun K4 ab=>sdf A 0 qch λA=>?_));refine sdl A M o93 0 λA=>?_;refine sdo A (qvf (hg9 _ M.bel) o93 rfl) λA=>?_;refine gcl A M ec (zqb ht) fun _ hbu M a A=>?_;refine sda A λA=>?_;refine qr1 ab hret A ?_;exact⟨rfl,M.bel⟩
theorem jzd{w:World}{ps:List Sp}{gt:Nat}{t:Int}(hg:w.cell? ⟨gt,0,none⟩=some (iV t))(hO:∀p∈ps,okT 20 p.ty=true):AskG (fun p:Sp=>.agg p.c.toArray) Tryz.prog 103 [pA gt 0] w ps (fun p=>yn p.ty t):=⟨fun us w=>by kernel_rfl,fun p w1 hp hb=>jzc ((hb.cell (cell_lt hg)).trans hg) (hO p hp)⟩
theorem zqc{w:World}{so:Option Addr}{ca:Nat}{ps:List Sp}(hPs:PR w so ps)(hl:ps.length≤1000000000)(hO:∀p∈ps,okT 20 p.ty=true){t:Int}:Calls Tryz.prog 69 #[.slice so ps.length ca,iV t] w fun e w'=>((∃x9:Sp,0≤fdI (ps.map Sp.k) t∧ps[(fdI (ps.map Sp.k) t).toNat]?=some x9∧x9∈ps∧SpR w x9∧e=.returned (.tuple #[.agg x9.c.toArray,bV true]))∨(¬0≤fdI (ps.map Sp.k) t∧e=.returned (.tuple #[.agg ue.c.toArray,bV false])))∧Below w.heap.size w w':=by
 have M:=Mg.start w;refine wof Tryz.func69 Tryz.ntmps69 fun Q hret hnorm hP a A=>?_;refine wsr fun _ ag=>zj (vs:=[iV t]) (t:=3) A M rfl rfl rfl pg (qx rfl rfl) (by decide) ?_;intro g2 _ M a A;refine zj (vs:=ue.c) (t:=65) A M rfl rfl rfl pg (qm (z:=.agg ue.c.toArray) (by kernel_rfl) rfl) (by decide) ?_;intro g4 _ M a A;refine sda A λA=>?_;refine qwr ag fun _ ah=>sdm A λA=>?_;refine sdo (v:=.func (.func 103) #[] [pA g2 0].toArray) A (qld rfl) λA=>?_;refine gcl A M ec ((zwa ps t▸zxb (cs:=[pA g2 0]) (hPs.below M.bel) hl (jzd (M.cell 1 (vs:=[iV t]) rfl 0 rfl) hO))) fun _ _ M a A=>?_;refine sda A λA=>?_;refine qwk ah fun _ ai=>wsr fun _ ac=>sdm A λA=>?_;rcases tf (decide (fdI (ps.map Sp.k) t<0))with aa|aa
 ·have aa':=f5 aa;refine sdc A qy aa λA=>?_;refine qct ac A ?_;refine wsr fun _ ae=>sdo (v:=.agg ue.c.toArray) A (qn rfl (fun w=>by kernel_rfl)) λA=>?_;refine qt A M rfl rfl (qj rfl rfl rfl (by kernel_rfl) M 0 rfl rfl rfl) 0 rfl rfl rfl ?_;intro _ M;refine sda A λA=>?_;refine qa (ae _ _ (wp_ret (hret _ _ (en2 A rfl (zw M zwh rfl 0 rfl (cs:=[iV 0,.slice none 0 0]) rfl rfl) (qf rfl) ?_))));exact⟨.inr ⟨by omega,rfl⟩,M.bel⟩
 ·have aa':=fy aa;refine sdc A qy aa λA=>?_;refine qcf ac A ?_;refine wp_skip (ai _ _ (wsr fun _ af=>?_));iterate 2 refine sdm A λA=>?_
  have ab:=qyf (fun k:Int×List Tr=>yn k.1 t) (ps.map Sp.k);rw[gy]at ab;replace ab:-1≤fdI (ps.map Sp.k) t∧fdI (ps.map Sp.k) t<((ps.length:Nat):Int):=ab;obtain⟨x9,bx9,ox9,ix9,mx9,rx9,lx9,Hx9⟩:=hPs.at_ (i:=(fdI (ps.map Sp.k) t).toNat) (by omega);refine sdo (v:=pA bx9 (ox9+(fdI (ps.map Sp.k) t).toNat*2)) A (qk (k:=(fdI (ps.map Sp.k) t).toNat) ic (by kernel_rfl) rfl rfl (by first|rfl|omega) lx9 (by omega)) λA=>?_;refine sdo (v:=.agg x9.c.toArray) A (zp M Hx9 zwh rfl rfl) λA=>?_;refine qt A M rfl rfl (qj rfl rfl rfl (by kernel_rfl) M 0 rfl rfl rfl) 0 rfl rfl rfl ?_;intro _ M;refine sda A λA=>?_;refine qa (af _ _ (wp_ret (hret _ _ (en2 A rfl (zw M zwh rfl 0 rfl (cs:=[iV x9.ty,.slice x9.vo x9.vs.length x9.vc]) rfl rfl) (qf rfl) ?_))));exact⟨.inl ⟨x9,by omega,ix9,mx9,rx9,rfl⟩,M.bel⟩
theorem zfg{w:World}{so:Option Addr}{ca:Nat}{ps:List Sp}(hPs:PR w so ps)(hl:ps.length≤1000000000)(hO:∀p∈ps,okT 20 p.ty=true){t:Int}(h:decide (0≤fdI (ps.map Sp.k) t)=true):Calls Tryz.prog 69 #[.slice so ps.length ca,iV t] w fun e w'=>∃x9:Sp,e=.returned (.tuple #[.agg x9.c.toArray,bV true])∧(ps[(fdI (ps.map Sp.k) t).toNat]?=some x9∧x9∈ps∧SpR w x9)∧Below w.heap.size w w':=by
 refine(zqc hPs hl hO).mono ?_;rintro e w' ⟨⟨x9,h0,h1,h2,h3,h4⟩|⟨h0,h1⟩,hb⟩
 ·exact⟨x9,h4,⟨h1,h2,h3⟩,hb⟩
 ·exact absurd (f5 h) h0
theorem zqd{w:World}{so:Option Addr}{ca:Nat}{ps:List Sp}(hPs:PR w so ps)(hl:ps.length≤1000000000)(hO:∀p∈ps,okT 20 p.ty=true){t:Int}(h:decide (0≤fdI (ps.map Sp.k) t)=false):Calls Tryz.prog 69 #[.slice so ps.length ca,iV t] w (RB w (.tuple #[.agg ue.c.toArray,bV false])):=by
 refine(zqc hPs hl hO).mono ?_;rintro e w' ⟨⟨x9,h0,h1,h2,h3,h4⟩|⟨h0,h1⟩,hb⟩
 ·exact absurd h0 (fy h)
 ·exact⟨h1,hb⟩
section
variable {P:Program} {w0 w:World} {L:List Ck} {l:List (Nat×Value)} {dst:Option Tmp} {ty:TypeId} {pos:String} {after:Array Edge} {guard:Option (Nat×Bool)} {v:Value} {ops:List Oper} {Q:Exit→Act→World→Prop} {a:Act} {n:Nat} {o:Oper} {rest:List Oper}
end

mutual
def qda: Tr→Nat
  | .mk _ _ _ _ _ ts => 1 + kf ts
def kf: List Tr→Nat
  | [] => 0
  | t :: ts => qda t + kf ts
end
mutual
def qac(dp:Int):Tr→Bool
  | .mk k _ _ _ _ ts => decide (dp ≤ 200) && qii dp (decide (k = 8)) 0 ts
def qii(dp:Int)(pr:Bool)(i:Nat):List Tr→Bool
  | [] => true
  | t :: ts => qac (if pr = true ∧ i = 1 then dp else dp + 1) t && qii dp pr (i + 1) ts
end
def FitC(t:Tr):Prop:=∀dp left:Int,((jx dp left t).1=true↔qac dp t=true∧(qda t:Int)≤left)∧((jx dp left t).1=true→(jx dp left t).2=left-qda t)
theorem zfh{dp:Int}{pr:Bool}:∀{ts:List Tr},(∀t∈ts,FitC t)→∀(i:Nat) (m:Int),0≤m→((qag dp pr i m ts).1=true↔qii dp pr i ts=true∧(kf ts:Int)≤m)∧((qag dp pr i m ts).1=true→(qag dp pr i m ts).2=m-kf ts)
  | [], _, i, m, hm => by simp [qag, qii, kf, hm]
  | t :: ts, h, i, m, hm => by
    have h1:=h t iw (if pr=true∧i=1 then dp else dp+1) m;have hp:=qgg t (if pr=true∧i=1 then dp else dp+1) m;rw[qag,qii,kf];generalize (if pr=true∧i=1 then dp else dp+1)=D at h1 hp ⊢;by_cases hc:(jx D m t).1=true
    · rw[gj hc];have h2:=zfh (dp:=dp) (pr:=pr) (fun x hx=>h x (ix _ hx)) (i+1) _ (hp hc);have h3:=h1.1.1 hc;have h4:=h1.2 hc;rw[h4]at h2 ⊢;rw[ig,h3.1];refine⟨⟨fun k=>?_,fun k=>?_⟩,fun k=>?_⟩
      · have:=h2.1.1 k; exact⟨⟨rfl,this.1⟩,by have:=this.2; push_cast; omega⟩
      · exact h2.1.2 ⟨k.1.2,by have:=k.2; push_cast at this; omega⟩
      · rw[h2.2 k]; push_cast; omega
    · rw[f7 hc];refine⟨⟨(fun k=>by cases k),fun k=>absurd (h1.1.2 ⟨?_,?_⟩) hc⟩,(fun k=>by cases k)⟩
      · have:=k.1; rw[ig]at this; exact this.1
      · have:=k.2; push_cast at this; omega
theorem jnh: ∀t:Tr,FitC t:=by
  refine Tr.indT fun k n q s rl ts ih dp left=>?_;rw[jx,qac,qda];by_cases hc:left-1<0∨200<dp
  · rw[gj hc];refine⟨⟨(fun k=>by cases k),fun k=>?_⟩,(fun k=>by cases k)⟩;have h1:=k.1;have h2:=k.2;rw[ig,decide_eq_true_eq]at h1
    push_cast at h2
    omega
  · rw[f7 hc];have h2:=zfh (dp:=dp) (pr:=decide (k=8)) ih 0 (left-1) (by omega);rw[gv (show dp≤200 by omega),Bool.true_and];refine⟨⟨fun k=>?_,fun k=>?_⟩,fun k=>?_⟩
    · have:=h2.1.1 k; exact⟨this.1,by have:=this.2; push_cast; omega⟩
    · exact h2.1.2 ⟨k.1,by have:=k.2; push_cast at this; omega⟩
    · rw[h2.2 k]; push_cast; omega
theorem qze: ∀(xs:List Tr) (z:Tr),qda (zy xs z)=kf xs+xs.length+qda z
  | [], z => by simp [zy, kf]
  | x :: xs, z => by rw [zy, qda, kf, kf, kf, qze xs z, kf, fw]; omega
theorem zfi: ∀(xs:List Tr) (z:Tr),qac 1 (zy xs z)=(xs.all (qac 2)&&qac 1 z)
  | [], z => by simp [zy]
  | x :: xs, z => by
    rw[zy,qac,qii,qii,qii,List.all_cons];have:(if decide ((8:Int)=8)=true∧0=1 then(1:Int)else 1+1)=2:=(by decide);rw[this];have:(if decide ((8:Int)=8)=true∧0+1=1 then(1:Int)else 1+1)=1:=(by decide);rw[this,zfi xs z];simp[Bool.and_assoc]
theorem zqe: ∀(xs:List Tr) (z:Tr),vi qh (zy xs z)=(xs.all (vi qh)&&vi qh z)
  | [], z => by simp [zy]
  | x :: xs, z => by
    rw[zy,vi,qeg,qeg,qeg,List.all_cons,zqe xs z];have:qh (.mk 8 0 Q6.zero ⟨#[]⟩ [] [x,zy xs z])=true:=(by rfl);rw[this];simp[Bool.and_assoc]
theorem qzf(t:Tr):qs qh t=true↔qac 1 t=true∧qda t≤20000∧vi qh t=true:=by
  unfold qs;rw[ig,(jnh t 1 20000).1];constructor
  · rintro⟨⟨h1,h2⟩,h3⟩; exact⟨h1,by omega,h3⟩
  · rintro⟨h1,h2,h3⟩; exact⟨⟨h1,by omega⟩,h3⟩
theorem qme(xs:List Tr)(z:Tr):qs qh (zy xs z)=true↔(xs.all (qac 2)=true∧qac 1 z=true)∧kf xs+xs.length+qda z≤20000∧xs.all (vi qh)=true∧vi qh z=true:=by
  rw[qzf,zfi,qze,zqe,ig,ig]
theorem zke{xs:List Tr}{z:Tr}(h:20000<xs.length):qs qh (zy xs z)=false:=by
  apply lj.2;intro k;have:=((qme xs z).1 k).2.1;omega
def fitS(xs:List Tr)(z:Tr):Tr×Int:=if qs qh (zy xs z)=true then(zy xs z,0)else(qtb,4)
def ofS(xs:List Tr):Tr:=(fitS xs nilT).1
theorem jgh{xs:List Tr}{z:Tr}(h:20000<xs.length):fitS xs z=(qtb,4):=by unfold fitS; rw[f7 (by rw[zke h]; decide)]
theorem qpc{xs:List Tr}{z:Tr}(h:qs qh (zy xs z)=true):fitS xs z=(zy xs z,0):=by unfold fitS; rw[gj h]
theorem zkf{xs:List Tr}{z:Tr}(h:qs qh (zy xs z)=false):fitS xs z=(qtb,4):=by unfold fitS; rw[f7 (by rw[h]; decide)]
theorem Rt.take{w:World}{so:Option Addr}{ts:List Dt}(h:Rt w so ts)(n:Nat):Rt w so (ts.take n):=fun hne=>by
  obtain⟨b,o,e,h2⟩:=h (fun k=>hne (by rw[k]; simp));refine⟨b,o,e,fun i t hi=>h2 i t ?_⟩;rw[List.getElem?_take]at hi
  split at hi
  · exact hi
  · cases hi
theorem Rt.drop{w:World}{so:Option Addr}{ts:List Dt}(h:Rt w so ts)(cap n:Nat)(hc:ts.length≤cap):Rt w (if cap=n then so else so.map (·.add (n*11))) (ts.drop n):=fun hne=>by
  have hlt:n<ts.length:=by
    apply Classical.byContradiction;intro k;exact hne (i7 (by omega))
  obtain⟨b,o,e,h2⟩:=h (fun k=>by rw[k]at hlt; simp at hlt);rw[f7 (by omega),e];refine⟨b,o+n*11,by simp[jt],fun i t hi=>?_⟩;rw[List.getElem?_drop]at hi;have:=h2 _ _ hi
  rwa [Nat.add_mul,←Nat.add_assoc]at this
theorem qij{t:Tr}{xs:List Tr}(h:js t=some xs):Tr.bulks xs+xs.length+1=t.bulk:=by
  rw[qif h,qca];rfl
def OkL(L:List Tr):Prop:=L.all (qac 2)=true∧kf L+L.length+1≤20000∧L.all (vi qh)=true
theorem zkg(L:List Tr):qs qh (zy L nilT)=true↔OkL L:=by
  rw[qme];have h1:qac 1 nilT=true:=by rfl
  have h2:vi qh nilT=true:=by rfl
  have h3:qda nilT=1:=by rfl
  rw[h3];unfold OkL;constructor
  · rintro⟨⟨a,_⟩,b,c,_⟩; exact⟨a,b,c⟩
  · rintro⟨a,b,c⟩; exact⟨⟨a,h1⟩,b,c,h2⟩
theorem OkL.of{L M:List Tr}(h:OkL L)(hm:∀x∈M,x∈L)(hn:kf M+M.length≤kf L+L.length):OkL M:=⟨j3.2 fun x hx=>j3.1 h.1 x (hm x hx),by have:=h.2.1; omega,j3.2 fun x hx=>j3.1 h.2.2 x (hm x hx)⟩
theorem zkh: qs qh qtb=false:=by rfl
theorem jze{A:List Tr}(h:OkL A):ofS A=zy A nilT:=by unfold ofS; rw[qpc ((zkg A).2 h)]
theorem jgi{A:List Tr}(h:qs qh (ofS A)=true):OkL A∧ofS A=zy A nilT:=by
  by_cases hc:qs qh (zy A nilT)=true
  · exact⟨(zkg A).1 hc,jze ((zkg A).1 hc)⟩
  · unfold ofS at h;rw[zkf (lj.2 hc),zkh]at h;cases h
theorem jni(xs:List Tr)(z:Tr):(fitS xs z).1.bulk≤Tr.bulks xs+xs.length+z.bulk+1:=by
  unfold fitS
  split
  · show(zy xs z).bulk≤_; rw[qca]; omega
  · show qtb.bulk≤_; rw[show qtb.bulk=1 from rfl]; omega
theorem xjj: ∀xs:List Tr,xs.length≤Tr.bulks xs
  | [] => gm _
  | t :: xs => by
    have:=xjj xs;have h2:1≤t.bulk:=by cases t; rw[xr]; omega
    rw[Tr.bulks,fw]; omega
theorem jdj(xs:List Tr):(ofS xs).bulk≤Tr.bulks xs+Tr.bulks xs+2:=by
  have h1:=jni xs nilT;have h2:=xjj xs;rw[show nilT.bulk=1 from rfl]at h1;unfold ofS;omega
noncomputable def qfc(t:Tr):List Tr×Int:=
  if qs qh t=false then([],2)else match js t with
    | none => ([], 10)
    | some xs => (xs, 0)
theorem qrb{t:Tr}(h:qs qh t=false):qfc t=([],2):=by unfold qfc; rw[gj h]
theorem qmf{t:Tr}(h:qs qh t=true)(ha:js t=none):qfc t=([],10):=by unfold qfc; rw[f7 (by rw[h]; decide),ha]
theorem qhb{t:Tr}{xs:List Tr}(h:qs qh t=true)(ha:js t=some xs):qfc t=(xs,0):=by unfold qfc; rw[f7 (by rw[h]; decide),ha]
theorem xka{us vs:List Dt}(h:us.map Dt.tr=vs.map Dt.tr){i:Nat}{t u:Dt}(ht:us[i]?=some t)(hu:vs[i]?=some u):t.tr=u.tr:=by
  have:=j9 (fun l=>l[i]?) h;simp only[List.getElem?_map,ht,hu,Option.map_some]at this;exact io this
def zfj(k:Int):Dt:=.mk ⟨k,0,⟨Q6.zero,none,0,none,0,none,0,none,0⟩,⟨#[]⟩,none,0,[],none,0⟩ []
theorem jnj(w:World):∀t∈[zfj 2,zfj 10],t.rd w:=fun t ht=>by
  rcases ik.1 ht with h|h
  · rw[h]; exact qvd w 2 (by decide) (by decide)
  · rw[iq.1 h]; exact qvd w 10 (by decide) (by decide)
def hdT(ks:List (Int×List Tr)):Int:=match ks[(fdI ks 3).toNat]? with
  | some k => if 0 ≤ fdI ks 3 then k.1 else 0
  | none => 0
theorem jea{ks:List (Int×List Tr)}{k:Int×List Tr}(h:0≤fdI ks 3)(hk:ks[(fdI ks 3).toNat]?=some k):hdT ks=k.1:=by unfold hdT; rw[hk]; exact gj h
theorem joa{ks:List (Int×List Tr)}(h:¬0≤fdI ks 3):hdT ks=0:=by
  unfold hdT;cases ks[(fdI ks 3).toNat]? with
  | none => rfl
  | some k => exact f7 h
def flT(ks:List (Int×List Tr))(t:Int):Option Tr:=if 0≤fdI ks t then(ks[(fdI ks t).toNat]?).bind fun k=>k.2[0]? else none
theorem qvh{ks:List (Int×List Tr)}{t:Int}{k:Int×List Tr}{d:Tr}(h:0≤fdI ks t)(hk:ks[(fdI ks t).toNat]?=some k)(hd:k.2[0]?=some d):flT ks t=some d:=by unfold flT; rw[gj h,hk]; exact hd
theorem qrc{ks:List (Int×List Tr)}{t:Int}(h:¬0≤fdI ks t):flT ks t=none:=f7 h
noncomputable def irT(ks:List (Int×List Tr)):List Tr:=match flT ks 7 with
  | some t => (qfc t).1
  | none => []
def opT(o:Option Tr)(f:Tr→List UInt8):List UInt8:=match o with
  | some t => f t
  | none => []
def nmL(t:Int):List UInt8:=(kat t).nm.data.toList
noncomputable def tlS(f g:Tr→List UInt8)(ks:List (Int×List Tr)):List UInt8:=((nmL (hdT ks)++opT (flT ks 8) fun t=>[32,105,110,32]++f t)++opT (flT ks 1) fun t=>[58,32]++f t)++(irT ks).flatMap fun t=>[32]++g t
theorem jzf: ∀i,i<20→∀t∈[1,7,8],yn ((i:Nat):Int) t=true→un ((i:Nat):Int)=1:=by decide +kernel
theorem xgd{x t:Int}(hx:okT 20 x=true)(ht:t=1∨t=7∨t=8)(h:yn x t=true):un x=1:=by
  have h1:=qba hx;have e:((x.toNat:Nat):Int)=x:=by omega
  have:=jzf x.toNat (by omega) t (by rcases ht with rfl|rfl|rfl<;>decide);rw[e]at this;exact this h
theorem xge: ∀i,i<20→(kds.getD i xx).nm≠⟨#[]⟩:=by
  intro i hi;have key:∀i,i<20→(kds.getD i xx).nm.size≠0:=by decide
  exact fun e=>key i hi (by rw[e]; rfl)
theorem xea{t:Int}(h:okT 20 t=true):(kat t).nm≠⟨#[]⟩:=by
  rw[qra h];exact xge _ (by have:=qba h; omega)
theorem xgf{t:Int}(h:okT 20 t=true):nmL t≠[]:=fun e=>xea h (by
  apply ByteArray.ext;have:(kat t).nm.data.toList=[]:=e;simpa using this)
theorem xgg: ∀i,i<20→(kds.getD i xx).nm.size≤100:=by decide
theorem qpd{t:Int}(h:okT 20 t=true):(kat t).nm.size≤100:=by
  rw[qra h];exact xgg _ (by have:=qba h; omega)
def isF(t:Tr):Bool:=decide (t.k=2)&&decide (t.n=0)
noncomputable def erS(a m:Tr)(is:List Tr)(v:Bool):List (Int×List Tr)×Int:=
  if qs qh a=true∧qs qh m=true∧qs qh (ofS is)=true then
    ((if v=true then(6,[])else(4,[]))::(if isF a=true then[]else[(8,[a])])++[(1,[m]),(7,[ofS is])],0)
  else([],2)
theorem qrd{a m:Tr}{is:List Tr}{v:Bool}(h:¬(qs qh a=true∧qs qh m=true∧qs qh (ofS is)=true)):erS a m is v=([],2):=f7 h
theorem xeb{a m:Tr}{is:List Tr}{v:Bool}(h1:qs qh a=true)(h2:qs qh m=true)(h3:qs qh (ofS is)=true)(h4:isF a=true):erS a m is v=([(if v=true then(6,[])else(4,[])),(1,[m]),(7,[ofS is])],0):=by
  unfold erS;rw[gj ⟨h1,h2,h3⟩,gj h4]; rfl
theorem job{a m:Tr}{is:List Tr}{v:Bool}(h1:qs qh a=true)(h2:qs qh m=true)(h3:qs qh (ofS is)=true)(h4:isF a=false):erS a m is v=([(if v=true then(6,[])else(4,[])),(8,[a]),(1,[m]),(7,[ofS is])],0):=by
  unfold erS;rw[gj ⟨h1,h2,h3⟩,f7 (show ¬isF a=true by rw[h4]; decide)]; rfl
theorem jgj{w:World}{t t0:Dt}(ht:t.rd w)(h0:t.ts[0]?=some t0):Calls Tryz.prog 203 #[.agg (t.d.cells t.ts.length).toArray] w (RB w (.agg (t0.d.cells t0.ts.length).toArray)):=by
 have hlt:0<t.ts.length:=(List.getElem?_eq_some_iff.1 h0).1;have M:=Mg.start w;refine wof Tryz.func203 Tryz.ntmps203 fun Q hret hnorm hP a A=>?_;refine wsr fun _ aa=>zj (vs:=(t.d.cells t.ts.length)) (t:=30) A M rfl rfl rfl pg (qx rfl rfl) (by decide) ?_;intro g2 _ M a A;refine zj (vs:=(zb.d.cells zb.ts.length)) (t:=30) A M rfl rfl rfl pg (qm (z:=.agg (zb.d.cells zb.ts.length).toArray) (by kernel_rfl) rfl) (by decide) ?_;intro g4 _ M a A;refine qwk aa fun _ ab=>?_;obtain⟨t1,bt1,ot1,it1,mt1,rt1_,lt1,Ht1⟩:=qeh ht (i:=0) hlt;obtain rfl:t1=t0:=by rw[it1]at h0; exact io h0
 refine wrl (sdf A 10 jz λA=>?_);refine sdl A M ke 1 λA=>?_;refine sdo (v:=pA bt1 (ot1+0*11)) A (qk (k:=0) f9 (by kernel_rfl) rfl rfl rfl lt1 hlt) λA=>?_;refine sdo A (zp M Ht1 zv rfl rfl) λA=>?_;refine qt A M rfl rfl (qj rfl rfl rfl (by kernel_rfl) M 0 rfl rfl rfl) 0 rfl rfl rfl ?_;intro _ M;refine qa (ab _ _ (wp_ret (hret _ _ (en1 A rfl (zw M zv rfl 0 rfl (cs:=[iV t1.d.k,iV t1.d.n,bV t1.d.y.q.b1,.slice t1.d.y.o1 t1.d.y.q.t1.length t1.d.y.c1,.slice t1.d.y.o2 t1.d.y.q.q1.length t1.d.y.c2,bV t1.d.y.q.b2,.slice t1.d.y.o3 t1.d.y.q.t2.length t1.d.y.c3,.slice t1.d.y.o4 t1.d.y.q.q2.length t1.d.y.c4,.string t1.d.s,.slice t1.d.ro t1.d.rl.length t1.d.rc,.slice t1.d.lo t1.ts.length t1.d.lc]) rfl rfl) ?_))));exact⟨rfl,M.bel⟩
theorem jzg{w:World}:Calls Tryz.prog 58 #[] w (RB w (.agg (qxc.d.cells qxc.ts.length).toArray)):=by
 have M:=Mg.start w;refine wof Tryz.func58 Tryz.ntmps58 fun Q hret hnorm hP a A=>?_;refine wsr fun _ aa=>zj (vs:=(zb.d.cells zb.ts.length)) (t:=30) A M rfl rfl rfl pg (qm (z:=.agg (zb.d.cells zb.ts.length).toArray) (by kernel_rfl) rfl) (by decide) ?_;intro g2 _ M a A;refine qa (aa _ _ (wsr fun K4 ab=>sdo (v:=.agg #[iV 1,iV 0,bV false,.slice none 0 0,.slice none 0 0,bV false,.slice none 0 0,.slice none 0 0,.string (⟨#[]⟩),.slice none 0 0,.slice none 0 0]) A (qn rfl (fun w=>by kernel_rfl)) λA=>?_));refine qt A M rfl rfl (qj rfl rfl rfl (by kernel_rfl) M 0 rfl rfl rfl) 0 rfl rfl rfl ?_;intro _ M;refine qa (ab _ _ (wp_ret (hret _ _ (en1 A rfl (zw M zv rfl 0 rfl (cs:=[iV 1,iV 0,bV false,.slice none 0 0,.slice none 0 0,bV false,.slice none 0 0,.slice none 0 0,.string (⟨#[]⟩),.slice none 0 0,.slice none 0 0]) rfl rfl) ?_))));exact⟨rfl,M.bel⟩
theorem qtf{w0 w:World}{t:Dt}(h0:Below w0.heap.size w0 w)(ht:t.rd w0)(hs:vi qh t.tr=true)(hb:t.tr.bulk≤1000000000):Calls Tryz.prog 148 #[.agg (t.d.cells t.ts.length).toArray] w fun e w'=>(∃so' ca' xs,e=.returned (.tuple #[.slice so' (xs:List Dt).length ca',iV 0])∧(js t.tr=some (xs.map Dt.tr)∧(∀x∈xs,x.rd w0)∧xs.length≤t.tr.bulk)∧Mg w w' [.row 30 11 (.slice so' xs.length ca') xs.length (cellsOf xs)])∨(e=.returned (.tuple #[.slice none 0 0,iV 10])∧js t.tr=none∧Below w.heap.size w w'):=by
 have M:=Mg.start w;refine wof Tryz.func148 Tryz.ntmps148 fun Q hret hnorm hP a A=>?_;refine wsr fun _ ap=>zj (vs:=(t.d.cells t.ts.length)) (t:=30) A M rfl rfl rfl pg (qx rfl rfl) (by decide) ?_;intro g2 _ M a A;iterate 2 refine sda A λA=>?_
 refine qwr ap fun K4 aq=>sda A λA=>?_;refine qwk aq fun _ ar=>wp_block ?_;replace M:=M.nilRow (qi (by simp) (za zd)) 30 11;refine zg (fun m_ a w1=>∃(p:Dt) (xs:List Dt) (so_:Option Addr) (ca_:Nat),m_=1+p.tr.bulk∧(p.rd w0∧vi qh p.tr=true∧(∀x∈xs,x.rd w0)∧t.tr=zy (xs.map Dt.tr) p.tr∧xs.length+p.tr.bulk≤t.tr.bulk)∧Sl a 21 [(0,.agg (t.d.cells t.ts.length).toArray),(1,pA g2 0),(2,.slice none 0 0),(3,iV 0),(4,.slice so_ xs.length ca_)]∧Mg w w1 (.row 30 11 (.slice so_ xs.length ca_) xs.length (cellsOf xs)::.obj g2 (.cells (p.d.cells p.ts.length).toArray 30)::[])) _ ⟨t,[],none,0,rfl,⟨ht,hs,(fun x h=>by cases h),rfl,(by show 0+t.tr.bulk≤t.tr.bulk; omega)⟩,A.keep _ ⟨rfl,rfl,rfl,rfl,rfl,trivial⟩,M⟩ ?_;clear M A;rintro m_ a w6 ⟨p,xs,so_,ca_,rfl,ac,A,M⟩ _ au;obtain⟨hp,hps,hxs,htl,hbx⟩:=ac;refine wsk fun _ av=>wsr fun _ ae=>sdf A 0 xk λA=>?_;refine sdl A M o93 1 λA=>?_;rcases tf ((p.d.k==8))with aa|aa
 ·have aa':=gr aa;refine sdc A qe aa λA=>?_;refine qct ae A ?_;refine wp_skip (av _ _ (wp_block (wsk fun _ ai=>?_)));have l2p:=(zjc hps aa').1;have hbp:=zpd p;obtain⟨p0,bp0,op0,ip0,mp0,rp0_,lp0,Hp0⟩:=qeh hp (i:=0) (by omega);obtain⟨p1,bp1,op1,ip1,mp1,rp1_,lp1,Hp1⟩:=qeh hp (i:=1) (by omega);replace Hp0:=Hp0.below h0;replace Hp1:=Hp1.below h0;refine wrl (sdm A λA=>?_);refine sdo A (qz M zv rfl 1 rfl (cs:=(p.d.cells p.ts.length)) rfl rfl) λA=>?_;refine gcl A M ec (jgj (Dt.keep M.bel _ (Dt.keep h0 _ hp)) ip0) fun _ _ M a A=>?_;refine jr (e:=30) (sz:=11) (m:=1) (vs:=cellsOf [p0]) A M rfl rfl rfl (qg rfl (by kernel_rfl)) rfl rfl (.inl (by decide)) ?_;intro g15 _ M a A;refine xd (e:=30) (sz:=11) (k:=1) (q:=xs.length) (m:=1) (xs:=cellsOf xs) (news:=cellsOf [p0]) A rfl rfl rfl (yf (z:=.agg #[iV 0,iV 0,bV false,.slice none 0 0,.slice none 0 0,bV false,.slice none 0 0,.slice none 0 0,.string ⟨#[]⟩,.slice none 0 0,.slice none 0 0]) (sz:=11) (by_:=192) f9 (by kernel_rfl) rfl rfl rfl M 1 rfl rfl rfl rfl (vm (M.has 0 rfl)) (qgj [p0]) (by omega)) (fun _=>rfl) ?_;intro aw ax M a A;replace M:Mg w ax (.row 30 11 (.slice (aO g15) 1 1) 1 (cellsOf [p0])::.row 30 11 (aw) ((xs++[p0]).length) (cellsOf (xs++[p0]))::.obj g2 (.cells (p.d.cells p.ts.length).toArray 30)::[]):=by
   rw[yx,fv]; exact M
  obtain⟨af,ag,rfl⟩:=xu (M.has 1 rfl);refine sda A λA=>?_;refine qa (ai _ _ (wrl (sdf A 10 jz λA=>?_)));refine sdl A M ke 2 λA=>?_;refine sdo (v:=pA bp1 (op1+1*11)) A (qk (k:=1) f9 (by kernel_rfl) rfl rfl rfl lp1 (by omega)) λA=>?_;refine sdo A (zp M Hp1 zv rfl rfl) λA=>?_;refine qt A M rfl rfl (qj rfl rfl rfl (by kernel_rfl) M 2 rfl rfl rfl) 2 rfl rfl rfl ?_;intro ay M;refine qa ?_;replace M:Mg w ay (.row 30 11 (.slice af ((xs++[p0]).length) ag) ((xs++[p0]).length) (cellsOf (xs++[p0]))::.obj g2 (.cells (p1.d.cells p1.ts.length).toArray 30)::[]):=by
   have h9:=M.sub (cN (cC (cC (.refl _))));exact h9
  refine au _ _ _ (by have:=qhi mp1; omega) ⟨p1,xs++[p0],af,ag,rfl,⟨rp1_,(qxh hps).2 _ mp1,zpc hxs rp0_,zej htl hps aa' ip0 ip1,by have:=qhi mp1; rw[fv]; simp only[fw,fx]; omega⟩,A.keep _ ⟨rfl,rfl,rfl,rfl,rfl,trivial⟩,M⟩
 ·have aa':=f6 aa;refine sdc A qe aa λA=>?_;refine qcf ae A ?_;refine wp_exit (ar _ _ (wsk fun _ aj=>wsr fun _ ah=>sdf A 0 xk λA=>?_));refine sdl A M o93 1 λA=>?_;rcases tf ((p.d.k != 1))with ab|ab
  ·have ab':=iy.1 ab;refine sdc A zh ab λA=>?_;refine qct ah A ?_;refine wsr fun _ ak=>?_;iterate 2 refine sda A λA=>?_
   refine qa (ak _ _ (wp_ret (hret _ _ (en2 A rfl (qf rfl) (qf rfl) ?_))));exact .inr ⟨rfl,qxj htl aa' ab',M.bel⟩
  ·have ab':=ie.1 ab;refine sdc A zh ab λA=>?_;refine qcf ah A ?_;refine wp_skip (aj _ _ (wsr fun _ am=>sdm A λA=>?_));iterate 2 refine sda A λA=>?_
   refine qa (am _ _ (wp_ret (hret _ _ (en2 A rfl (qf rfl) (qf rfl) ?_))));replace M:Mg w w6 (.row 30 11 (.slice so_ xs.length ca_) xs.length (cellsOf xs)::[]):=by
    have h9:=M.sub (cC (cN (.refl _)));exact h9
   exact .inl ⟨_,_,xs,rfl,⟨qxi htl hps ab',hxs,by omega⟩,M⟩
theorem zdd{w0 w:World}{t:Dt}(h0:Below w0.heap.size w0 w)(ht:t.rd w0)(hs:vi qh t.tr=true)(hb:t.tr.bulk≤1000000000)(h:(js t.tr).isSome=true):Calls Tryz.prog 148 #[.agg (t.d.cells t.ts.length).toArray] w fun e w'=>∃so' ca' xs,e=.returned (.tuple #[.slice so' (xs:List Dt).length ca',iV 0])∧(js t.tr=some (xs.map Dt.tr)∧(∀x∈xs,x.rd w0)∧xs.length≤t.tr.bulk)∧Mg w w' [.row 30 11 (.slice so' xs.length ca') xs.length (cellsOf xs)]:=by
 refine(qtf h0 ht hs hb).mono ?_;rintro e w' (h1|⟨_,h2,_⟩)
 ·exact h1
 ·rw[h2]at h; cases h
theorem zde{w0 w:World}{t:Dt}(h0:Below w0.heap.size w0 w)(ht:t.rd w0)(hs:vi qh t.tr=true)(hb:t.tr.bulk≤1000000000)(h:(js t.tr).isSome=false):Calls Tryz.prog 148 #[.agg (t.d.cells t.ts.length).toArray] w (RB w (.tuple #[.slice none 0 0,iV 10])):=by
 refine(qtf h0 ht hs hb).mono ?_;rintro e w' (⟨_,_,xs,_,h1,_⟩|⟨h1,_,h3⟩)
 ·rw[h1.1]at h; cases h
 ·exact⟨h1,h3⟩
section
variable {F:Fence} {m:Nat} {P:Program} {w0 w w':World} {L:List Ck} {l:List (Nat×Value)} {ops:List Oper} {Q:Exit→Act→World→Prop} {a:Act} {n:Nat} {o:Oper} {rest:List Oper} {d:Nat} {v:Value}
def Sd(a:Act)(n:Nat)(l:List (Nat×Value)):Prop:=Sl { a with defers:=[] } n l
theorem zki(hnd:∀c,o.op≠.defer c)(r:Option Nat)(ρ:Operand→Value):o.semAt r ρ=execOp ρ o:=by
 cases r with
 | none => rfl
 | some k => exact Oper.semAt_some k _ _ hnd
theorem qdb(hF:∀f,F.fn f)(H:Sd a n l)(hg:zf l ops o=true)(hdst:o.dst=some d)(hd:Nat.blt d n=true)(hnd:∀c,o.op≠.defer c)(he:Does P l o w v w')
  (hk:∀a',Sd a' n ((d,v)::l)→a'.defers=a.defers→wpListIn F m P ops.toArray Q rest a' w'):wpListIn F m P ops.toArray Q (o::rest) a w:=by
 unfold wpListIn;rw[gj (show Region.wanted o (yielded ops.toArray a.tmps)=true from H.wanted hg)];refine⟨fun f _=>hF f,?_⟩;rw[zki hnd,he a.eval (fun x u hx=>H.ev hx),Oper.uponIn_value,hdst];exact hk _ (H.put hd v) rfl
theorem joc(hF:∀f,F.fn f)(H:Sd a n l)(hg:zf l ops o=true)(hdst:o.dst=none)(hnd:∀c,o.op≠.defer c)(he:Sets P l o w w')
  (hk:wpListIn F m P ops.toArray Q rest a w'):wpListIn F m P ops.toArray Q (o::rest) a w:=by
 unfold wpListIn;rw[gj (show Region.wanted o (yielded ops.toArray a.tmps)=true from H.wanted hg)];refine⟨fun f _=>hF f,?_⟩;rw[zki hnd,he a.eval (fun x u hx=>H.ev hx),Oper.uponIn_skip,hdst];exact hk
theorem xgh(hF:∀f,F.fn f)(hd0:F.depth=none)(H:Sd a n l)(hg:zf l ops o=true)(hdst:o.dst=some d)(hd:Nat.blt d n=true)(hnd:∀c,o.op≠.defer c){f:FuncId}{vs:List Value}(he:Enters P l o w f vs){R:World→Prop}(hc:CallsIn F (m-1) P f vs.toArray w fun e w'=>e=.returned v∧R w')
  (hk:∀w',R w'→∀a',Sd a' n ((d,v)::l)→a'.defers=a.defers→wpListIn F m P ops.toArray Q rest a' w'):wpListIn F m P ops.toArray Q (o::rest) a w:=by
 unfold wpListIn;rw[gj (show Region.wanted o (yielded ops.toArray a.tmps)=true from H.wanted hg)];refine⟨fun f _=>hF f,?_⟩;rw[zki hnd,he a.eval (fun x u hx=>H.ev hx),Oper.uponIn_enter];refine⟨(fun h=>by rw[hd0]at h; cases h),hc.mono ?_⟩;rintro _ w' ⟨rfl,h⟩;rw[hdst];exact hk w' h _ (H.put hd v) rfl
theorem xgi{c:Code}(I:Nat→Act→World→Prop)(N:Nat)(h0:I N a w)(round:∀k a w,I k a w→c.wpIn F m P (Exit.then (fun a' w'=>∃j,k=j+1∧I j a' w') Q) a w):(Code.loop c).wpIn F m P Q a w:=by
 have key:∀k a w,I k a w→Code.roundsIn F m P c Q (k+1) a w:=by
  intro k
  induction k with
  | zero =>
   intro a w h;refine wpIn_mono (round 0 a w h) (fun e a' w' hq=>?_);cases e with
   | normal => obtain ⟨j, hj, _⟩ := hq; omega
   | _ => exact hq
  | succ k ih =>
   intro a w h;refine wpIn_mono (round (k+1) a w h) (fun e a' w' hq=>?_);cases e with
   | normal =>
    obtain⟨j,hj,hI⟩:=hq;obtain rfl:k=j:=(by omega);exact ih a' w' hI
   | _ => exact hq
 exact wpIn_loop_rounds (N+1) (key N a w h0)
theorem jzh(hF:∀f,F.fn f)(hd0:F.depth=none)(H:Sd a n l)(hg:zf l ops o=true)(hdst:o.dst=some d)(hd:Nat.blt d n=true)(hnd:∀c,o.op≠.defer c){k:Nat}{vs:List Value}(he:∀ρ:Operand→Value,(∀x u,ev l x=some u→ρ x=u)→(execOp ρ o).run P w=(Instr.yield k vs.toArray).run P w){R:Bool→World→Prop}(hy:YieldAt F (m-1) P k vs.toArray w fun e w'=>∃b,e=.returned (bV b)∧R b w')
  (hk:∀b w',R b w'→∀a',Sd a' n ((d,bV b)::l)→a'.defers=a.defers→wpListIn F m P ops.toArray Q rest a' w'):wpListIn F m P ops.toArray Q (o::rest) a w:=by
 obtain⟨fn,tmps,assign,body,h1,h2⟩:=hy;unfold wpListIn;rw[gj (show Region.wanted o (yielded ops.toArray a.tmps)=true from H.wanted hg)];refine⟨fun f _=>hF f,?_⟩;rw[zki hnd,he a.eval (fun x u hx=>H.ev hx),h1,Oper.uponIn_round];refine⟨(fun h=>by rw[hd0]at h; cases h),h2.mono ?_⟩;rintro _ w' ⟨b,rfl,h⟩;rw[hdst];exact hk b w' h _ (H.put hd (bV b)) rfl
theorem zqf{x:Operand}{k:Nat}{args:List Operand}{ts:Array TypeId}{vs:List Value}{dst:Option Tmp}{ty:TypeId}{pos:String}{after:Array Edge}{guard:Option (Nat×Bool)}(hx:ev l x=some (.func (.yield k) #[] #[]))(ha:evs l args=some vs):
  ∀ρ:Operand→Value,(∀x u,ev l x=some u→ρ x=u)→(execOp ρ ⟨dst,.call ⟨.value x,args.toArray,ts⟩,ty,pos,after,guard⟩).run P w=(Instr.yield k vs.toArray).run P w:=fun ρ h=>by
 have e:=zid h args vs ha;simp[execOp,resolve,invoke,h x _ hx,Deferred.ofValue,e]
theorem Sd.sl(h:Sd a n l)(hd:a.defers=[]):Sl a n l:=⟨h.size,h.holds,hd⟩
theorem Sd.ev(h:Sd a n l){x:Operand}{v:Value}(hx:Go.Proofs.YtmnlfahgklnpeaaGreatDoor.G.ev l x=some v):a.eval x=v:=Sl.ev h hx
theorem Sd.keep(h:Sd a n l)(l':List (Nat×Value))(hs:AllIn l l'):Sd a n l':=Sl.keep h l' hs
theorem xgj{f:FuncId}{fn:Func}{c:Code}{args:List Value}{Z:Ending→World→Prop}(hf:P.funcs[f]?=some fn)(hb:fn.body=some c)(hF:F.fn f)(hn:fn.ntmps=n)(hl:Nat.ble args.length n=true)(hs:(args.zipIdx.map fun p=>(p.2,p.1))=l)(hro:F.round=none)
  (h:∀Q:Exit→Act→World→Prop,(∀a w,bodyPost P fn Z .ret a w→Q .ret a w)→(∀a w,bodyPost P fn Z .ret a w→Q .normal a w)→∀a,Sd a n l→a.defers=[]→c.wpIn F m P Q a w):CallsIn F m P f args.toArray w Z:=by
 subst hs;refine callsIn_of_wp hf hb hF (h _ (fun _ _ h=>h) (fun _ _ h=>h) _ ?_ rfl) hro;rw[hn];exact Sl.enter (Nat.le_of_ble_eq_true hl)
theorem jzi{f:FuncId}{fn:Func}{c:Code}{args:List Value}{Z:Ending→World→Prop}(hf:P.funcs[f]?=some fn)(hb:fn.body=some c)(hF:F.fn f)(hn:fn.ntmps=n)(hl:Nat.ble args.length n=true)(hs:(args.zipIdx.map fun p=>(p.2,p.1))=l)(hro:F.round=none)
  (h:∀Q:Exit→Act→World→Prop,(∀a w,bodyPostM F m P fn Z .ret a w→Q .ret a w)→∀a,Sd a n l→a.defers=[]→c.wpIn F m P Q a w):CallsIn F m P f args.toArray w Z:=by
 subst hs;refine callsIn_of_wp_marks hf hb hF (h _ (fun _ _ h=>h) _ ?_ rfl) hro;rw[hn];exact Sl.enter (Nat.le_of_ble_eq_true hl)
theorem qpe{x y:Code}(h:∀K:Act→World→Prop,(∀a w,y.wpIn F m P Q a w→K a w)→x.wpIn F m P (Exit.then K Q) a w):(Code.seq x y).wpIn F m P Q a w:=wpIn_seq (h _ (fun _ _ h=>h))
theorem jod(hF:∀f,F.fn f)(H:Sd a n l)(M:Mg w0 w L)(hg:zf l ops o=true)(hdst:o.dst=some d)(hd:Nat.blt d n=true)(hnd:∀c,o.op≠.defer c){vs:List Value}{t:TypeId}(val:Nat→Value)(he:Does P l o w (val w.heap.size) (w.alloc (.cells vs.toArray t)))(ht:t≠BY)
  (hk:∀g w',Mg w0 w' (.obj g (.cells vs.toArray t)::L)→w.heap.size≤g→g<w'.heap.size→Below w.heap.size w w'→KeepsOthers w w'→∀a',Sd a' n ((d,val g)::l)→a'.defers=a.defers→wpListIn F m P ops.toArray Q rest a' w'):wpListIn F m P ops.toArray Q (o::rest) a w:=
 qdb hF H hg hdst hd hnd he (hk _ _ (M.addObj _ (kj ht)) (gm _) (by simp) ((Below.refl _ w).alloc (gm _) _) (KeepsOthers.alloc _ _))
end
theorem qhc(g:Nat):∀(cs:List Value) (w:World) (o:Nat),KeepsOthers w (w.setCells g o cs)
 | [], w, o => KeepsOthers.refl w
 | c :: cs, w, o => (KeepsOthers.setCell w ⟨g, o, none⟩ c).trans (qhc g cs _ _)
theorem qmg{B:Nat}(g:Nat)(hg:B≤g):∀(cs:List Value) (w:World) (o:Nat),Below B w (w.setCells g o cs)
 | [], w, o => Below.refl _ w
 | c :: cs, w, o => ((Below.refl B w).setCell (p := ⟨g, o, none⟩) hg c).trans (qmg g hg cs _ _)
theorem qre{w w':World}{row:Option Nat}(hg:w.grownBy w' row)(hr:∀r,row=some r→∃o:Obj,w.heap[r]?=some o∧o.isCells=false):Kept (fun _=>True) w w':=⟨hg.size,fun b i v _ hc=>by
 by_cases e:row=some b
 ·obtain⟨o,ho,hn⟩:=hr b e;unfold World.cell? at hc;simp only[ho]at hc;cases o<;>simp_all [Obj.isCells]
 ·exact hg.cell hc (fun k=>e k.symm)⟩
theorem Mg.calm{w0 w w':World}{L:List Ck}{row:Option Nat}(h:Mg w0 w L)(hg:w.grownBy w' row)(hr:∀r,row=some r→w0.heap.size≤r∧∃o:Obj,w.heap[r]?=some o∧o.isCells=false)(hL:∀c∈L,∃g vs t,c=.obj g (.cells vs t)):Mg w0 w' L:=by
 refine⟨h.bel.grown hg h.bel.size (fun k e=>(hr k e).1),fun c hc=>?_,h.dis⟩;obtain⟨g,vs,t,rfl⟩:=hL c hc;have h2:=h.all _ hc;refine⟨h2.1,(hg.block g (Array.getElem?_eq_some_iff.1 h2.2).1 (fun e=>?_)).trans h2.2⟩;obtain⟨_,o,ho,hn⟩:=hr g e.symm;rw[h2.2]at ho;cases ho
 cases hn
theorem Dt.at_true: ∀t:Dt,t.at_ (fun _=>True):=Dt.indT fun d ts ih=>Dt.at_iff.2 ⟨⟨fun _ _ _ _=>trivial,fun _ _ _ _=>trivial,fun _ _ _ _=>trivial,fun _ _ _ _=>trivial,fun _ _ _ _=>trivial⟩,fun _ _ _ _=>trivial,ih⟩
theorem Here.kept{w w':World}{b o:Nat}{cs:List Value}(h:Here w b o cs)(hk:Kept (fun _=>True) w w'):Here w' b o cs:=⟨j8 h.1 hk.1,fun j v hj=>hk.2 _ _ _ trivial (h.2 j v hj)⟩
theorem qzg: Is1 Tryz.prog 28:=⟨⟨_,f9,rfl⟩,by kernel_rfl⟩
theorem qfd: IsS Tryz.prog 30 11:=⟨⟨_,iu⟩,by kernel_rfl⟩
def Al(w:World):Type:={ x:Int×Dt // x.2.rd w }
def xkb{w:World}(x:Al w):Array Value:=#[iV x.1.1,.agg (x.1.2.d.cells x.1.2.ts.length).toArray]
def KpB(n₀ Bs:Nat)(W W':World):Prop:=Below n₀ W W'∧∀v,W.cell? ⟨Bs,0,none⟩=some v→W'.cell? ⟨Bs,0,none⟩=some v
theorem KpB.refl(n₀ Bs:Nat)(W:World):KpB n₀ Bs W W:=⟨Below.refl _ _,fun _ h=>h⟩
theorem KpB.trans{n₀ Bs:Nat}{A B C:World}(h:KpB n₀ Bs A B)(k:KpB n₀ Bs B C):KpB n₀ Bs A C:=⟨h.1.trans k.1,fun v hv=>k.2 v (h.2 v hv)⟩
theorem zxc{wA w0:World}{Bs:Nat}{so:Option Addr}{ca:Nat}{ts:List Dt}(hR:Rt wA so ts)(hD:∀t∈ts,t.rd wA)(hb:Below wA.heap.size wA w0)(hBs:w0.cell? ⟨Bs,0,none⟩=some (.slice so ts.length ca))(hBl:Bs<w0.heap.size)(hl:ts.length≤1000000000)(n:Nat):
  SeqStopsK Fence.wide n Tryz.prog 186 #[pA Bs 0] (xkb (w:=wA)) (KpB wA.heap.size Bs) (fun ys=>ys.map (fun x=>x.1.2)=ts.reverse) (fun _=>True) ts.length w0:=by
 intro l J Jx W hW hJ hJx hY h0;have hF:∀f,Fence.wide.fn f:=fun _=>trivial;rw[List.append_toArray];refine xgj (l:=[(0,.func (.yield l) #[] #[]),(1,pA Bs 0)]) Tryz.func186 rfl trivial rfl rfl rfl rfl ?_;intro Q hret hnorm a H hdf;have hc:W.cell? ⟨Bs,0,none⟩=some (.slice so ts.length ca):=(hW.cell (p:=⟨Bs,0,none⟩) hBl).trans hBs;refine qpe fun _ ab=>wpIn_region_lit ?_;refine qdb (v:=.slice so ts.length ca) hF H rfl rfl rfl (by intro c h; cases h) (ju rfl (vz qzg hc)) fun a H h2=>?_;refine qdb (v:=iV (ts.length:Nat)) hF H rfl rfl rfl (by intro c h; cases h) (qr f9 rfl) fun a H h3=>?_;refine qdb (v:=iV ((ts.length:Int)-1)) hF H rfl rfl rfl (by intro c h; cases h) (qb rfl rfl (ar_sub (in_i64 (by omega) (by omega)))) fun a H h4=>?_;refine qdb (v:=iV ((ts.length:Int)-1)) hF H rfl rfl rfl (by intro c h; cases h) (ji rfl) fun a H h5=>?_;refine wpListIn_nil (ab _ _ (wpIn_block ?_));refine xgi (fun k a W'=>k≤ts.length∧Sd a 19 [(0,.func (.yield l) #[] #[]),(1,pA Bs 0),(3,iV ((k:Int)-1))]∧a.defers=[]∧KpB wA.heap.size Bs W W'∧∃pre,J pre W'∧pre.map (fun x=>x.1.2)=(ts.drop k).reverse) ts.length ⟨gm _,H.keep _ ⟨rfl,rfl,rfl,trivial⟩,by rw[h5,h4,h3,h2,hdf],KpB.refl _ _ _,[],h0,by rw[List.drop_length]; rfl⟩ ?_;rintro k a W' ⟨hk,H,hd,hKp,pre,hJp,hpre⟩;have hc':=hKp.2 _ hc;refine qpe fun K2 aa=>qpe fun _ ac=>wpIn_region_lit ?_;refine qdb (v:=iV ((k:Int)-1)) hF H rfl rfl rfl (by intro c h; cases h) (zr rfl) fun a H h2=>?_;refine qdb (v:=bV (decide ((0:Int)≤(k:Int)-1))) hF H rfl rfl rfl (by intro c h; cases h) (qb rfl rfl zt) fun a H h3=>?_;refine wpListIn_nil (ac _ _ ?_);refine wpIn_cond_split (t:=decide ((0:Int)≤(k:Int)-1)) (H.ev rfl) (fun hq=>?_) (fun hq=>?_)
 ·have hq':=f5 hq;refine wpIn_skip (aa _ _ (qpe fun K4 ae=>wpIn_block (qpe fun _ af=>wpIn_region_lit ?_)));obtain⟨t1,b1,o1,it1,mt1,rt1,lt1,Ht1⟩:=que hR hD (i:=k-1) (by omega);refine qdb (v:=.func (.yield l) #[] #[]) hF H rfl rfl rfl (by intro c h; cases h) (zr rfl) fun a H h4=>?_;refine qdb (v:=iV ((k:Int)-1)) hF H rfl rfl rfl (by intro c h; cases h) (zr rfl) fun a H h5=>?_;refine qdb (v:=.slice so ts.length ca) hF H rfl rfl rfl (by intro c h; cases h) (ju rfl (vz qzg hc')) fun a H h6=>?_;refine qdb (v:=iV ((k:Int)-1)) hF H rfl rfl rfl (by intro c h; cases h) (zr rfl) fun a H h7=>?_;refine qdb (v:=pA b1 (o1+(k-1)*11)) hF H rfl rfl rfl (by intro c h; cases h) (qk (k:=k-1) f9 (by kernel_rfl) rfl rfl (by omega) lt1 (by omega)) fun a H h8=>?_;have hbW:Below wA.heap.size wA W':=(hb.trans (hW.mono hb.size)).trans hKp.1;refine qdb (v:=.agg (t1.d.cells t1.ts.length).toArray) hF H rfl rfl rfl (by intro c h; cases h) (ju rfl (vy qfd _ rfl (fun j v hj=>(hbW.cell Ht1.1).trans (Ht1.2 j v hj)))) fun a H h9=>?_;have hlen:pre.length<ts.length:=by
   have:=j9 List.length hpre;simp only[gy,lm,il]at this;omega
  refine jzh (k:=l) (vs:=[iV ((k:Int)-1),.agg (t1.d.cells t1.ts.length).toArray]) (R:=fun b W2=>(b=true∧J (pre++[⟨((k:Int)-1,t1),rt1⟩]) W2∧KpB wA.heap.size Bs W' W2)∨(b=false∧Jx (pre++[⟨((k:Int)-1,t1),rt1⟩]) W2)) hF rfl H rfl rfl rfl (by intro c h; cases h) (zqf rfl rfl) ?_ ?_
  ·have:=hY pre ⟨((k:Int)-1,t1),rt1⟩ W' hJp hlen;obtain⟨fn,tmps,assign,body,e1,e2⟩:=this;refine⟨fn,tmps,assign,body,e1,e2.mono ?_⟩;rintro e W2 (⟨rfl,h1,h2⟩|⟨rfl,h1⟩)
   ·exact⟨true,rfl,.inl ⟨rfl,h1,h2⟩⟩
   ·exact⟨false,rfl,.inr ⟨rfl,h1⟩⟩
  ·rintro b W2 hR2 a H h10;refine qdb (v:=bV (!b)) hF H rfl rfl rfl (by intro c h; cases h) (ya rfl qaf) fun a H h11=>?_;refine wpListIn_nil (af _ _ ?_);have hdd:a.defers=[]:=(by rw[h11,h10,h9,h8,h7,h6,h5,h4,h3,h2,hd]);rcases hR2 with⟨rfl,ag,aa'⟩|⟨rfl,hJx2⟩
   ·refine wpIn_cond_false (H.ev rfl) (wpIn_skip (ae _ _ (wpIn_region_lit ?_)));refine qdb (v:=iV ((k:Int)-1)) hF H rfl rfl rfl (by intro c h; cases h) (zr rfl) fun a H g1=>?_;refine qdb (v:=iV (((k-1:Nat):Int)-1)) hF H rfl rfl rfl (by intro c h; cases h) (qb rfl rfl (ar_sub ((in_i64 (by omega) (by omega)).trans (by omega)))) fun a H g2=>?_;refine qdb (v:=iV (((k-1:Nat):Int)-1)) hF H rfl rfl rfl (by intro c h; cases h) (ji rfl) fun a H g3=>?_;refine wpListIn_nil ?_;refine⟨k-1,by omega,by omega,H.keep _ ⟨rfl,rfl,rfl,trivial⟩,by rw[g3,g2,g1,hdd],hKp.trans aa',_,ag,?_⟩;rw[j6,hpre,List.drop_eq_getElem_cons (show k-1<ts.length by omega),List.reverse_cons,show k-1+1=k by omega]
    congr 1
    have:=(List.getElem?_eq_some_iff.1 it1).2;rw[this];rfl
   ·refine wpIn_cond_true (H.ev rfl) (wpIn_ret ?_);refine hret _ _ ?_;exact jq (rs:=[]) (vs:=[]) (v:=.tuple #[]) (H.sl hdd) rfl .nil rfl ⟨⟨_,rfl⟩,.inr ⟨_,trivial,hJx2⟩⟩
 ·have hq':=fy hq;refine wpIn_exit ?_;obtain rfl:k=0:=by omega
  refine hnorm _ _ ?_;exact jq (rs:=[]) (vs:=[]) (v:=.tuple #[]) (H.sl (by rw[h3,h2,hd])) rfl .nil rfl ⟨⟨_,rfl⟩,.inl ⟨pre,hpre,hJp⟩⟩
end Go.Proofs.YtmnlfahgklnpeaaGreatDoor.G
