/- Tn Tr Ts Tk Or La Lb Lc TrA ShelfB TrB TrC ShelfH LiA LiB Ld LiC Lk Ll Lm Ln LiT LiU LiV -/
import Derived.Test.YtpckmgemfkiifaaGreatDoorPlistss11c
import Derived.Test.YtpckmgemfkiifaaGreatDoorPlistss11d
import Derived.Test.YtpckmgemfkiifaaGreatDoorPlistss11e
import Derived.Lib.ValidU
import Derived.Lib.Bytealg
import Derived.Test.YtpckmgemfkiifaaGreatDoorProg
import Derived.Shelf.Small.Utf8
import Derived.Shelf.Small.Bits
import Derived.Shelf.Small.Strs
import Derived.Shelf.LaysM
import Derived.Shelf.Strconv.Clone
import Derived.Shelf.Unicode.ValidAny
set_option linter.unusedVariables false
set_option linter.unusedSimpArgs false
set_option maxHeartbeats 1000000
namespace Go.Proofs.YtpckmgemfkiifaaGreatDoor.G
open Go.RowKit

structure Nu where
  q:Q6
  o1:Option Addr
  c1:Nat
  o2:Option Addr
  c2:Nat
  o3:Option Addr
  c3:Nat
  o4:Option Addr
  c4:Nat
def Nu.nm(w:World)(y:Nu):Prop:=Nm w y.q y.o1 y.c1 y.o2 y.c2 y.o3 y.c3 y.o4 y.c4
theorem Nu.below{w w':World}{y:Nu}(h:y.nm w)(hb:Below w.heap.size w w'):y.nm w':=⟨h.s1.below hb,h.s2.below hb,h.s3.below hb,h.s4.below hb⟩
def Nu.val(y:Nu):Value:=qji y.q y.o1 y.c1 y.o2 y.c2 y.o3 y.c3 y.o4 y.c4
theorem yj{P:Program}{w:World}{l:List (Nat×Value)}{dst:Option Tmp}{ty:TypeId}{pos:String}{after:Array Edge}{guard:Option (Nat×Bool)}{x:Operand}{a:Addr}(hx:ev l x=some (.pointer (some a))):Does P l ⟨dst,.nilCheck x,ty,pos,after,guard⟩ w (.pointer (some a)) w:=fun ρ h=>by
  simp only[execOp,h x _ hx,Sem.run_pure]
structure Nd where
  k:Int
  n:Int
  y:Nu
  s:ByteArray
  ro:Option Addr
  rc:Nat
  rl:List UInt8
  lo:Option Addr
  lc:Nat
inductive Dt where
  | mk (d : Nd) (ts : List Dt)
def Dt.d: Dt→Nd
  | .mk d _ => d
def Dt.ts: Dt→List Dt
  | .mk _ ts => ts
def Nd.cells(d:Nd)(m:Nat):List Value:=[.int .i64 d.k,.int .i64 d.n,.bool d.y.q.b1,.slice d.y.o1 d.y.q.t1.length d.y.c1,.slice d.y.o2 d.y.q.q1.length d.y.c2,.bool d.y.q.b2,.slice d.y.o3 d.y.q.t2.length d.y.c3,.slice d.y.o4 d.y.q.q2.length d.y.c4,.string d.s,.slice d.ro d.rl.length d.rc,.slice d.lo m d.lc]
def Dt.cells(t:Dt):List Value:=t.d.cells t.ts.length
inductive Tr where
  | mk (k n : Int) (q : Q6) (s : ByteArray) (rl : List UInt8) (ts : List Tr)
def Tr.k: Tr→Int
  | .mk k _ _ _ _ _ => k
def Tr.n: Tr→Int
  | .mk _ n _ _ _ _ => n
def Tr.q: Tr→Q6
  | .mk _ _ q _ _ _ => q
def Tr.s: Tr→ByteArray
  | .mk _ _ _ s _ _ => s
def Tr.rl: Tr→List UInt8
  | .mk _ _ _ _ r _ => r
def Tr.ts: Tr→List Tr
  | .mk _ _ _ _ _ ts => ts
mutual
def Dt.tr: Dt→Tr
  | .mk d ts => .mk d.k d.n d.y.q d.s d.rl (Dt.trs ts)
def Dt.trs: List Dt→List Tr
  | [] => []
  | t :: ts => t.tr :: Dt.trs ts
end
theorem Dt.trs_map: ∀ts:List Dt,Dt.trs ts=ts.map Dt.tr
  | [] => by simp [Dt.trs]
  | t :: ts => by simp [Dt.trs, Dt.trs_map ts]
mutual
theorem Dt.indT{P:Dt→Prop}(h:∀d ts,(∀t∈ts,P t)→P (.mk d ts)):∀t,P t
  | .mk d ts => h d ts (Dt.indL h ts)
theorem Dt.indL{P:Dt→Prop}(h:∀d ts,(∀t∈ts,P t)→P (.mk d ts)):∀ts:List Dt,∀t∈ts,P t
  | [], t, ht => by cases ht
  | u :: us, t, ht => by
    rcases List.mem_cons.1 ht with e | e
    · rw[e]; exact Dt.indT h u
    · exact Dt.indL h us t e
end
mutual
theorem Tr.indT{P:Tr→Prop}(h:∀k n q s rl ts,(∀t∈ts,P t)→P (.mk k n q s rl ts)):∀t,P t
  | .mk k n q s rl ts => h k n q s rl ts (Tr.indL h ts)
theorem Tr.indL{P:Tr→Prop}(h:∀k n q s rl ts,(∀t∈ts,P t)→P (.mk k n q s rl ts)):∀ts:List Tr,∀t∈ts,P t
  | [], t, ht => by cases ht
  | u :: us, t, ht => by
    rcases List.mem_cons.1 ht with e | e
    · rw[e]; exact Tr.indT h u
    · exact Tr.indL h us t e
end
def Here(w:World)(b o:Nat)(cs:List Value):Prop:=b<w.heap.size∧∀j v,cs[j]?=some v→w.cell? ⟨b,o+j,none⟩=some v
theorem Here.below{w w':World}{b o:Nat}{cs:List Value}(h:Here w b o cs)(hb:Below w.heap.size w w'):Here w' b o cs:=⟨Nat.lt_of_lt_of_le h.1 hb.size,fun j v hj=>(hb.cell h.1).trans (h.2 j v hj)⟩
def Rt(w:World)(lo:Option Addr)(ts:List Dt):Prop:=ts≠[]→∃b o,lo=some ⟨b,o,none⟩∧∀i t,ts[i]?=some t→Here w b (o+i*11) t.cells
theorem Rt.below{w w':World}{lo:Option Addr}{ts:List Dt}(h:Rt w lo ts)(hb:Below w.heap.size w w'):Rt w' lo ts:=fun hne=>by
  obtain⟨b,o,e,h2⟩:=h hne;exact⟨b,o,e,fun i t hi=>(h2 i t hi).below hb⟩
structure NdOk(w:World)(d:Nd):Prop where
  num:d.y.nm w
  len:LenQ d.y.q
  raw:Rb w d.ro d.rl
  rcap:d.rl.length≤d.rc
  rmax:d.rc≤9223372036854775807
  k0:-9223372036854775808≤d.k
  k1:d.k≤9223372036854775807
  n0:-9223372036854775808≤d.n
  n1:d.n≤9223372036854775807
  smax:d.s.size≤9223372036854775807
theorem NdOk.below{w w':World}{d:Nd}(h:NdOk w d)(hb:Below w.heap.size w w'):NdOk w' d:={ h with num:=Nu.below h.num hb,raw:=h.raw.below hb }
mutual
def Dt.rd(w:World):Dt→Prop
  | .mk d ts => NdOk w d ∧ ts.length ≤ d.lc ∧ d.lc ≤ 9223372036854775807 ∧ Rt w d.lo ts ∧ Dt.rds w ts
def Dt.rds(w:World):List Dt→Prop
  | [] => True
  | t :: ts => t.rd w ∧ Dt.rds w ts
end
theorem Dt.rds_iff{w:World}:∀{ts:List Dt},Dt.rds w ts↔∀t∈ts,t.rd w
  | [] => by simp [Dt.rds]
  | t :: ts => by simp [Dt.rds, Dt.rds_iff (ts := ts)]
theorem Dt.rd_iff{w:World}{d:Nd}{ts:List Dt}:(Dt.mk d ts).rd w↔NdOk w d∧ts.length≤d.lc∧d.lc≤9223372036854775807∧Rt w d.lo ts∧∀t∈ts,t.rd w:=by
  rw[←Dt.rds_iff]; unfold Dt.rd; exact Iff.rfl
theorem Dt.keep{w w':World}(hb:Below w.heap.size w w'):∀t:Dt,t.rd w→t.rd w':=
  Dt.indT fun d ts ih h=>by
    rw[Dt.rd_iff]at h ⊢;exact⟨h.1.below hb,h.2.1,h.2.2.1,h.2.2.2.1.below hb,fun t ht=>ih t ht (h.2.2.2.2 t ht)⟩
theorem Dt.tr_mk(d:Nd)(ts:List Dt):(Dt.mk d ts).tr=.mk d.k d.n d.y.q d.s d.rl (ts.map Dt.tr):=by rw[Dt.tr,Dt.trs_map]
mutual
def xh(dp left:Int):Tr→Bool×Int
  | .mk k _ _ _ _ ts => if left - 1 < 0 ∨ 200 < dp then (false, left - 1) else qac dp (decide (k = 8)) 0 (left - 1) ts
def qac(dp:Int)(pr:Bool)(i:Nat)(left:Int):List Tr→Bool×Int
  | [] => (true, left)
  | t :: ts => if (xh (if pr = true ∧ i = 1 then dp else dp + 1) left t).1 = true then qac dp pr (i + 1) (xh (if pr = true ∧ i = 1 then dp else dp + 1) left t).2 ts else (false, (xh (if pr = true ∧ i = 1 then dp else dp + 1) left t).2)
end
mutual
def vq(p:Tr→Bool):Tr→Bool
  | .mk k n q s rl ts => p (.mk k n q s rl ts) && qec p ts
def qec(p:Tr→Bool):List Tr→Bool
  | [] => true
  | t :: ts => vq p t && qec p ts
end
mutual
def qjj(p:Tr→Bool)(dp left:Int):Tr→Int
  | .mk k n q s rl ts => if 200 < dp ∨ left ≤ 0 ∨ p (.mk k n q s rl ts) = false then -1 else qlj p dp (decide (k = 8)) 0 (left - 1) ts
def qlj(p:Tr→Bool)(dp:Int)(pr:Bool)(i:Nat)(left:Int):List Tr→Int
  | [] => left
  | t :: ts => if left < 0 then left else qlj p dp pr (i + 1) (qjj p (if pr = true ∧ i = 1 then dp else dp + 1) left t) ts
end
theorem quc{p:Tr→Bool}{dp left:Int}{pr:Bool}{i:Nat}{ts:List Tr}(h:left<0):qlj p dp pr i left ts=left:=by
  cases ts with
  | nil => rfl
  | cons t ts => rw [qlj, if_pos h]
def Agree(p:Tr→Bool)(t:Tr):Prop:=∀dp left:Int,0≤left→qjj p dp left t=if(xh dp left t).1=true∧vq p t=true then(xh dp left t).2 else -1
theorem qfi: ∀t:Tr,∀dp left:Int,(xh dp left t).1=true→0≤(xh dp left t).2:=by
  refine Tr.indT fun k n q s rl ts ih dp left h=>?_;rw[xh]at h ⊢;by_cases hc:left-1<0∨200<dp
  · rw[if_pos hc]at h; cases h
  · rw[if_neg hc]at h ⊢;have hl:0≤left-1:=(by omega);generalize left-1=m at h hl ⊢;generalize decide (k=8)=pr at h ⊢;have key:∀(us:List Tr),(∀t∈us,∀dp left:Int,(xh dp left t).1=true→0≤(xh dp left t).2)→∀(i:Nat) (m:Int),0≤m→(qac dp pr i m us).1=true→0≤(qac dp pr i m us).2:=by
      intro us
      induction us with
      | nil => intro _ i m hm _; exact hm
      | cons t us ih2 =>
        intro hu i m hm h;rw[qac]at h ⊢;by_cases ht:(xh (if pr=true∧i=1 then dp else dp+1) m t).1=true
        · rw[if_pos ht]at h ⊢;exact ih2 (fun x hx=>hu x (List.mem_cons_of_mem _ hx)) _ _ (hu t List.mem_cons_self _ _ ht) h
        · rw[if_neg ht]at h; cases h
    exact key ts ih 0 m hl h
theorem qzi(p:Tr→Bool):∀t:Tr,Agree p t:=by
  refine Tr.indT fun k n q s rl ts ih dp left h0=>?_;rw[qjj,xh,vq];by_cases hd:200<dp
  · rw[if_pos (.inl hd),if_pos (show left-1<0∨200<dp from .inr hd),if_neg (by simp)]
  · by_cases hl:left≤0
    · rw[if_pos (.inr (.inl hl)),if_pos (show left-1<0∨200<dp from .inl (by omega)),if_neg (by simp)]
    · rw[if_neg (show ¬(left-1<0∨200<dp)by omega)];cases hp:p (.mk k n q s rl ts)with
      | false => rw [if_pos (.inr (.inr rfl)), if_neg (by simp)]
      | true =>
        rw[if_neg (by simp; omega),Bool.true_and];have hm:0≤left-1:=(by omega);generalize left-1=m at hm ⊢;generalize decide (k=8)=pr;have key:∀(us:List Tr),(∀t∈us,Agree p t)→∀(i:Nat) (m:Int),0≤m→qlj p dp pr i m us=if(qac dp pr i m us).1=true∧qec p us=true then(qac dp pr i m us).2 else -1:=by
          intro us
          induction us with
          | nil => intro _ i m hm; rw [qlj, qac, qec, if_pos ⟨rfl, rfl⟩]
          | cons t us ih2 =>
            intro hu i m hm;rw[qlj,qac,qec,if_neg (by omega),hu t List.mem_cons_self _ _ hm];by_cases ht:(xh (if pr=true∧i=1 then dp else dp+1) m t).1=true
            · cases ha:vq p t with
              | false =>
                rw[if_neg (by simp),if_neg (by simp),quc (by decide)]
              | true =>
                rw[if_pos ⟨ht,rfl⟩,if_pos ht,Bool.true_and];exact ih2 (fun x hx=>hu x (List.mem_cons_of_mem _ hx)) _ _ (qfi t _ _ ht)
            · rw[if_neg (fun e=>ht e.1),if_neg ht,if_neg (by simp),quc (by decide)]
        exact key ts ih 0 m hm
def zg(p:Tr→Bool)(t:Tr):Bool:=(xh 1 20000 t).1&&vq p t
theorem zhe(p:Tr→Bool)(t:Tr):decide (0≤qjj p 1 20000 t)=zg p t:=by
  rw[qzi p t 1 20000 (by decide)];unfold zg;by_cases h:(xh 1 20000 t).1=true
  · cases ha:vq p t with
    | true =>
      rw[if_pos ⟨h,rfl⟩,h,Bool.and_self];exact decide_eq_true (qfi t _ _ h)
    | false => rw [if_neg (by simp), Bool.and_false]; rfl
  · rw[if_neg (fun e=>h e.1),Bool.eq_false_iff.2 h]; rfl
section
variable {P:Program} {w0 w:World} {L:List Ck} {l:List (Nat×Value)} {dst:Option Tmp} {ty:TypeId} {pos:String} {after:Array Edge} {guard:Option (Nat×Bool)} {v:Value}
theorem qfj(hM:Mg w0 w L){b o o' j:Nat}{cs:List Value}(hH:Here w0 b o cs){t:TypeId}(ht:Is1 P t){x:Operand}(hx:ev l x=some (.pointer (some ⟨b,o',none⟩)))(ho:o'=o+j)(hv:cs[j]?=some v):Does P l ⟨dst,.load t x,ty,pos,after,guard⟩ w v w:=by
  subst ho;exact xf hx (kj ht ((hM.bel.cell hH.1).trans (hH.2 j v hv)))
theorem je(hM:Mg w0 w L){b o n:Nat}{cs:List Value}(hH:Here w0 b o cs){t:TypeId}(ht:IsS P t n){x:Operand}(hx:ev l x=some (.pointer (some ⟨b,o,none⟩)))(hl:cs.length=n):Does P l ⟨dst,.load t x,ty,pos,after,guard⟩ w (.agg cs.toArray) w:=
  xf hx (ki ht cs hl (fun j v hj=>(hM.bel.cell hH.1).trans (hH.2 j v hj)))
theorem zi{t e:TypeId}{sz:Nat}(hu:P.underlying t=some (.slice e))(he:(P.info? e).map (·.size)=some sz){x i:Operand}{so:Option Addr}{g off n c k:Nat}{z:Int}(hx:ev l x=some (.slice so n c))(hi:ev l i=some (.int .i64 z))(hz:z=(k:Nat))(hso:so=some ⟨g,off,none⟩)(hk:k<n):
    Does P l ⟨dst,.indexAddr t x i,ty,pos,after,guard⟩ w (.pointer (some ⟨g,off+k*sz,none⟩)) w:=by
  subst hz hso;exact vf (l:=l) (dst:=dst) (ty:=ty) (pos:=pos) (after:=after) (guard:=guard) (w:=w) hx hi (que hu he hk)
end
theorem kid{w:World}{d:Nd}{ts:List Dt}(h:(Dt.mk d ts).rd w){i:Nat}(hi:i<ts.length):∃t b o,ts[i]?=some t∧t∈ts∧t.rd w∧d.lo=some ⟨b,o,none⟩∧Here w b (o+i*11) t.cells:=by
  rw[Dt.rd_iff]at h;have hne:ts≠[]:=fun e=>by subst e; simp at hi
  obtain⟨b,o,e,h2⟩:=h.2.2.2.1 hne;have ht:=List.getElem?_eq_getElem hi;exact⟨ts[i],b,o,ht,List.getElem_mem hi,h.2.2.2.2 _ (List.getElem_mem hi),e,h2 i _ ht⟩
theorem uu{ts:List Dt}{i:Nat}{t:Dt}(h:ts[i]?=some t):(ts.map Dt.tr).drop i=t.tr::(ts.map Dt.tr).drop (i+1):=by
  obtain⟨hi,rfl⟩:=List.getElem?_eq_some_iff.1 h;rw[List.drop_eq_getElem_cons (by simpa using hi)];simp
theorem qed{ts:List Dt}{i:Nat}(h:¬i<ts.length):(ts.map Dt.tr).drop i=[]:=List.drop_of_length_le (by simp; omega)
theorem zdi: ∀t:Tr,∀dp left:Int,(xh dp left t).2≤left:=by
  refine Tr.indT fun k n q s rl ts ih dp left=>?_;rw[xh]
  split
  · show left-1≤left; omega
  · have key:∀(us:List Tr),(∀t∈us,∀dp left:Int,(xh dp left t).2≤left)→∀(i:Nat) (m:Int),(qac dp (decide (k=8)) i m us).2≤m:=by
      intro us
      induction us with
      | nil => intro _ i m; exact Int.le_refl _
      | cons t us ih2 =>
        intro hu i m;rw[qac];generalize (if decide (k=8)=true∧i=1 then dp else dp+1)=D;have h1:=hu t List.mem_cons_self D m
        split
        · exact Int.le_trans (ih2 (fun x hx=>hu x (List.mem_cons_of_mem _ hx)) _ _) h1
        · exact h1
    have:=key ts ih 0 (left-1);omega
theorem zdj{dp m D:Int}{pr:Bool}{i:Nat}{ts:List Dt}{t:Dt}(hi:ts[i]?=some t)(hD:(if pr=true∧i=1 then dp else dp+1)=D)(h:(xh D m t.tr).1=true):qac dp pr i m ((ts.map Dt.tr).drop i)=qac dp pr (i+1) (xh D m t.tr).2 ((ts.map Dt.tr).drop (i+1)):=by
  rw[uu hi,qac,hD,if_pos h]
theorem qoe{dp m D:Int}{pr:Bool}{i:Nat}{ts:List Dt}{t:Dt}(hi:ts[i]?=some t)(hD:(if pr=true∧i=1 then dp else dp+1)=D)(h:(xh D m t.tr).1=false):qac dp pr i m ((ts.map Dt.tr).drop i)=(false,(xh D m t.tr).2):=by
  rw[uu hi,qac,hD,if_neg (by rw[h]; decide)]
theorem qsc{dp left:Int}{d:Nd}{ts:List Dt}(h1:¬left-1<0)(h2:¬200<dp):xh dp left (Dt.mk d ts).tr=qac dp (decide (d.k=8)) 0 (left-1) ((ts.map Dt.tr).drop 0):=by
  rw[Dt.tr_mk,xh,if_neg (by omega),List.drop_zero]
theorem zti{dp left:Int}{d:Nd}{ts:List Dt}(h:left-1<0∨200<dp):xh dp left (Dt.mk d ts).tr=(false,left-1):=by
  rw[Dt.tr_mk,xh,if_pos h]
theorem qsd{p:Tr→Bool}{d:Nd}{ts:List Dt}:vq p (Dt.mk d ts).tr=(p (Dt.mk d ts).tr&&qec p ((ts.map Dt.tr).drop 0)):=by
  rw[Dt.tr_mk,vq,List.drop_zero]
theorem ztj{p:Tr→Bool}{i:Nat}{ts:List Dt}{t:Dt}(hi:ts[i]?=some t):qec p ((ts.map Dt.tr).drop i)=(vq p t.tr&&qec p ((ts.map Dt.tr).drop (i+1))):=by
  rw[uu hi,qec]
theorem zua{p:Tr→Bool}{dp left:Int}{d:Nd}{ts:List Dt}(h1:¬200<dp)(h2:¬left≤0)(h3:p (Dt.mk d ts).tr=true):qjj p dp left (Dt.mk d ts).tr=qlj p dp (decide (d.k=8)) 0 (left-1) ((ts.map Dt.tr).drop 0):=by
  rw[Dt.tr_mk]at h3 ⊢;rw[qjj,if_neg (by rw[h3]; simp; omega),List.drop_zero]
theorem zea{p:Tr→Bool}{dp left:Int}{d:Nd}{ts:List Dt}(h:200<dp∨left≤0∨p (Dt.mk d ts).tr=false):qjj p dp left (Dt.mk d ts).tr=-1:=by
  rw[Dt.tr_mk]at h ⊢;rw[qjj,if_pos h]
theorem zeb{p:Tr→Bool}{dp m D:Int}{pr:Bool}{i:Nat}{ts:List Dt}{t:Dt}(hi:ts[i]?=some t)(hm:¬m<0)(hD:(if pr=true∧i=1 then dp else dp+1)=D):qlj p dp pr i m ((ts.map Dt.tr).drop i)=qlj p dp pr (i+1) (qjj p D m t.tr) ((ts.map Dt.tr).drop (i+1)):=by
  rw[uu hi,qlj,if_neg hm,hD]
theorem zpa(p:Tr→Bool)(t:Tr)(dp left:Int)(h:0≤left):-1≤qjj p dp left t∧qjj p dp left t≤left:=by
  rw[qzi p t dp left h]
  split
  · rename_i hc;exact⟨by have:=qfi t _ _ hc.1; omega,zdi t _ _⟩
  · exact⟨by omega,by omega⟩
def yt(b:Bool)(m m':Nat):Bool:=!b&&(decide (m=0)&&decide (m'=0))
def kt(n:Int)(b1:Bool)(m1 m2:Nat)(b2:Bool)(m3 m4:Nat)(s:ByteArray)(mr ml:Nat):Bool:=decide (n=0)&&(yt b1 m1 m2&&(yt b2 m3 m4&&(decide (s=⟨#[]⟩)&&(decide (mr=0)&&decide (ml=0)))))
def uw(n:Int):Bool:=decide (0≤n∧n≤1114111∧(n<55296∨57343<n))
def okS(s:ByteArray):Bool:=Lib.validD s.data.toList
def jv(k n:Int)(q:Q6)(s:ByteArray)(mr ml:Nat):Bool:=
  if k=1∨k=10 then kt n q.b1 q.t1.length q.q1.length q.b2 q.t2.length q.q2.length s mr ml
  else if k=2 then decide (n=0∨n=1)&&kt 0 q.b1 q.t1.length q.q1.length q.b2 q.t2.length q.q2.length s mr ml
  else if k=3 then xi q&&kt n false 0 0 false 0 0 s mr ml
  else if k=4 then uw n&&kt 0 q.b1 q.t1.length q.q1.length q.b2 q.t2.length q.q2.length s mr ml
  else if k=5∨k=6∨k=11 then okS s&&kt n q.b1 q.t1.length q.q1.length q.b2 q.t2.length q.q2.length ⟨#[]⟩ mr ml
  else if k=7 then kt n q.b1 q.t1.length q.q1.length q.b2 q.t2.length q.q2.length s 0 ml
  else if k=8 then decide (ml=2)&&kt n q.b1 q.t1.length q.q1.length q.b2 q.t2.length q.q2.length s mr 0
  else if k=9 then kt n q.b1 q.t1.length q.q1.length q.b2 q.t2.length q.q2.length s mr 0
  else false
def qt: Tr→Bool
  | .mk k n q s rl ts => jv k n q s rl.length ts.length
theorem uh{d:Nd}{ts:List Dt}:qt (Dt.mk d ts).tr=jv d.k d.n d.y.q d.s d.rl.length ts.length:=by
  rw[Dt.tr_mk,qt,List.length_map]
mutual
def Tr.bulk: Tr→Nat
  | .mk _ _ q s rl ts => s.size + rl.length + (q.t1.length + q.q1.length + (q.t2.length + q.q2.length)) + 1 + Tr.bulks ts
def Tr.bulks: List Tr→Nat
  | [] => 0
  | t :: ts => t.bulk + Tr.bulks ts
end
theorem kx{k n:Int}{q:Q6}{s:ByteArray}{rl:List UInt8}{ts:List Tr}:(Tr.mk k n q s rl ts).bulk=s.size+rl.length+(q.t1.length+q.q1.length+(q.t2.length+q.q2.length))+1+Tr.bulks ts:=by rw[Tr.bulk]
theorem qee: ∀{ts:List Tr} {t:Tr},t∈ts→t.bulk≤Tr.bulks ts
  | u :: us, t, h => by
    rw[Tr.bulks];rcases List.mem_cons.1 h with e | e
    · subst e; omega
    · have:=qee e; omega
theorem qmd{d:Nd}{ts:List Dt}{t:Dt}(h:t∈ts):t.tr.bulk+d.s.size+1≤(Dt.mk d ts).tr.bulk:=by
  rw[Dt.tr_mk,kx];have:=qee (List.mem_map_of_mem (f:=Dt.tr) h);omega
theorem qof{d:Nd}{ts:List Dt}:d.s.size≤(Dt.mk d ts).tr.bulk:=by
  rw[Dt.tr_mk,kx];omega
open Go.RowKit Go.Lib
def xe(a b:Int):Int:=if a<b then -1 else if b<a then 1 else 0
def lex(x y:Int):Int:=if x=0 then y else x
def zed(p q:Q6):Int:=lex (vt (reQ p) (reQ q)) (vt (imQ p) (imQ q))
def qrh(k n m:Int)(p q:Q6)(s t:ByteArray)(rl rm:List UInt8):Int:=if k=3 then zed p q else if k=5∨k=6∨k=11 then compareBytes s.data.toList t.data.toList else if k=7 then compareBytes rl rm else xe n m
mutual
def vn: Tr→Tr→Int
  | .mk k n q s rl ts, u => lex (xe k u.k) (if k = 8 ∨ k = 9 then lex (xe (ts.length : Int) (u.ts.length : Int)) (kv ts u.ts) else qrh k n u.n q u.q s u.s rl u.rl)
def kv: List Tr→List Tr→Int
  | [], _ => 0
  | _ :: _, [] => 0
  | t :: ts, u :: us => lex (vn t u) (kv ts us)
end
def J3(x y z:Int):Prop:=(x≤0→y≤0→z≤0)∧(x<0→y≤0→z<0)∧(x≤0→y<0→z<0)∧(x=0→y=0→z=0)
theorem J3.lex{x1 y1 z1 x2 y2 z2:Int}(h:J3 x1 y1 z1)(k:x1=0→y1=0→J3 x2 y2 z2):J3 (lex x1 x2) (lex y1 y2) (lex z1 z2):=by
  unfold G.lex;obtain⟨a,b,c,d⟩:=h;by_cases hx:x1=0
  · by_cases hy:y1=0
    · have hz:=d hx hy;rw[if_pos hx,if_pos hy,if_pos hz];exact k hx hy
    · rw[if_pos hx,if_neg hy];by_cases hz:z1=0
      · have h1:0<y1:=by
          apply Classical.byContradiction;intro h;have:=c (by omega) (by omega);omega
        exact⟨fun _ _=>by omega,fun _ _=>by omega,fun _ _=>by omega,fun _ _=>by omega⟩
      · rw[if_neg hz];exact⟨fun _ _=>a (by omega) (by omega),fun _ _=>c (by omega) (by omega),fun _ _=>c (by omega) (by omega),fun _ _=>by omega⟩
  · rw[if_neg hx];by_cases hy:y1=0
    · rw[if_pos hy];by_cases hz:z1=0
      · have h1:0<x1:=by
          apply Classical.byContradiction;intro h;have:=b (by omega) (by omega);omega
        exact⟨fun _ _=>by omega,fun _ _=>by omega,fun _ _=>by omega,fun _ _=>by omega⟩
      · rw[if_neg hz];exact⟨fun _ _=>a (by omega) (by omega),fun _ _=>b (by omega) (by omega),fun _ _=>b (by omega) (by omega),fun _ _=>by omega⟩
    · rw[if_neg hy];by_cases hz:z1=0
      · rw[if_pos hz];exact⟨fun _ _=>by have:=b (by omega) (by omega); omega,fun _ _=>by have:=b (by omega) (by omega); omega,fun _ _=>by have:=b (by omega) (by omega); omega,fun _ _=>by omega⟩
      · rw[if_neg hz]; exact⟨a,b,c,fun _ _=>by omega⟩
theorem J3_int(a b c:Int):J3 (xe a b) (xe b c) (xe a c):=by
  unfold xe J3;refine⟨?_,?_,?_,?_⟩<;>repeat' split<;>omega
theorem qij(a b:Int):xe b a=-xe a b:=by unfold xe; repeat' split<;>omega
theorem kl{a b:Int}(h:xe a b=0):a=b:=by
  unfold xe at h
  split at h
  · exact absurd h (by decide)
  · split at h
    · exact absurd h (by decide)
    · omega
theorem qmf{x y x' y':Int}(h:x'=-x)(k:y'=-y):lex x' y'=-lex x y:=by
  unfold lex;subst h k;by_cases hx:x=0
  · rw[if_pos hx,if_pos (by omega)]
  · rw[if_neg hx,if_neg (by omega)]
theorem zad{x y:Rat}(h:vt x y=0):x=y:=by
  unfold vt at h
  split at h
  · exact absurd h (by decide)
  · split at h
    · assumption
    · exact absurd h (by decide)
theorem zee{x y:Rat}:vt x y≤0↔x≤y:=by
  unfold vt;by_cases h1:x<y
  · rw[if_pos h1]; exact⟨fun _=>Rat.le_of_lt h1,fun _=>by decide⟩
  · rw[if_neg h1];by_cases h2:x=y
    · rw[if_pos h2]; exact⟨fun _=>by rw[h2]; exact Rat.le_refl,fun _=>by decide⟩
    · rw[if_neg h2];refine⟨fun h=>absurd h (by decide),fun h=>?_⟩;exact absurd (Rat.lt_of_le_of_ne h h2) h1
theorem zia{x y:Rat}:vt x y<0↔x<y:=⟨jcg,jka⟩
theorem J3_rat(a b c:Rat):J3 (vt a b) (vt b c) (vt a c):=by
  refine⟨fun h k=>?_,fun h k=>?_,fun h k=>?_,fun h k=>?_⟩
  · rw[zee]at *; exact Rat.le_trans h k
  · rw[zia]at *; rw[zee]at k; grind
  · rw[zia]at *; rw[zee]at h; grind
  · have e1:=zad h;have e2:=zad k;subst e1 e2;exact h
theorem zae(a b:Rat):vt b a=-vt a b:=zxd b a
theorem J3_bytes: ∀a b c:List UInt8,J3 (compareBytes a b) (compareBytes b c) (compareBytes a c)
  | [], [], [] => by simp [compareBytes, J3]
  | [], [], _ :: _ => by simp [compareBytes, J3]
  | [], _ :: _, [] => by simp [compareBytes, J3]
  | [], _ :: _, _ :: _ => by simp [compareBytes, J3]
  | _ :: _, [], [] => by simp [compareBytes, J3]
  | _ :: _, [], _ :: _ => by simp [compareBytes, J3]
  | _ :: _, _ :: _, [] => by
    simp only[compareBytes,J3];refine⟨fun _ k=>by omega,fun _ k=>by omega,fun _ k=>by omega,fun _ k=>by omega⟩
  | x :: a, y :: b, z :: c => by
    have e:∀(x y:UInt8) (a b:List UInt8),compareBytes (x::a) (y::b)=lex (xe x.toNat y.toNat) (compareBytes a b):=by
      intro x y a b;show(if x<y then(-1:Int)else if y<x then 1 else compareBytes a b)=_;unfold lex xe;simp only[UInt8.lt_iff_toNat_lt];by_cases h1:x.toNat<y.toNat
      · rw[if_pos h1,if_pos (by omega:(x.toNat:Int)<y.toNat)]; rfl
      · rw[if_neg h1,if_neg (by omega:¬(x.toNat:Int)<y.toNat)];by_cases h2:y.toNat<x.toNat
        · rw[if_pos h2,if_pos (by omega:(y.toNat:Int)<x.toNat)]; rfl
        · rw[if_neg h2,if_neg (by omega:¬(y.toNat:Int)<x.toNat)]; rfl
    rw[e,e,e];exact(J3_int _ _ _).lex fun _ _=>J3_bytes a b c
theorem qkd: ∀a b:List UInt8,compareBytes b a=-compareBytes a b
  | [], [] => rfl
  | [], _ :: _ => rfl
  | _ :: _, [] => rfl
  | x :: a, y :: b => by
    show(if y<x then(-1:Int)else if x<y then 1 else compareBytes b a)=-(if x<y then(-1:Int)else if y<x then 1 else compareBytes a b);have ih:=qkd a b;simp only[UInt8.lt_iff_toNat_lt];by_cases h1:x.toNat<y.toNat
    · rw[if_pos h1,if_neg (by omega),if_pos h1]; rfl
    · by_cases h2:y.toNat<x.toNat
      · rw[if_pos h2,if_neg h1,if_pos h2]
      · rw[if_neg h2,if_neg h1,if_neg h1,if_neg h2,ih]
theorem zxe(k n m:Int)(p q:Q6)(s t:ByteArray)(rl rm:List UInt8):qrh k m n q p t s rm rl=-qrh k n m p q s t rl rm:=by
  unfold qrh
  split
  · exact qmf (zae _ _) (zae _ _)
  · split
    · exact qkd _ _
    · split
      · exact qkd _ _
      · exact qij _ _
theorem J3_K(k n1 n2 n3:Int)(q1 q2 q3:Q6)(s1 s2 s3:ByteArray)(r1 r2 r3:List UInt8):J3 (qrh k n1 n2 q1 q2 s1 s2 r1 r2) (qrh k n2 n3 q2 q3 s2 s3 r2 r3) (qrh k n1 n3 q1 q3 s1 s3 r1 r3):=by
  unfold qrh
  split
  · exact(J3_rat _ _ _).lex fun _ _=>J3_rat _ _ _
  · split
    · exact J3_bytes _ _ _
    · split
      · exact J3_bytes _ _ _
      · exact J3_int _ _ _
theorem qgd(k n:Int)(q:Q6)(s:ByteArray)(rl:List UInt8)(ts:List Tr)(k' n':Int)(q':Q6)(s':ByteArray)(rl':List UInt8)(ts':List Tr):
    vn (.mk k n q s rl ts) (.mk k' n' q' s' rl' ts')=lex (xe k k') (if k=8∨k=9 then lex (xe (ts.length:Int) (ts'.length:Int)) (kv ts ts')else qrh k n n' q q' s s' rl rl'):=by
  rw[vn]; rfl
theorem zxf{ts:List Tr}(h:∀t∈ts,∀u,vn u t=-vn t u):∀us,kv us ts=-kv ts us:=by
  induction ts with
  | nil => intro us; cases us <;> simp [kv]
  | cons t ts ih =>
    intro us;cases us with
    | nil => simp [kv]
    | cons u us =>
      rw[kv,kv];exact qmf (h t List.mem_cons_self u) (ih (fun x hx=>h x (List.mem_cons_of_mem _ hx)) us)
theorem qja: ∀t u:Tr,vn u t=-vn t u:=by
  refine Tr.indT fun k n q s rl ts ih u=>?_;obtain⟨k',n',q',s',rl',ts'⟩:=u;rw[qgd,qgd];by_cases hk:k=k'
  · subst hk;refine qmf (qij _ _) ?_
    split
    · exact qmf (qij _ _) (zxf ih ts')
    · exact zxe _ _ _ _ _ _ _ _ _
  · have h1:=qij k k';have h2:xe k k'≠0:=fun e=>hk (kl e);unfold lex;rw[if_neg h2,if_neg (by omega),h1]
theorem J3_L{ts:List Tr}(h:∀t∈ts,∀u v,J3 (vn t u) (vn u v) (vn t v)):∀us vs:List Tr,ts.length=us.length→us.length=vs.length→J3 (kv ts us) (kv us vs) (kv ts vs):=by
  induction ts with
  | nil =>
    intro us vs h1 h2;cases us with
    | nil => simp [kv, J3]
    | cons u us => simp at h1
  | cons t ts ih =>
    intro us vs h1 h2;cases us with
    | nil => simp at h1
    | cons u us =>
      cases vs with
      | nil => simp at h2
      | cons v vs =>
        rw[kv,kv,kv];exact(h t List.mem_cons_self u v).lex fun _ _=>ih (fun x hx=>h x (List.mem_cons_of_mem _ hx)) us vs (by simpa using h1) (by simpa using h2)
theorem J3_T: ∀t u v:Tr,J3 (vn t u) (vn u v) (vn t v):=by
  refine Tr.indT fun k n q s rl ts ih u v=>?_;obtain⟨k1,n1,q1,s1,rl1,ts1⟩:=u;obtain⟨k2,n2,q2,s2,rl2,ts2⟩:=v;rw[qgd,qgd,qgd];refine(J3_int k k1 k2).lex fun h1 h2=>?_;have e1:=kl h1;have e2:=kl h2;subst e1 e2;by_cases hk:k=8∨k=9
  · simp only[if_pos hk];refine(J3_int _ _ _).lex fun h3 h4=>?_;have e3:=kl h3;have e4:=kl h4;exact J3_L ih ts1 ts2 (by omega) (by omega)
  · simp only[if_neg hk];exact J3_K _ _ _ _ _ _ _ _ _ _ _ _ _
def Q6.none: Q6:=⟨false,[],[],false,[],[]⟩
def zef(q:Q6):Prop:=∃u v,q=Q6.rat u v∧vh u∧vh v
theorem zib{b:Bool}{t u:List Nat}(h:yt b t.length u.length=true):b=false∧t=[]∧u=[]:=by
  unfold yt at h;cases b<;>simp at h
  exact⟨rfl,h.1,h.2⟩
theorem yk{n:Int}{q:Q6}{s:ByteArray}{mr ml:Nat}(h:kt n q.b1 q.t1.length q.q1.length q.b2 q.t2.length q.q2.length s mr ml=true):n=0∧q=Q6.none∧s=⟨#[]⟩∧mr=0∧ml=0:=by
  unfold kt at h;simp only[Bool.and_eq_true,decide_eq_true_eq]at h;obtain⟨h1,h2,h3,h4,h5,h6⟩:=h;obtain⟨a1,a2,a3⟩:=zib h2;obtain⟨b1,b2,b3⟩:=zib h3;refine⟨h1,?_,h4,h5,h6⟩;cases q
  simp only at a1 a2 a3 b1 b2 b3;subst a1 a2 a3 b1 b2 b3;rfl
structure Bare(k n:Int)(q:Q6)(s:ByteArray)(mr ml:Nat):Prop where
  hn:k≠2→k≠4→n=0
  hq:k≠3→q=Q6.none
  hs:k≠5→k≠6→k≠11→s=⟨#[]⟩
  hr:k≠7→mr=0
  hl:k≠8→k≠9→ml=0
  h8:k=8→ml=2
  h3:k=3→xi q=true
  h0:1≤k
  h1:k≤11
  h2:k=2→n=0∨n=1
  h4:k=4→uw n=true
  h5:k=5∨k=6∨k=11→okS s=true
theorem zpc{k n:Int}{q:Q6}{s:ByteArray}{mr ml:Nat}(h:jv k n q s mr ml=true):Bare k n q s mr ml:=by
  unfold jv at h
  split at h
  · rename_i hk;obtain⟨a,b,c,d,e⟩:=yk h;exact⟨fun _ _=>a,fun _=>b,fun _ _ _=>c,fun _=>d,fun _ _=>e,fun _=>by omega,fun _=>by omega,by omega,by omega,fun _=>by omega,fun _=>by omega,fun _=>by omega⟩
  · split at h
    · rename_i hk;simp only[Bool.and_eq_true,decide_eq_true_eq]at h;obtain⟨a,b,c,d,e⟩:=yk h.2;exact⟨fun _ _=>by omega,fun _=>b,fun _ _ _=>c,fun _=>d,fun _ _=>e,fun _=>by omega,fun _=>by omega,by omega,by omega,fun _=>h.1,fun _=>by omega,fun _=>by omega⟩
    · split at h
      · rename_i hk;simp only[Bool.and_eq_true]at h;obtain⟨a,b,c,d,e⟩:=yk (q:=Q6.none) h.2;exact⟨fun _ _=>a,fun _=>by omega,fun _ _ _=>c,fun _=>d,fun _ _=>e,fun _=>by omega,fun _=>h.1,by omega,by omega,fun _=>by omega,fun _=>by omega,fun _=>by omega⟩
      · split at h
        · rename_i hk;simp only[Bool.and_eq_true]at h;obtain⟨a,b,c,d,e⟩:=yk h.2;exact⟨fun _ _=>by omega,fun _=>b,fun _ _ _=>c,fun _=>d,fun _ _=>e,fun _=>by omega,fun _=>by omega,by omega,by omega,fun _=>by omega,fun _=>h.1,fun _=>by omega⟩
        · split at h
          · rename_i hk;simp only[Bool.and_eq_true]at h;obtain⟨a,b,c,d,e⟩:=yk h.2;exact⟨fun _ _=>a,fun _=>b,fun _ _ _=>by omega,fun _=>d,fun _ _=>e,fun _=>by omega,fun _=>by omega,by omega,by omega,fun _=>by omega,fun _=>by omega,fun _=>h.1⟩
          · split at h
            · rename_i hk;obtain⟨a,b,c,d,e⟩:=yk h;exact⟨fun _ _=>a,fun _=>b,fun _ _ _=>c,fun _=>by omega,fun _ _=>e,fun _=>by omega,fun _=>by omega,by omega,by omega,fun _=>by omega,fun _=>by omega,fun _=>by omega⟩
            · split at h
              · rename_i hk;simp only[Bool.and_eq_true,decide_eq_true_eq]at h;obtain⟨a,b,c,d,e⟩:=yk h.2;exact⟨fun _ _=>a,fun _=>b,fun _ _ _=>c,fun _=>d,fun _ _=>by omega,fun _=>h.1,fun _=>by omega,by omega,by omega,fun _=>by omega,fun _=>by omega,fun _=>by omega⟩
              · split at h
                · rename_i hk;obtain⟨a,b,c,d,e⟩:=yk h;exact⟨fun _ _=>a,fun _=>b,fun _ _ _=>c,fun _=>d,fun _ _=>by omega,fun _=>by omega,fun _=>by omega,by omega,by omega,fun _=>by omega,fun _=>by omega,fun _=>by omega⟩
                · cases h
mutual
def Tr.good: Tr→Prop
  | .mk k n q s rl ts => Bare k n q s rl.length ts.length ∧ (k = 3 → zef q) ∧ Tr.goods ts
def Tr.goods: List Tr→Prop
  | [] => True
  | t :: ts => t.good ∧ Tr.goods ts
end
theorem zaf: ∀{ts:List Tr},Tr.goods ts↔∀t∈ts,t.good
  | [] => by simp [Tr.goods]
  | t :: ts => by simp [Tr.goods, zaf (ts := ts)]
theorem zud{k n:Int}{q:Q6}{s:ByteArray}{rl:List UInt8}{ts:List Tr}:(Tr.mk k n q s rl ts).good↔Bare k n q s rl.length ts.length∧(k=3→zef q)∧∀t∈ts,t.good:=by
  rw[←zaf]; unfold Tr.good; exact Iff.rfl
theorem zic{p:Tr→Bool}:∀{ts:List Tr},qec p ts=true→∀t∈ts,vq p t=true
  | [], _, t, ht => by cases ht
  | u :: us, h, t, ht => by
    rw[qec,Bool.and_eq_true]at h;rcases List.mem_cons.1 ht with e | e
    · subst e; exact h.1
    · exact zic h.2 t e
theorem Dt.good{w:World}:∀t:Dt,t.rd w→vq qt t.tr=true→t.tr.good:=by
  refine Dt.indT fun d ts ih hrd ha=>?_;rw[qsd,uh,Bool.and_eq_true]at ha;have hok:=Dt.rd_iff.1 hrd;rw[Dt.tr_mk,zud];have hb:=zpc ha.1;refine⟨by rw[List.length_map]; exact hb,fun hk=>?_,fun t ht=>?_⟩
  · rcases zhj hok.1.num with h | h
    · rw[hb.h3 hk]at h; cases h
    · exact h
  · obtain⟨u,hu,rfl⟩:=List.mem_map.1 ht;refine ih u hu (hok.2.2.2.2 u hu) ?_;exact zic (ts:=ts.map Dt.tr) (by simpa using ha.2) _ ht
theorem Dt.eta(t:Dt):Dt.mk t.d t.ts=t:=by cases t; rfl
theorem Dt.tr_eta(t:Dt):t.tr=.mk t.d.k t.d.n t.d.y.q t.d.s t.d.rl (t.ts.map Dt.tr):=by rw[←Dt.tr_mk,Dt.eta]
theorem qch{w:World}{t:Dt}(h:t.rd w){i:Nat}(hi:i<t.ts.length):∃t1 b o,t.ts[i]?=some t1∧t1∈t.ts∧t1.rd w∧t.d.lo=some ⟨b,o,none⟩∧Here w b (o+i*11) (t1.d.cells t1.ts.length):=kid (d:=t.d) (by rw[Dt.eta]; exact h) hi
theorem Dt.okT{w:World}{t:Dt}(h:t.rd w):NdOk w t.d∧t.ts.length≤9223372036854775807:=by
  rw[←Dt.eta t,Dt.rd_iff]at h;exact⟨h.1,Nat.le_trans h.2.1 h.2.2.1⟩
theorem ju{t:Dt}(h:t.tr.good):Bare t.d.k t.d.n t.d.y.q t.d.s t.d.rl.length t.ts.length∧(t.d.k=3→zef t.d.y.q)∧∀c∈t.ts,c.tr.good:=by
  rw[Dt.tr_eta,zud,List.length_map]at h;exact⟨h.1,h.2.1,fun c hc=>h.2.2 _ (List.mem_map_of_mem hc)⟩
theorem ue{t c:Dt}(h:c∈t.ts):c.tr.bulk+t.d.s.size+1≤t.tr.bulk:=by
  have:=qmd (d:=t.d) h
  rwa [Dt.eta]at this
theorem jci{α:Type}{l:List α}(h:l.length=2){a b:α}(h0:l[0]?=some a)(h1:l[1]?=some b):l=[a,b]:=by
  match l,h with
  | [x, y], _ => simp at h0 h1; rw [h0, h1]
theorem quh{p r:Dt}(h:p.d.k≠r.d.k):vn p.tr r.tr=xe p.d.k r.d.k:=by
  rw[Dt.tr_eta p,Dt.tr_eta r,qgd];unfold lex;rw[if_neg (fun e=>h (kl e))]
theorem qbg(a:Int):xe a a=0:=by unfold xe; rw[if_neg (by omega),if_neg (by omega)]
theorem qui{p r:Dt}(h:p.d.k=r.d.k):vn p.tr r.tr=if p.d.k=8∨p.d.k=9 then lex (xe (p.ts.length:Int) (r.ts.length:Int)) (kv (p.ts.map Dt.tr) (r.ts.map Dt.tr))else qrh p.d.k p.d.n r.d.n p.d.y.q r.d.y.q p.d.s r.d.s p.d.rl r.d.rl:=by
  rw[Dt.tr_eta p,Dt.tr_eta r,qgd,←h,qbg,List.length_map,List.length_map];rfl
theorem jcj{p r p0 p1 r0 r1:Dt}(h1:p.d.k=8)(h2:r.d.k=8)(l1:p.ts.length=2)(l2:r.ts.length=2)(a0:p.ts[0]?=some p0)(a1:p.ts[1]?=some p1)(b0:r.ts[0]?=some r0)(b1:r.ts[1]?=some r1):vn p.tr r.tr=lex (vn p0.tr r0.tr) (vn p1.tr r1.tr):=by
  rw[qui (by omega),if_pos (.inl h1),l1,l2,jci l1 a0 a1,jci l2 b0 b1];simp only[List.map_cons,List.map_nil,kv,qbg];show lex _ (lex _ 0)=_;generalize vn p1.tr r1.tr=z;have:lex z 0=z:=by unfold lex; split<;>omega
  rw[this]
theorem qmg(y:Int):lex 0 y=y:=rfl
theorem qmh{x y:Int}(h:x≠0):lex x y=x:=if_neg h
theorem qjb{ts us:List Dt}{i:Nat}{t u:Dt}(hi:ts[i]?=some t)(hj:us[i]?=some u):kv ((ts.map Dt.tr).drop i) ((us.map Dt.tr).drop i)=lex (vn t.tr u.tr) (kv ((ts.map Dt.tr).drop (i+1)) ((us.map Dt.tr).drop (i+1))):=by
  rw[uu hi,uu hj,kv]
theorem quj{ts us:List Dt}{i:Nat}(h:¬i<ts.length):kv ((ts.map Dt.tr).drop i) ((us.map Dt.tr).drop i)=0:=by
  rw[qed h,kv]
theorem qba{p r:Dt}(hp:p.tr.good)(hr:r.tr.good)(h:p.d.k=r.d.k)(h8:p.d.k≠8):vn p.tr r.tr=if p.d.k=2∨p.d.k=4 then xe p.d.n r.d.n else if p.d.k=3 then zed p.d.y.q r.d.y.q else if p.d.k=5∨p.d.k=6∨p.d.k=11 then compareBytes p.d.s.data.toList r.d.s.data.toList else if p.d.k=7 then compareBytes p.d.rl r.d.rl else if p.d.k=9 then lex (xe (p.ts.length:Int) (r.ts.length:Int)) (kv (p.ts.map Dt.tr) (r.ts.map Dt.tr))else 0:=by
  rw[qui h];by_cases h9:p.d.k=9
  · rw[if_pos (.inr h9),if_neg (by omega),if_neg (by omega),if_neg (by omega),if_neg (by omega),if_pos h9]
  · rw[if_neg (by omega)];unfold qrh;by_cases h3:p.d.k=3
    · rw[if_pos h3,if_neg (by omega),if_pos h3]
    · rw[if_neg h3];by_cases h5:p.d.k=5∨p.d.k=6∨p.d.k=11
      · rw[if_pos h5,if_neg (by omega),if_neg h3,if_pos h5]
      · rw[if_neg h5];by_cases h7:p.d.k=7
        · rw[if_pos h7,if_neg (by omega),if_neg h3,if_neg h5,if_pos h7]
        · rw[if_neg h7];by_cases h2:p.d.k=2∨p.d.k=4
          · rw[if_pos h2]
          · rw[if_neg h2,if_neg h3,if_neg h5,if_neg h7,if_neg h9,(ju hp).1.hn (by omega) (by omega),(ju hr).1.hn (by omega) (by omega)];rfl
def zxg(t u:Tr):Int:=if zg qt t=true∧zg qt u=true then vn t u else 0
theorem zue{t u:Tr}(h1:zg qt t=true)(h2:zg qt u=true):zxg t u=vn t u:=if_pos ⟨h1,h2⟩
def hw(h n:Int):Int:=bits .xor .u64 (IntKind.u64.wrap (bits .xor .u64 h n*1099511628211)) (IntKind.u64.wrap (bits .xor .u64 h n*1099511628211) / 2^32)
theorem qsg{w:World}{t:Dt}(ht:t.rd w)(h:zg qt t.tr=true):t.tr.good:=by
  unfold zg at h;rw[Bool.and_eq_true]at h;exact Dt.good t ht h.2
theorem jkb{a b:Bool}(h:(a&&b)=false):¬(a=true∧b=true):=by cases a<;>cases b<;>simp_all
theorem zeg{a b:Bool}(h:(a&&b)=true):a=true∧b=true:=by cases a<;>cases b<;>simp_all
def In{α:Type}(p:Nat→Prop)(so:Option Addr)(l:List α):Prop:=l≠[]→∀b o,so=some ⟨b,o,none⟩→p b
theorem In.mono{α:Type}{p q:Nat→Prop}{so:Option Addr}{l:List α}(h:In p so l)(hp:∀b,p b→q b):In q so l:=fun hne b o e=>hp b (h hne b o e)
structure Nd.at_(p:Nat→Prop)(d:Nd):Prop where
 i1:In p d.y.o1 d.y.q.t1
 i2:In p d.y.o2 d.y.q.q1
 i3:In p d.y.o3 d.y.q.t2
 i4:In p d.y.o4 d.y.q.q2
 i5:In p d.ro d.rl
mutual
def Dt.at_(p:Nat→Prop):Dt→Prop
 | .mk d ts => d.at_ p ∧ In p d.lo ts ∧ Dt.ats p ts
def Dt.ats(p:Nat→Prop):List Dt→Prop
 | [] => True
 | t :: ts => t.at_ p ∧ Dt.ats p ts
end
theorem Dt.ats_iff{p:Nat→Prop}:∀{ts:List Dt},Dt.ats p ts↔∀t∈ts,t.at_ p
 | [] => by simp [Dt.ats]
 | t :: ts => by simp [Dt.ats, Dt.ats_iff (ts := ts)]
theorem Dt.at_iff{p:Nat→Prop}{d:Nd}{ts:List Dt}:(Dt.mk d ts).at_ p↔d.at_ p∧In p d.lo ts∧∀t∈ts,t.at_ p:=by
 rw[←Dt.ats_iff]; unfold Dt.at_; exact Iff.rfl
theorem Nd.at_mono{p q:Nat→Prop}{d:Nd}(h:d.at_ p)(hp:∀b,p b→q b):d.at_ q:=⟨h.i1.mono hp,h.i2.mono hp,h.i3.mono hp,h.i4.mono hp,h.i5.mono hp⟩
theorem Dt.at_mono{p q:Nat→Prop}(hp:∀b,p b→q b):∀t:Dt,t.at_ p→t.at_ q:=
 Dt.indT fun d ts ih h=>by
  rw[Dt.at_iff]at h ⊢;exact⟨Nd.at_mono h.1 hp,h.2.1.mono hp,fun t ht=>ih t ht (h.2.2 t ht)⟩
def Kept(p:Nat→Prop)(w w':World):Prop:=w.heap.size≤w'.heap.size∧∀b i v,p b→w.cell? ⟨b,i,none⟩=some v→w'.cell? ⟨b,i,none⟩=some v
theorem jkc{p:Nat→Prop}{w w':World}{so:Option Addr}{l:List Nat}(h:Rd w so l)(hi:In p so l)(hk:Kept p w w'):Rd w' so l:=by
 refine⟨h.dig,fun hne=>?_⟩;obtain⟨b,off,h1,h2,h3⟩:=h.pos hne;exact⟨b,off,h1,Nat.lt_of_lt_of_le h2 hk.1,fun j hj=>hk.2 _ _ _ (hi hne _ _ h1) (h3 j hj)⟩
theorem zuf{p:Nat→Prop}{w w':World}{so:Option Addr}{l:List UInt8}(h:Rb w so l)(hi:In p so l)(hk:Kept p w w'):Rb w' so l:=by
 refine⟨fun hne=>?_⟩;obtain⟨b,off,h1,h2,h3⟩:=h.pos hne;exact⟨b,off,h1,Nat.lt_of_lt_of_le h2 hk.1,fun j hj=>hk.2 _ _ _ (hi hne _ _ h1) (h3 j hj)⟩
theorem un{p:Nat→Prop}{w w':World}{so:Option Addr}{c:Nat}{l:List Nat}(h:Sc w so c l)(hi:In p so l)(hk:Kept p w w'):Sc w' so c l:=⟨jkc h.rd hi hk,h.nil,h.cap⟩
theorem NdOk.kept{p:Nat→Prop}{w w':World}{d:Nd}(h:NdOk w d)(hi:d.at_ p)(hk:Kept p w w'):NdOk w' d:={ h with num:=⟨un h.num.s1 hi.i1 hk,un h.num.s2 hi.i2 hk,un h.num.s3 hi.i3 hk,un h.num.s4 hi.i4 hk⟩,raw:=zuf h.raw hi.i5 hk }
theorem Rt.kept{p:Nat→Prop}{w w':World}{lo:Option Addr}{ts:List Dt}(h:Rt w lo ts)(hi:In p lo ts)(hk:Kept p w w'):Rt w' lo ts:=fun hne=>by
 obtain⟨b,o,e,h2⟩:=h hne;exact⟨b,o,e,fun i t hi'=>⟨Nat.lt_of_lt_of_le (h2 i t hi').1 hk.1,fun j v hj=>hk.2 _ _ _ (hi hne _ _ e) ((h2 i t hi').2 j v hj)⟩⟩
theorem Dt.kept{p:Nat→Prop}{w w':World}(hk:Kept p w w'):∀t:Dt,t.rd w→t.at_ p→t.rd w':=
 Dt.indT fun d ts ih h hi=>by
  rw[Dt.rd_iff]at h ⊢;rw[Dt.at_iff]at hi;exact⟨h.1.kept hi.1 hk,h.2.1,h.2.2.1,h.2.2.2.1.kept hi.2.1 hk,fun t ht=>ih t ht (h.2.2.2.2 t ht) (hi.2.2 t ht)⟩
theorem qjc{w:World}{so:Option Addr}{l:List Nat}(h:Rd w so l):In (· < w.heap.size) so l:=fun hne b o e=>by
 obtain⟨b',off,h1,h2,_⟩:=h.pos hne;rw[h1]at e; cases e; exact h2
theorem zpd{w:World}{so:Option Addr}{l:List UInt8}(h:Rb w so l):In (· < w.heap.size) so l:=fun hne b o e=>by
 obtain⟨b',off,h1,h2,_⟩:=h.pos hne;rw[h1]at e; cases e; exact h2
theorem zxh{w:World}{lo:Option Addr}{ts:List Dt}(h:Rt w lo ts):In (· < w.heap.size) lo ts:=fun hne b o e=>by
 obtain⟨b',o',h1,h2⟩:=h hne;rw[h1]at e; cases e;cases ts with
 | nil => exact absurd rfl hne
 | cons t ts => exact (h2 0 t rfl).1
theorem Dt.at_lt{w:World}:∀t:Dt,t.rd w→t.at_ (· < w.heap.size):=
 Dt.indT fun d ts ih h=>by
  rw[Dt.rd_iff]at h;rw[Dt.at_iff];exact⟨⟨qjc h.1.num.s1.rd,qjc h.1.num.s2.rd,qjc h.1.num.s3.rd,qjc h.1.num.s4.rd,zpd h.1.raw⟩,zxh h.2.2.2.1,fun t ht=>ih t ht (h.2.2.2.2 t ht)⟩
theorem Kept.trans{p:Nat→Prop}{w w' w'':World}(h:Kept p w w')(k:Kept p w' w''):Kept p w w'':=⟨Nat.le_trans h.1 k.1,fun b i v hb hc=>k.2 b i v hb (h.2 b i v hb hc)⟩
theorem Kept.mono{p q:Nat→Prop}{w w':World}(h:Kept p w w')(hq:∀b,q b→p b):Kept q w w':=⟨h.1,fun b i v hb hc=>h.2 b i v (hq b hb) hc⟩
theorem qef(w:World)(g o:Nat)(cs:List Value):Kept (· ≠ g) w (w.setCells g o cs):=by
 induction cs generalizing w o with
 | nil => exact ⟨Nat.le_refl _, fun _ _ _ _ h => h⟩
 | cons c cs ih =>
  refine Kept.trans ⟨by simp,fun b i v hb hc=>?_⟩ (ih (w.setCell ⟨g,o,none⟩ c) (o+1));have:(w.setCell ⟨g,o,none⟩ c).cell? ⟨b,i,none⟩=w.cell? ⟨b,i,none⟩:=by
   unfold World.cell?;rw[Below.heap_setCell w ⟨g,o,none⟩ c b hb]
  rw[this]; exact hc
def cellsOf(ts:List Dt):List Value:=ts.flatMap Dt.cells
theorem ui(t:Dt):t.cells.length=11:=rfl
theorem ym: ∀ts:List Dt,(cellsOf ts).length=ts.length*11
 | [] => rfl
 | t :: ts => by
  have:=ym ts;unfold cellsOf at this ⊢;rw[List.flatMap_cons,List.length_append,ui,this,List.length_cons]; omega
theorem xm(a b:List Dt):cellsOf (a++b)=cellsOf a++cellsOf b:=List.flatMap_append
theorem zid(t:Dt):cellsOf [t]=t.cells:=by unfold cellsOf; rw[List.flatMap_singleton]
theorem qge: ∀(ts:List Dt) (i:Nat),(cellsOf ts).drop (i*11)=cellsOf (ts.drop i)
 | ts, 0 => by rw [Nat.zero_mul]; rfl
 | [], i + 1 => by simp [cellsOf]
 | t :: ts, i + 1 => by
  have:=qge ts i;rw[List.drop_succ_cons,←this];unfold cellsOf;rw[List.flatMap_cons,show(i+1)*11=t.cells.length+i*11 by rw[ui]; omega,List.drop_append,List.drop_of_length_le (by omega),Nat.add_sub_cancel_left,List.nil_append]
theorem qmi: ∀(ts:List Dt) (i:Nat),(cellsOf ts).take (i*11)=cellsOf (ts.take i)
 | ts, 0 => by rw [Nat.zero_mul]; rfl
 | [], i + 1 => by simp [cellsOf]
 | t :: ts, i + 1 => by
  have:=qmi ts i;rw[List.take_succ_cons];unfold cellsOf at this ⊢;rw[List.flatMap_cons,List.flatMap_cons,show(i+1)*11=t.cells.length+i*11 by rw[ui]; omega,List.take_length_add_append,this]
theorem jb{ts:List Dt}{i:Nat}{t:Dt}(h:ts[i]?=some t):((cellsOf ts).drop (i*11)).take 11=t.cells:=by
 obtain⟨hi,rfl⟩:=List.getElem?_eq_some_iff.1 h;rw[qge,List.drop_eq_getElem_cons hi];unfold cellsOf;rw[List.flatMap_cons,show 11=(ts[i]).cells.length from rfl,List.take_left]
theorem qmj{ts:List Dt}{i j:Nat}{t:Dt}{v:Value}(h:ts[i]?=some t)(hj:t.cells[j]?=some v):(cellsOf ts)[i*11+j]?=some v:=by
 have hlt:j<11:=by have:=(List.getElem?_eq_some_iff.1 hj).1; rwa [ui]at this
 rw[←jb h,List.getElem?_take,if_pos hlt,List.getElem?_drop]at hj;exact hj
theorem zie{ts:List Dt}{i:Nat}(t:Dt)(h:i<ts.length):over (cellsOf ts) (i*11) t.cells=cellsOf (ts.set i t):=by
 rw[jjg (by rw[ym,ui]; omega),ui,show i*11+11=(i+1)*11 by omega,qge,qmi,List.set_eq_take_append_cons_drop,if_pos h,xm];rw[show t::ts.drop (i+1)=[t]++ts.drop (i+1)from rfl,xm,zid,List.append_assoc]
theorem yw{w:World}{B:Nat}{e:TypeId}{so:Option Addr}{n cap:Nat}{ts:List Dt}(h:w.ownsRow B e 11 (.slice so n cap) n (cellsOf ts)):Rt w so ts∧n=ts.length∧n≤cap∧cap≤9223372036854775807:=by
 have hn:n=ts.length:=by have:=h.1; rw[ym]at this; omega
 refine⟨fun hne=>?_,hn,?_⟩
 ·rcases h.2 with⟨e1,e2⟩ | ⟨g,cap',cur,e1,hg,hc,h1,h2,h3,h4⟩
  ·subst e2; exact absurd (List.length_eq_zero_iff.1 hn.symm) hne
  ·cases e1
   refine⟨g,0,rfl,fun i t hi=>⟨(Array.getElem?_eq_some_iff.1 hc).1,fun j v hj=>?_⟩⟩;have hlt:j<11:=(by have:=(List.getElem?_eq_some_iff.1 hj).1; rwa [ui]at this);have hil:=(List.getElem?_eq_some_iff.1 hi).1;have h5:=qmj hi hj;rw[←h4,List.getElem?_take,if_pos (by omega)]at h5;rw[show(⟨g,0+i*11+j,none⟩:Addr)=⟨g,i*11+j,none⟩by rw[Nat.zero_add],cell_of_row w g _ cur e (0,0) hc];simpa using h5
 ·rcases h.2 with⟨e1,e2⟩ | ⟨g,cap',cur,e1,hg,hc,h1,h2,h3,h4⟩
  ·cases e1; exact⟨Nat.le_refl _,by omega⟩
  ·cases e1; refine⟨h1,Nat.le_trans h2 ?_⟩; decide
section
variable {P:Program} {w0 w:World} {L:List Ck} {l:List (Nat×Value)} {dst:Option Tmp} {ty:TypeId} {pos:String} {after:Array Edge} {guard:Option (Nat×Bool)} {v:Value}
def Rc(w:World)(so:Option Addr)(cs:List Value):Prop:=cs≠[]→∃b off,so=some ⟨b,off,none⟩∧∀p u,cs[p]?=some u→w.cell? ⟨b,off+p,none⟩=some u
theorem Rc.below{w w':World}{so:Option Addr}{cs:List Value}(h:Rc w so cs)(hb:Below w.heap.size w w'):Rc w' so cs:=fun hne=>by
  obtain⟨b,off,e,h2⟩:=h hne;exact⟨b,off,e,fun p u hp=>(hb.cell (cell_lt (h2 p u hp))).trans (h2 p u hp)⟩
theorem jpb{w:World}{so:Option Addr}{ts:List Dt}(h:Rt w so ts):Rc w so (cellsOf ts):=fun hne=>by
  obtain⟨b,o,e,h2⟩:=h (fun k=>hne (by rw[k]; rfl));refine⟨b,o,e,fun p u hp=>?_⟩;have hlt:p<ts.length*11:=by have:=(List.getElem?_eq_some_iff.1 hp).1; rwa [ym]at this
  have hi:p / 11<ts.length:=by omega
  have ht:=List.getElem?_eq_getElem hi;have hp2:p=p / 11*11+p%11:=by omega
  have h3:=(h2 (p / 11) _ ht).2 (p%11) u (by
    have h4:=jb ht;rw[←h4,List.getElem?_take,if_pos (by omega),List.getElem?_drop,←hp2]; exact hp)
  rw[show o+p=o+p / 11*11+p%11 by omega]; exact h3
theorem qoi{w:World}{B:Nat}{e:TypeId}{sz n cap:Nat}{so:Option Addr}{xs:List Value}(h:w.ownsRow B e sz (.slice so n cap) n xs):Rc w so xs:=fun hne=>by
  rcases h.2 with⟨e1,e2⟩ | ⟨g,cap',cur,e1,hg,hc,h1,h2,h3,h4⟩
  · subst e2; exact absurd (List.length_eq_zero_iff.1 (by rw[h.1]; simp)) hne
  · cases e1
    exact⟨g,0,rfl,fun p u hp=>by rw[Nat.zero_add,World.ownsRow.cellAt h p (by have:=(List.getElem?_eq_some_iff.1 hp).1; rw[h.1]at this; exact this)]; exact hp⟩
theorem qgf{e t:TypeId}{sz by_:Nat}{z:Value}{x y:Operand}(ht:P.underlying t=some (.slice e))(hinfo:(P.info? e).map (fun i=>(i.zero,i.size,i.bytes))=some (some z,sz,by_))(hzc:z.cells.size=sz)(hsz:Nat.ble 1 sz=true)(hby:Nat.ble by_ 1000=true)(hM:Mg w0 w L)(k:Nat){q:Nat}{xs:List Value}(hk:L[k]?=some (.row e sz v q xs))(hx:ev l x=some v){so:Option Addr}{m c2:Nat}{news:List Value}(hy:ev l y=some (.slice so m c2))(hnl:news.length=m*sz)(hr:Rc w so news)(h1:∀u∈news,u.oneCell'=true)(hlen:q+m≤1000000000):
    ∃v' w',Does P l ⟨dst,.call ⟨.builtin .append,#[x,y],#[t,t]⟩,ty,pos,after,guard⟩ w v' w'∧Mg w0 w' (L.set k (.row e sz v' (q+m) (xs++news))):=by
  obtain⟨i,hi,hzz⟩:=Option.map_eq_some_iff.1 hinfo;simp only[Prod.mk.injEq]at hzz;obtain⟨hz,hs,hb⟩:=hzz;have hrow:=hM.has k hk;by_cases hm:m=0
  · subst hm;have h0:news=[]:=List.length_eq_zero_iff.1 (by rw[hnl]; simp);subst h0;obtain⟨so1,cap,hle,rfl⟩:∃so1 cap,q≤cap∧v=.slice so1 q cap:=by
      rcases hrow.2 with⟨rfl,rfl⟩ | ⟨g,cap,cur,rfl,_,_,h,_⟩
      · exact⟨none,0,Nat.le_refl _,rfl⟩
      · exact⟨_,cap,h,rfl⟩
    have h2:(sizeOf e).run P w=.ok sz w:=(by simp[sizeOf,typeInfo,hi,hs]);refine⟨.slice so1 q cap,w,?_,?_⟩
    · intro ρ h;cases so<;>cases so1<;>simp[execOp,resolve,invoke,builtin,h x _ hx,h y _ hy,Builtin.append_,run_underlying ht,h2,Builtin.lenOf,Builtin.firstCells,loadCells,loadCellsFrom,storeCells,hle]
    · rw[show L.set k (.row e sz (.slice so1 q cap) (q+0) (xs++[]))=L from by rw[List.append_nil]; exact zhf hk];exact hM
  · have hne:news≠[]:=fun e0=>by
      rw[e0]at hnl;have h5:=Nat.le_of_ble_eq_true hsz;have:0<m*sz:=Nat.mul_pos (by omega) h5;simp at hnl; omega
    obtain⟨b,off,rfl,hcell⟩:=hr hne;have hbig:(q+m)*by_≤140737488355328:=Nat.le_trans (Nat.mul_le_mul hlen (Nat.le_of_ble_eq_true hby)) (by decide);obtain⟨g,cap,w',hr,hown,hgr,hat,hlt⟩:=run_append_lies (P:=P) w t ty w0.heap.size e i z sz by_ ht hi hz hs hb hzc (Nat.le_of_ble_eq_true hsz) v q xs hrow ⟨b,off,none⟩ m c2 news hnl (fun p u hp=>by
        rw[vv];exact hcell p u hp) h1 (by omega) (by unfold maxLen; omega) hbig hM.bel.size w.heap.size rfl
    refine⟨.slice (some ⟨g,0,none⟩) (q+m) cap,w',fun ρ h=>?_,hM.turn k hk (by simp) hgr hown (fun d hd ha=>?_)⟩
    · simp[execOp,resolve,invoke,builtin,h x _ hx,h y _ hy,hr]
    · have hl:=Ck.lt (hM.all d hd);have key:∀z,d.at_=some z→v.ownBlock≠some z→g≠z:=fun z hz hne e=>by
        subst e;rcases hat with h | h
        · exact hne h
        · have:=(hl g hz).2; omega
      cases d with
      | obj g' o' => exact fun e => key g' rfl ha (by simpa [Value.ownBlock] using e)
      | row e' sz' v' n' xs' =>
        right;intro e;have e2:v'.ownBlock=some g:=e.symm;rcases ha with ha | ha
        · exact key g e2 (by rw[ha]; simp) rfl
        · exact key g e2 (fun h=>ha (h.trans e2.symm)) rfl
      | bld b' bs' => exact ⟨ha.1, fun e => key b' rfl ha.2 (by simpa [Value.ownBlock] using e)⟩
theorem Mg.nilRow(h:Mg w0 w L)(hb:qli L)(e:TypeId)(sz:Nat):Mg w0 w (.row e sz (.slice none 0 0) 0 []::L):=by
  refine h.add (Below.refl _ _) ⟨by simp,.inl ⟨rfl,rfl⟩⟩ (fun k hk=>by cases hk) (.inr (.inl ⟨_,_,_,_,_,rfl,.inr hb⟩))
theorem zpe{w:World}{B:Nat}{e:TypeId}{sz n cap:Nat}{so:Option Addr}{xs:List Value}(h:w.ownsRow B e sz (.slice so n cap) n xs){α:Type}(l:List α):In (B≤·) so l:=fun _ b o e1=>by
  rcases h.2 with⟨e2,_⟩ | ⟨g,cap',cur,e2,hg,_⟩
  · cases e2; cases e1
  · cases e2; cases e1; exact hg
theorem zag(t:Dt):∀u∈t.cells,u.oneCell'=true:=by
  intro u hu;unfold Dt.cells Nd.cells at hu;simp only[List.mem_cons,List.not_mem_nil,or_false]at hu;rcases hu with h | h | h | h | h | h | h | h | h | h | h<;>subst h<;>rfl
theorem kf(ts:List Dt):∀u∈cellsOf ts,u.oneCell'=true:=by
  intro u hu;unfold cellsOf at hu;obtain⟨t,_,ht⟩:=List.mem_flatMap.1 hu;exact zag t u ht
section
variable {ops:List Oper} {Q:Exit→Act→World→Prop} {a:Act} {n:Nat} {o:Oper} {rest:List Oper} {d:Nat}
theorem zpf(hA:Sl a n l)(hM:Mg w0 w L)(hg:ja l ops o=true)(hdst:o.dst=some d)(hd:Nat.blt d n=true){vs:List Value}{t:TypeId}(val:Nat→Value)(he:Does P l o w (val w.heap.size) (w.alloc (.cells vs.toArray t)))(ht:t≠BY)
    (hk:∀g w',Mg w0 w' (.obj g (.cells vs.toArray t)::L)→w.heap.size≤g→Below w.heap.size w w'→∀a',Sl a' n ((d,val g)::l)→wpList P ops.toArray Q rest a' w'):wpList P ops.toArray Q (o::rest) a w:=
  yu hA hg hdst hd he (hk _ _ (hM.addObj _ (qda ht)) (Nat.le_refl _) ((Below.refl _ w).alloc (Nat.le_refl _) _))
theorem vi(hA:Sl a n l)(hM:Mg w0 w L)(hg:ja l ops o=true)(hdst:o.dst=none){g q:Nat}{cs vs us:List Value}{e:TypeId}(he:Sets P l o w (w.setCells g q cs))(k:Nat)(hk0:L[k]?=some (.obj g (.cells vs.toArray e)))(hus:over vs q cs=us){L':List Ck}(hL:L.set k (.obj g (.cells us.toArray e))=L')
    (hk:∀w',Mg w0 w' L'→Kept (· ≠ g) w w'→wpList P ops.toArray Q rest a w'):wpList P ops.toArray Q (o::rest) a w:=
  qlg hA hg hdst he (hk _ (by subst hus hL; exact Mg.puts cs w L vs q hM k hk0) (qef _ _ _ _))
theorem zxi(hA:Sl a n l)(hM:Mg w0 w L)(hg:ja l ops o=true)(hdst:o.dst=none){g q m cap:Nat}{cs xs us:List Value}{e:TypeId}{sz:Nat}(he:Sets P l o w (w.setCells g q cs))(k:Nat)(hk0:L[k]?=some (.row e sz (.slice (some ⟨g,0,none⟩) m cap) m xs))(hus:over xs q cs=us){L':List Ck}(hL:L.set k (.row e sz (.slice (some ⟨g,0,none⟩) m cap) m us)=L')
    (hk:∀w',Mg w0 w' L'→Kept (· ≠ g) w w'→wpList P ops.toArray Q rest a w'):wpList P ops.toArray Q (o::rest) a w:=
  qlg hA hg hdst he (hk _ (by subst hus hL; exact Mg.rowPuts cs w L xs q hM k hk0) (qef _ _ _ _))
end
section
variable {ops:List Oper} {Q:Exit→Act→World→Prop} {a:Act} {n:Nat} {o:Oper} {S:World→Prop} {md:Region.Mode} {fuel:Nat} {listed:Array Bool}
theorem qva(hA:Sl a n l)(hM:Mg w0 w L)(i:Nat)(hi:ops[i]?=some o)(hg:ja l ops o=true)(hdst:o.dst=none){g q:Nat}{cs vs us:List Value}{e:TypeId}(he:Sets P l o w (w.setCells g q cs))(k:Nat)(hk0:L[k]?=some (.obj g (.cells vs.toArray e)))(hus:over vs q cs=us){L':List Ck}(hL:L.set k (.obj g (.cells us.toArray e))=L')
    (hk:∀w',Mg w0 w' L'→Kept (· ≠ g) w w'→S w'∧wpAnyH P md ops.toArray Q S fuel (listed.setIfInBounds i true) a w'):wpOp P ops.toArray Q i (fun a' w'=>S w'∧wpAnyH P md ops.toArray Q S fuel (listed.setIfInBounds i true) a' w') a w:=by
  have h:=hk _ (by subst hus hL; exact Mg.puts cs w L vs q hM k hk0) (qef _ _ _ _);exact qtj hA i hi hg hdst he h.1 h.2
theorem jqd(hA:Sl a n l)(hM:Mg w0 w L)(i:Nat)(hi:ops[i]?=some o)(hg:ja l ops o=true){d:Nat}(hdst:o.dst=some d)(hd:Nat.blt d n=true){e:TypeId}{sz:Nat}{vs:List Value}{m:Nat}(he:Does P l o w (.slice (some ⟨w.heap.size,0,none⟩) m m) (w.alloc (.cells vs.toArray e)))(hm:vs.length=m*sz)(hle:Nat.ble m 1000=true)(hnb:e≠BY)
    (hk:∀g w',Mg w0 w' (.row e sz (.slice (some ⟨g,0,none⟩) m m) m vs::L)→w.heap.size≤g→Below w.heap.size w w'→S w'∧∀a',Sl a' n ((d,.slice (some ⟨g,0,none⟩) m m)::l)→wpAnyH P md ops.toArray Q S fuel (listed.setIfInBounds i true) a' w'):wpOp P ops.toArray Q i (fun a' w'=>S w'∧wpAnyH P md ops.toArray Q S fuel (listed.setIfInBounds i true) a' w') a w:=by
  have hmx:m≤maxLen:=by have:=Nat.le_of_ble_eq_true hle; unfold maxLen; omega
  have hM':Mg w0 (w.alloc (.cells vs.toArray e)) (.row e sz (.slice (some ⟨w.heap.size,0,none⟩) m m) m vs::L):=
    hM.add ((Below.refl _ w).alloc (Nat.le_refl _) _) ⟨hm,.inr ⟨w.heap.size,m,vs.toArray,rfl,hM.bel.size,heap_alloc_new w _,Nat.le_refl _,hmx,by simpa using hm,by simp[←hm]⟩⟩ (fun k e=>by cases e; exact Nat.le_refl _) (.inr (.inl ⟨_,_,_,_,_,rfl,.inl hnb⟩))
  have h:=hk _ _ hM' (Nat.le_refl _) ((Below.refl _ w).alloc (Nat.le_refl _) _);exact ve hA i hi hg hdst hd he h.1 h.2
theorem jt(hA:Sl a n l)(hM:Mg w0 w L)(i:Nat)(hi:ops[i]?=some o)(hg:ja l ops o=true)(hdst:o.dst=none){g q m cap:Nat}{cs xs us:List Value}{e:TypeId}{sz:Nat}(he:Sets P l o w (w.setCells g q cs))(k:Nat)(hk0:L[k]?=some (.row e sz (.slice (some ⟨g,0,none⟩) m cap) m xs))(hus:over xs q cs=us){L':List Ck}(hL:L.set k (.row e sz (.slice (some ⟨g,0,none⟩) m cap) m us)=L')
    (hk:∀w',Mg w0 w' L'→S w'∧wpAnyH P md ops.toArray Q S fuel (listed.setIfInBounds i true) a w'):wpOp P ops.toArray Q i (fun a' w'=>S w'∧wpAnyH P md ops.toArray Q S fuel (listed.setIfInBounds i true) a' w') a w:=by
  have h:=hk _ (by subst hus hL; exact Mg.rowPuts cs w L xs q hM k hk0);exact qtj hA i hi hg hdst he h.1 h.2
end
end
def vz(l:List Nat):List Value:=l.map fun n=>.int .u32 ((n:Nat):Int)
theorem zug(l:List Nat):(vz l).length=l.length*1:=by unfold vz; simp
theorem yi(l:List Nat):∀u∈vz l,u.oneCell'=true:=by
  intro u hu;unfold vz at hu;obtain⟨n,_,rfl⟩:=List.mem_map.1 hu;rfl
theorem zuh(l:List UInt8):(Lib.byteCells l).length=l.length*1:=by unfold Lib.byteCells; simp
theorem zxj(l:List UInt8):∀u∈Lib.byteCells l,u.oneCell'=true:=by
  intro u hu;unfold Lib.byteCells at hu;obtain⟨n,_,rfl⟩:=List.mem_map.1 hu;rfl
theorem jda{w:World}{so:Option Addr}{l:List UInt8}(h:Rb w so l):Rc w so (Lib.byteCells l):=fun hne=>by
  obtain⟨b,off,h1,h2,h3⟩:=h.pos (fun k=>hne (by rw[k]; rfl));refine⟨b,off,h1,fun p u hp=>?_⟩;have hlt:p<l.length:=by have:=(List.getElem?_eq_some_iff.1 hp).1; rw[zuh]at this; omega
  rw[h3 p hlt,←hp];simp[Lib.byteCells,List.getD_eq_getElem?_getD,hlt]
theorem jdb{w:World}{so:Option Addr}{l:List Nat}(h:Rd w so l):Rc w so (vz l):=fun hne=>by
  obtain⟨b,off,h1,h2,h3⟩:=h.pos (fun k=>hne (by rw[k]; rfl));refine⟨b,off,h1,fun p u hp=>?_⟩;have hlt:p<l.length:=by have:=(List.getElem?_eq_some_iff.1 hp).1; rw[zug]at this; omega
  rw[h3 p hlt,←hp];simp[vz,List.getD_eq_getElem?_getD,hlt]
theorem qna{w:World}{B:Nat}{e:TypeId}{sz n cap:Nat}{so:Option Addr}{xs:List Value}(h:w.ownsRow B e sz (.slice so n cap) n xs):n≤cap:=by
  rcases h.2 with⟨e1,e2⟩ | ⟨g,cap',cur,e1,hg,hc,h1,_⟩
  · cases e1; exact Nat.le_refl _
  · cases e1; exact h1
theorem jkd{w:World}{B:Nat}{e:TypeId}{sz n cap:Nat}{so:Option Addr}{xs:List Value}(h:w.ownsRow B e sz (.slice so n cap) n xs):cap≤9223372036854775807:=by
  rcases h.2 with⟨e1,e2⟩ | ⟨g,cap',cur,e1,hg,hc,h1,h2,_⟩
  · cases e1; decide
  · cases e1; refine Nat.le_trans h2 ?_; decide
theorem jqe{w:World}{B:Nat}{e:TypeId}{cap:Nat}{so:Option Addr}{l:List Nat}(hd:Dig l)(h:w.ownsRow B e 1 (.slice so l.length cap) l.length (vz l)):Sc w so cap l:=by
  refine⟨⟨hd,fun hne=>?_⟩,fun e0=>?_,qna h⟩
  · rcases h.2 with⟨e1,e2⟩ | ⟨g,cap',cur,e1,hg,hc,h1,_⟩
    · exact absurd (List.length_eq_zero_iff.1 e2) hne
    · cases e1
      refine⟨g,0,rfl,(Array.getElem?_eq_some_iff.1 hc).1,fun j hj=>?_⟩;rw[Nat.zero_add,World.ownsRow.cellAt h j (by omega)];simp[vz,List.getD_eq_getElem?_getD,hj]
  · rcases h.2 with⟨e1,e2⟩ | ⟨g,cap',cur,e1,_⟩
    · simp only[Value.slice.injEq]at e1; exact e1.2.2
    · cases e1; cases e0
theorem uz{w:World}{B:Nat}{e:TypeId}{sz:Nat}{v:Value}{n:Nat}{xs:List Value}(h:w.ownsRow B e sz v n xs):∃so cap,v=.slice so n cap:=by
  rcases h.2 with⟨rfl,rfl⟩ | ⟨g,cap,cur,rfl,_⟩
  · exact⟨none,0,rfl⟩
  · exact⟨_,cap,rfl⟩
theorem qvb{w:World}{B:Nat}{e:TypeId}{sz:Nat}{v:Value}{n:Nat}{xs:List Value}(h:w.ownsRow B e sz v n xs)(hn:n≠0):∃g cap,v=.slice (some ⟨g,0,none⟩) n cap:=by
  rcases h.2 with⟨rfl,rfl⟩ | ⟨g,cap,cur,rfl,_⟩
  · exact absurd rfl hn
  · exact⟨g,cap,rfl⟩
def CsOk(B:Nat)(g:Nat)(w:World)(cs:List Dt):Prop:=∀t∈cs,t.rd w∧t.at_ (fun b=>B≤b∧b≠g)
theorem jdc{B g:Nat}{w:World}:CsOk B g w []:=fun t h=>by cases h
theorem CsOk.below{B g:Nat}{w w':World}{cs:List Dt}(h:CsOk B g w cs)(hb:Below w.heap.size w w'):CsOk B g w' cs:=fun t ht=>⟨Dt.keep hb _ (h t ht).1,(h t ht).2⟩
theorem CsOk.new{B g g':Nat}{w w' w'':World}{cs:List Dt}(h:CsOk B g w cs)(hg:w.heap.size≤g')(hb:Below w.heap.size w w')(hk:Kept (· ≠ g') w' w''):CsOk B g w'' cs:=fun t ht=>⟨Dt.kept hk _ (Dt.keep hb _ (h t ht).1) (Dt.at_mono (fun b hb'=>by intro e; omega) _ (Dt.at_lt _ (h t ht).1)),(h t ht).2⟩
theorem CsOk.snoc{B g:Nat}{w w':World}{cs:List Dt}{t:Dt}(h:CsOk B g w cs)(hr:t.rd w)(ha:t.at_ (fun b=>B≤b∧b≠g))(hk:Kept (· ≠ g) w w'):CsOk B g w' (cs++[t]):=fun u hu=>by
  rcases List.mem_append.1 hu with h1 | h1
  · exact⟨Dt.kept hk _ (h u h1).1 (Dt.at_mono (fun b hb=>hb.2) _ (h u h1).2),(h u h1).2⟩
  · rw[List.mem_singleton.1 h1];exact⟨Dt.kept hk _ hr (Dt.at_mono (fun b hb=>hb.2) _ ha),ha⟩
theorem jqf{ts cs:List Dt}{i:Nat}(hl:cs.length=i)(hi:i<ts.length):∃t,ts[i]?=some t∧t∈ts∧(cs++ts.drop i)[i]?=some t:=by
  have ht:=List.getElem?_eq_getElem hi;refine⟨ts[i],ht,List.getElem_mem hi,?_⟩;rw[List.getElem?_append_right (by omega),List.getElem?_drop,hl,Nat.sub_self,Nat.add_zero,ht]
theorem jke{ts cs:List Dt}{i:Nat}(t:Dt)(hl:cs.length=i)(hi:i<ts.length):(cs++ts.drop i).set i t=(cs++[t])++ts.drop (i+1):=by
  rw[List.set_append_right _ _ (by omega),hl,Nat.sub_self,List.drop_eq_getElem_cons hi,List.set_cons_zero,List.append_assoc];rfl
theorem jkf{ts cs:List Dt}{i:Nat}{t u:Dt}(h:cs.map Dt.tr=(ts.take i).map Dt.tr)(hi:ts[i]?=some t)(hu:u.tr=t.tr):(cs++[u]).map Dt.tr=(ts.take (i+1)).map Dt.tr:=by
  obtain⟨hl,rfl⟩:=List.getElem?_eq_some_iff.1 hi;rw[List.map_append,h,List.take_succ_eq_append_getElem hl,List.map_append,List.map_singleton,List.map_singleton,hu]
theorem qsh{ts:List Dt}{t:Dt}(h:t∈ts):t.tr.bulk≤Tr.bulks (ts.map Dt.tr):=qee (List.mem_map_of_mem h)
theorem qeg: ∀ts:List Dt,ts.length≤Tr.bulks (ts.map Dt.tr)
  | [] => Nat.le_refl _
  | t :: ts => by
    have:=qeg ts;have h2:1≤t.tr.bulk:=by cases t; rw[Dt.tr_mk,kx]; omega
    rw[List.map_cons,Tr.bulks,List.length_cons]; omega
theorem zpg{d:Nd}{ts:List Dt}:(Dt.mk d ts).tr.bulk=d.s.size+d.rl.length+(d.y.q.t1.length+d.y.q.q1.length+(d.y.q.t2.length+d.y.q.q2.length))+1+Tr.bulks (ts.map Dt.tr):=by rw[Dt.tr_mk,kx]
theorem jn(t:Dt):t.cells.all Value.oneCell'=true:=List.all_eq_true.2 (zag t)
theorem jz{ts:List Dt}{i:Nat}{t:Dt}{us:List Dt}(h:i<ts.length)(he:ts.set i t=us):over (cellsOf ts) (i*11) (t.d.cells t.ts.length)=cellsOf us:=he▸zie t h
set_option maxRecDepth 100000
theorem xr: Is1 Tryz.prog 28:=⟨⟨_,Tryz.underlying28,rfl⟩,by kernel_rfl⟩
theorem o93: Is1 Tryz.prog 3:=⟨⟨_,Tryz.underlying3,rfl⟩,by kernel_rfl⟩
theorem jq: FieldAt Tryz.prog 30 0 0:=⟨_,_,Tryz.underlying30,rfl,rfl,by kernel_rfl⟩
theorem ji: FieldAt Tryz.prog 30 5 10:=⟨_,_,Tryz.underlying30,rfl,rfl,by kernel_rfl⟩
theorem zya: Is1 Tryz.prog 22:=⟨⟨_,Tryz.underlying22,rfl⟩,by kernel_rfl⟩
theorem qri: Is1 Tryz.prog 27:=⟨⟨_,Tryz.underlying27,rfl⟩,by kernel_rfl⟩
theorem o94: Is1 Tryz.prog 4:=⟨⟨_,Tryz.underlying4,rfl⟩,by kernel_rfl⟩
theorem o99: Is1 Tryz.prog 9:=⟨⟨_,Tryz.underlying9,rfl⟩,by kernel_rfl⟩
theorem zph: FieldAt Tryz.prog 24 0 0:=⟨_,_,Tryz.underlying24,rfl,rfl,by kernel_rfl⟩
theorem zpi: FieldAt Tryz.prog 24 1 1:=⟨_,_,Tryz.underlying24,rfl,rfl,by kernel_rfl⟩
theorem zpj: FieldAt Tryz.prog 24 2 2:=⟨_,_,Tryz.underlying24,rfl,rfl,by kernel_rfl⟩
theorem qvc: FieldAt Tryz.prog 26 0 0:=⟨_,_,Tryz.underlying26,rfl,rfl,by kernel_rfl⟩
theorem qvd: FieldAt Tryz.prog 26 1 3:=⟨_,_,Tryz.underlying26,rfl,rfl,by kernel_rfl⟩
theorem xz: FieldAt Tryz.prog 30 1 1:=⟨_,_,Tryz.underlying30,rfl,rfl,by kernel_rfl⟩
theorem km: FieldAt Tryz.prog 30 2 2:=⟨_,_,Tryz.underlying30,rfl,rfl,by kernel_rfl⟩
theorem xk: FieldAt Tryz.prog 30 3 8:=⟨_,_,Tryz.underlying30,rfl,rfl,by kernel_rfl⟩
theorem uj: FieldAt Tryz.prog 30 4 9:=⟨_,_,Tryz.underlying30,rfl,rfl,by kernel_rfl⟩
theorem qve: IsS Tryz.prog 24 3:=⟨⟨_,Tryz.underlying24⟩,by kernel_rfl⟩
theorem zyb: IsS Tryz.prog 26 6:=⟨⟨_,Tryz.underlying26⟩,by kernel_rfl⟩
theorem zr: IsS Tryz.prog 30 11:=⟨⟨_,Tryz.underlying30⟩,by kernel_rfl⟩
theorem jkg: FieldAt Tryz.prog 101 1 1:=⟨_,_,Tryz.underlying101,rfl,rfl,by kernel_rfl⟩
theorem jkh: Is1 Tryz.prog 40:=⟨⟨_,Tryz.underlying40,rfl⟩,by kernel_rfl⟩
theorem o95: Is1 Tryz.prog 5:=⟨⟨_,Tryz.underlying5,rfl⟩,by kernel_rfl⟩
theorem jki: Is1 Tryz.prog 21:=⟨⟨_,Tryz.underlying21,rfl⟩,by kernel_rfl⟩
def FitsAt(t:Dt):Prop:=∀{w0 w:World} {b o gl:Nat} {left dp:Int} {T:List Ck},t.rd w0→Here w0 b o t.cells→Mg w0 w (.obj gl (.cells #[iV left] 3)::T)→0≤left→left≤20000→0≤dp→dp≤201→Calls Tryz.prog 69 #[pA b o,iV dp,pA gl 0] w fun e w'=>e=.returned (bV (xh dp left t.tr).1)∧Mg w0 w' (.obj gl (.cells #[iV (xh dp left t.tr).2] 3)::T)
theorem zqa: ∀t:Dt,FitsAt t:=Dt.indT fun d ts ih=>by
 intro w0 w b o gl left dp T hrd hH hM0 hl0 hl1 hd0 hd1;replace hH:Here w0 b o (d.cells ts.length):=hH;have hok:=(Dt.rd_iff.1 hrd);have hk0:=hok.1.k0;have hk1:=hok.1.k1;have hlen:ts.length≤9223372036854775807:=Nat.le_trans hok.2.1 hok.2.2.1;have M:Mg w0 w (.obj gl (.cells #[iV left] 3)::T):=hM0;refine qn (l:=[(0,pA b o),(1,iV dp),(2,pA gl 0)]) Tryz.func69 rfl Tryz.ntmps69 rfl rfl ?_;intro Q hret hnorm hP a A;refine wsk fun K1 hK1=>wrl (sda A λa A=>?_);refine qa (hK1 _ _ (wsk fun K2 hK2=>wrl (sdm A λa A=>?_)));refine sdo A (yj rfl) λa A=>?_;refine sdo A (qh M o93 rfl 0 rfl rfl) λa A=>?_;refine sdo (v:=iV (left-1)) A (qe rfl rfl (zte (vx (by omega) (by omega)))) λa A=>?_;refine sdo A (yj rfl) λa A=>?_;refine jc (L':=(.obj gl (.cells #[iV (left-1)] 3)::T)) A M rfl rfl (ze rfl rfl rfl (by kernel_rfl) M 0 rfl rfl rfl) 0 rfl rfl rfl ?_;intro w3 M;refine qa (hK2 _ _ (wsk fun K4 hK4=>wsk fun K5 hK5=>wrl (sdm A λa A=>?_)));refine sdo A (yj rfl) λa A=>?_;refine sdo A (qh M o93 rfl 0 rfl rfl) λa A=>?_;rcases tf (decide (left-1<0))with hb6 | hb6
 ·have hb6':=of_decide_eq_true hb6;refine sdc A qs hb6 λa A=>?_;refine sdm A λa A=>?_;iterate 2 refine qm A rfl rfl rfl λa A=>?_
  refine sdk (v:=bV true) A λa A=>?_;refine qa (hK5 _ _ (ct A ?_));refine wsk fun K7 hK7=>wrl (sda A λa A=>?_);refine qa (hK7 _ _ (wr1 hret A ?_));rw[zti (by omega)];exact⟨rfl,M⟩
 ·have hb6':=of_decide_eq_false hb6;refine sdc A qs hb6 λa A=>?_;iterate 2 refine sdm A λa A=>?_
  rcases tf (decide (200<dp))with hb8 | hb8
  ·have hb8':=of_decide_eq_true hb8;refine sdc A jm hb8 λa A=>?_;refine sdk (v:=bV true) A λa A=>?_;refine qa (hK5 _ _ (ct A ?_));refine wsk fun K9 hK9=>wrl (sda A λa A=>?_);refine qa (hK9 _ _ (wr1 hret A ?_));rw[zti (by omega)];exact⟨rfl,M⟩
  ·have hb8':=of_decide_eq_false hb8;refine sdc A jm hb8 λa A=>?_;refine sdk (v:=bV false) A λa A=>?_;refine qa (hK5 _ _ (cf A ?_));refine wp_skip (hK4 _ _ (wsk fun K10 hK10=>wsk fun K11 hK11=>wrl (sdm A λa A=>?_)));refine sdo A (yj rfl) λa A=>?_;refine sdo (v:=pA b (o+10)) A (qb ji rfl rfl) λa A=>?_;refine sdo A (qfj (j:=10) M hH xr rfl rfl rfl) λa A=>?_;refine sdo A (qw Tryz.underlying28 rfl) λa A=>?_;refine sdm A λa A=>?_;refine qa (hK11 _ _ (wp_block (zw (fun m_ a w1=>∃(i:Nat) (m:Int),m_=1+(ts.length-i)∧(i≤ts.length∧qac dp (decide (d.k=8)) 0 (left-1) ((ts.map Dt.tr).drop 0)=qac dp (decide (d.k=8)) i m ((ts.map Dt.tr).drop i)∧0≤m∧m≤20000)∧Sl a 53 [(0,pA b o),(1,iV dp),(2,pA gl 0),(9,pA gl 0),(10,pA gl 0),(11,iV left),(12,iV (left-1)),(13,pA gl 0),(14,pA gl 0),(15,pA gl 0),(16,iV (left-1)),(17,bV false),(18,bV false),(19,iV dp),(20,bV false),(21,bV false),(22,pA b o),(23,pA b o),(24,pA b (o+10)),(25,.slice d.lo ts.length d.lc),(26,iV (((ts.length:Nat):Int))),(27,iV (((i:Nat):Int)))]∧Mg w0 w1 (.obj gl (.cells #[iV m] 3)::T)) _ ⟨0,left-1,rfl,⟨Nat.zero_le _,rfl,by omega,by omega⟩,A.keep _ (by repeat' constructor),M⟩ ?_)));clear M A;rintro m_ a w12 ⟨i,m,rfl,hinv14,A,M⟩ K13 hK13;obtain⟨hi0,hin9,hm0,hm1⟩:=hinv14;refine wsk fun K15 hK15=>wrl ?_;rcases tf (decide (((i:Nat):Int)<((ts.length:Nat):Int)))with hb16 | hb16
   ·have hb16':=of_decide_eq_true hb16;refine sdc A qs hb16 λa A=>?_;refine qa (hK15 _ _ (wsk fun K17 hK17=>wp_cond_true (A.ev rfl) ?_));refine wp_skip (hK17 _ _ (wsk fun K18 hK18=>wp_block (wsk fun K19 hK19=>wrl (sdm A λa A=>?_))));refine sda A λa A=>?_;refine qa (hK19 _ _ (wsk fun K20 hK20=>wrl (sdm A λa A=>?_)));refine sdo (v:=iV (dp+1)) A (qe rfl rfl (xd (vx (by omega) (by omega)))) λa A=>?_;refine sda A λa A=>?_;refine qa (hK20 _ _ (wsk fun K21 hK21=>wsk fun K22 hK22=>wrl (sdm A λa A=>?_)));refine sdo A (yj rfl) λa A=>?_;refine sdo (v:=pA b o) A (qb jq rfl rfl) λa A=>?_;refine sdo A (qfj (j:=0) M hH o93 rfl rfl rfl) λa A=>?_;rcases tf ((d.k==8))with hb23 | hb23
    ·have hb23':=eq_of_beq hb23;refine sdc A qi hb23 λa A=>?_;iterate 2 refine sdm A λa A=>?_
     rcases tf ((((i:Nat):Int)==1))with hb24 | hb24
     ·have hb24':=eq_of_beq hb24;refine sdc A qi hb24 λa A=>?_;refine sdk (v:=bV true) A λa A=>?_;refine qa (hK22 _ _ (ct A ?_));refine wrl (sdm A λa A=>?_);refine sda A λa A=>?_;refine qa (hK21 _ _ (wsk fun K25 hK25=>?_));obtain⟨t1,b1,o1,hi1,hm1,hr1,hl1,hH1⟩:=kid hrd (i:=i) (by omega);have hD:(if decide (d.k=8)=true∧i=1 then dp else dp+1)=dp:=if_pos ⟨decide_eq_true hb23',by omega⟩;refine wrl (sdm A λa A=>?_);refine sdo A (yj rfl) λa A=>?_;refine sdo (v:=pA b (o+10)) A (qb ji rfl rfl) λa A=>?_;refine sdo A (qfj (j:=10) M hH xr rfl rfl rfl) λa A=>?_;refine sdm A λa A=>?_;refine sdo (v:=pA b1 (o1+i*11)) A (zi (k:=i) Tryz.underlying28 (by kernel_rfl) rfl rfl rfl hl1 (by omega)) λa A=>?_;iterate 2 refine sdm A λa A=>?_
      refine sct A (ef rfl rfl) (ih t1 hm1 hr1 hH1 M (by omega) (by omega) (by omega) (by omega)) ?_;rintro _ w27 ⟨rfl,hM26⟩;replace M:Mg w0 w27 (.obj gl (.cells #[iV ((xh (dp) m t1.tr).2)] 3)::T):=hM26;refine⟨_,rfl,?_⟩;intro a A;refine sdo (v:=bV (!((xh (dp) m t1.tr).1))) A (zj rfl zx) λa A=>?_;refine qa (hK25 _ _ ?_);refine wp_cond_split (t:=!((xh (dp) m t1.tr).1)) (A.ev rfl) (fun hc28=>?_) (fun hc28=>?_)
      ·refine wsk fun K29 hK29=>wrl (sda A λa A=>?_);refine qa (hK29 _ _ (wr1 hret A ?_));have hr9:(xh (dp) m t1.tr).1=false:=(by simpa using hc28);have e9:xh dp left (Dt.mk d ts).tr=(false,(xh (dp) m t1.tr).2):=(by rw[qsc (by omega) (by omega),hin9,qoe hi1 hD hr9]);rw[e9];exact⟨rfl,M⟩
      ·refine wp_skip (hK18 _ _ (wrl (sdo (v:=iV (((i+1:Nat):Int))) A (qe rfl rfl (fun w=>(xd (vx (by omega) (by omega)) w).trans (by rw[show(((i:Nat):Int)+1:Int)=((i+1:Nat):Int)from by omega]))) λa A=>?_)));refine sdm A λa A=>?_;refine qa ?_;have hr9:(xh (dp) m t1.tr).1=true:=(by simpa using hc28);have hp9:=qfi t1.tr _ _ hr9;have hl9:=zdi t1.tr (dp) m;refine hK13 _ _ _ (by omega) ⟨i+1,(xh (dp) m t1.tr).2,rfl,⟨by omega,by rw[hin9,zdj hi1 hD hr9],by omega,by omega⟩,A.keep _ (by repeat' constructor),M⟩
     ·have hb24':=ne_of_beq_false hb24;refine sdc A qi hb24 λa A=>?_;refine sdk (v:=bV false) A λa A=>?_;refine qa (hK22 _ _ (cf A ?_));refine wp_skip (hK21 _ _ (wsk fun K30 hK30=>?_));obtain⟨t1,b1,o1,hi1,hm1,hr1,hl1,hH1⟩:=kid hrd (i:=i) (by omega);have hD:(if decide (d.k=8)=true∧i=1 then dp else dp+1)=dp+1:=if_neg (fun e=>by omega);refine wrl (sdm A λa A=>?_);refine sdo A (yj rfl) λa A=>?_;refine sdo (v:=pA b (o+10)) A (qb ji rfl rfl) λa A=>?_;refine sdo A (qfj (j:=10) M hH xr rfl rfl rfl) λa A=>?_;refine sdm A λa A=>?_;refine sdo (v:=pA b1 (o1+i*11)) A (zi (k:=i) Tryz.underlying28 (by kernel_rfl) rfl rfl rfl hl1 (by omega)) λa A=>?_;iterate 2 refine sdm A λa A=>?_
      refine sct A (ef rfl rfl) (ih t1 hm1 hr1 hH1 M (by omega) (by omega) (by omega) (by omega)) ?_;rintro _ w32 ⟨rfl,hM31⟩;replace M:Mg w0 w32 (.obj gl (.cells #[iV ((xh (dp+1) m t1.tr).2)] 3)::T):=hM31;refine⟨_,rfl,?_⟩;intro a A;refine sdo (v:=bV (!((xh (dp+1) m t1.tr).1))) A (zj rfl zx) λa A=>?_;refine qa (hK30 _ _ ?_);refine wp_cond_split (t:=!((xh (dp+1) m t1.tr).1)) (A.ev rfl) (fun hc33=>?_) (fun hc33=>?_)
      ·refine wsk fun K34 hK34=>wrl (sda A λa A=>?_);refine qa (hK34 _ _ (wr1 hret A ?_));have hr9:(xh (dp+1) m t1.tr).1=false:=(by simpa using hc33);have e9:xh dp left (Dt.mk d ts).tr=(false,(xh (dp+1) m t1.tr).2):=(by rw[qsc (by omega) (by omega),hin9,qoe hi1 hD hr9]);rw[e9];exact⟨rfl,M⟩
      ·refine wp_skip (hK18 _ _ (wrl (sdo (v:=iV (((i+1:Nat):Int))) A (qe rfl rfl (fun w=>(xd (vx (by omega) (by omega)) w).trans (by rw[show(((i:Nat):Int)+1:Int)=((i+1:Nat):Int)from by omega]))) λa A=>?_)));refine sdm A λa A=>?_;refine qa ?_;have hr9:(xh (dp+1) m t1.tr).1=true:=(by simpa using hc33);have hp9:=qfi t1.tr _ _ hr9;have hl9:=zdi t1.tr (dp+1) m;refine hK13 _ _ _ (by omega) ⟨i+1,(xh (dp+1) m t1.tr).2,rfl,⟨by omega,by rw[hin9,zdj hi1 hD hr9],by omega,by omega⟩,A.keep _ (by repeat' constructor),M⟩
    ·have hb23':=ne_of_beq_false hb23;refine sdc A qi hb23 λa A=>?_;refine sdm A λa A=>?_;iterate 2 refine qm A rfl rfl rfl λa A=>?_
     refine sdk (v:=bV false) A λa A=>?_;refine qa (hK22 _ _ (cf A ?_));refine wp_skip (hK21 _ _ (wsk fun K35 hK35=>?_));obtain⟨t1,b1,o1,hi1,hm1,hr1,hl1,hH1⟩:=kid hrd (i:=i) (by omega);have hD:(if decide (d.k=8)=true∧i=1 then dp else dp+1)=dp+1:=if_neg (fun e=>hb23' (of_decide_eq_true e.1));refine wrl (sdm A λa A=>?_);refine sdo A (yj rfl) λa A=>?_;refine sdo (v:=pA b (o+10)) A (qb ji rfl rfl) λa A=>?_;refine sdo A (qfj (j:=10) M hH xr rfl rfl rfl) λa A=>?_;refine sdm A λa A=>?_;refine sdo (v:=pA b1 (o1+i*11)) A (zi (k:=i) Tryz.underlying28 (by kernel_rfl) rfl rfl rfl hl1 (by omega)) λa A=>?_;iterate 2 refine sdm A λa A=>?_
     refine sct A (ef rfl rfl) (ih t1 hm1 hr1 hH1 M (by omega) (by omega) (by omega) (by omega)) ?_;rintro _ w37 ⟨rfl,hM36⟩;replace M:Mg w0 w37 (.obj gl (.cells #[iV ((xh (dp+1) m t1.tr).2)] 3)::T):=hM36;refine⟨_,rfl,?_⟩;intro a A;refine sdo (v:=bV (!((xh (dp+1) m t1.tr).1))) A (zj rfl zx) λa A=>?_;refine qa (hK35 _ _ ?_);refine wp_cond_split (t:=!((xh (dp+1) m t1.tr).1)) (A.ev rfl) (fun hc38=>?_) (fun hc38=>?_)
     ·refine wsk fun K39 hK39=>wrl (sda A λa A=>?_);refine qa (hK39 _ _ (wr1 hret A ?_));have hr9:(xh (dp+1) m t1.tr).1=false:=(by simpa using hc38);have e9:xh dp left (Dt.mk d ts).tr=(false,(xh (dp+1) m t1.tr).2):=(by rw[qsc (by omega) (by omega),hin9,qoe hi1 hD hr9]);rw[e9];exact⟨rfl,M⟩
     ·refine wp_skip (hK18 _ _ (wrl (sdo (v:=iV (((i+1:Nat):Int))) A (qe rfl rfl (fun w=>(xd (vx (by omega) (by omega)) w).trans (by rw[show(((i:Nat):Int)+1:Int)=((i+1:Nat):Int)from by omega]))) λa A=>?_)));refine sdm A λa A=>?_;refine qa ?_;have hr9:(xh (dp+1) m t1.tr).1=true:=(by simpa using hc38);have hp9:=qfi t1.tr _ _ hr9;have hl9:=zdi t1.tr (dp+1) m;refine hK13 _ _ _ (by omega) ⟨i+1,(xh (dp+1) m t1.tr).2,rfl,⟨by omega,by rw[hin9,zdj hi1 hD hr9],by omega,by omega⟩,A.keep _ (by repeat' constructor),M⟩
   ·have hb16':=of_decide_eq_false hb16;refine sdc A qs hb16 λa A=>?_;refine qa (hK15 _ _ (wsk fun K40 hK40=>wp_cond_false (A.ev rfl) ?_));refine wp_exit (hK10 _ _ (wsk fun K41 hK41=>wrl (sda A λa A=>?_)));refine qa (hK41 _ _ (wr1 hret A ?_));have e9:xh dp left (Dt.mk d ts).tr=(true,m):=(by rw[qsc (by omega) (by omega),hin9,qed (by omega),qac]);rw[e9];exact⟨rfl,M⟩
end Go.Proofs.YtpckmgemfkiifaaGreatDoor.G
namespace Go.Proofs
open Go.Shelf
def Tryz.lays119_ren: Go.Shelf.Ren:=⟨fun | 119=>100 | n=>n,fun | 21=>21 | 4=>4 | n=>n,fun | n=>n⟩
theorem Tryz.lays119: Go.Proofs.Lays.n119 Tryz.prog Tryz.lays119_ren:={
  mixed:=by kernel_rfl
  f119:=Tryz.func100.trans (congrArg some (by kernel_rfl))
  t4:=Tryz.underlying4
  a4:=Tryz.isAgg4
  z4:=Tryz.sizeOf4
  v4:=Tryz.zeroValue4
  t21:=Tryz.underlying21
  a21:=Tryz.isAgg21
  z21:=Tryz.sizeOf21
  v21:=Tryz.zeroValue21 }
theorem Tryz.utf8_ValidRune(r:Int)(w:World):
    Calls Tryz.prog 100 #[.int .i32 r] w fun e w'=>e=.returned (.bool (Lib.validRune r))∧w'=w:=Any.utf8_ValidRune Tryz.lays119 r w
def Tryz.laysValid_ren: Go.Shelf.Ren:=⟨fun | 196=>88 | 259=>101 | n=>n,fun | 9=>9 | 4=>4 | 3=>3 | 5=>5 | 12=>12 | 119=>105 | 0=>0 | 46=>83 | 139=>108 | 138=>107 | 53=>125 | n=>n,fun | 3=>1 | 4=>2 | n=>n⟩
theorem Tryz.laysValid: Go.Proofs.Lays.n196 Tryz.prog Tryz.laysValid_ren:={
  mixed:=by kernel_rfl
  f196:=Tryz.func88.trans (congrArg some (by kernel_rfl))
  f259:=Tryz.func101.trans (congrArg some (by kernel_rfl))
  t0:=Tryz.underlying0
  a0:=Tryz.isAgg0
  z0:=Tryz.sizeOf0
  v0:=Tryz.zeroValue0
  t3:=Tryz.underlying3
  a3:=Tryz.isAgg3
  z3:=Tryz.sizeOf3
  v3:=Tryz.zeroValue3
  t4:=Tryz.underlying4
  a4:=Tryz.isAgg4
  z4:=Tryz.sizeOf4
  v4:=Tryz.zeroValue4
  t5:=Tryz.underlying5
  a5:=Tryz.isAgg5
  z5:=Tryz.sizeOf5
  v5:=Tryz.zeroValue5
  t9:=Tryz.underlying9
  a9:=Tryz.isAgg9
  z9:=Tryz.sizeOf9
  v9:=Tryz.zeroValue9
  t12:=Tryz.underlying12
  a12:=Tryz.isAgg12
  z12:=Tryz.sizeOf12
  v12:=Tryz.zeroValue12
  t46:=Tryz.underlying83
  a46:=Tryz.isAgg83
  z46:=Tryz.sizeOf83
  v46:=Tryz.zeroValue83
  t53:=Tryz.underlying125
  a53:=Tryz.isAgg125
  z53:=Tryz.sizeOf125
  v53:=Tryz.zeroValue125
  t119:=Tryz.underlying105
  a119:=Tryz.isAgg105
  z119:=Tryz.sizeOf105
  t138:=Tryz.underlying107
  a138:=Tryz.isAgg107
  z138:=Tryz.sizeOf107
  v138:=Tryz.zeroValue107
  t139:=Tryz.underlying108
  a139:=Tryz.isAgg108
  z139:=Tryz.sizeOf108
  v139:=Tryz.zeroValue108
  g3:=by kernel_rfl
  g4:=by kernel_rfl }
end Go.Proofs
namespace Go.Proofs.YtpckmgemfkiifaaGreatDoor.G
open Go.RowKit
set_option maxRecDepth 100000
def Tabs8(w:World):Prop:=Lib.Utf8Tabs (Tryz.laysValid_ren.g 3) (Tryz.laysValid_ren.g 4) w
theorem Tabs8.below{w w':World}(h:Tabs8 w)(hb:Below w.heap.size w w'):Tabs8 w':=Utf8Tabs_below h hb
theorem qbh{w:World}{s:ByteArray}(hs:s.size≤9223372036854775807)(hT:Tabs8 w){b:Bool}(h:okS s=b):Calls Tryz.prog 88 #[.string s] w fun e w'=>e=.returned (bV b)∧Below w.heap.size w w':=h▸Any.utf8_ValidString Tryz.laysValid s w hs hT
theorem zyc{w:World}{r:Int}:Calls Tryz.prog 100 #[.int .i32 r] w fun e w'=>e=.returned (bV (Lib.validRune r))∧Below w.heap.size w w':=(Tryz.utf8_ValidRune r w).mono fun e w' ⟨h,e2⟩=>⟨h,e2▸Below.refl _ _⟩
theorem zeh{P:Program}{s d:TypeId}(hs:P.underlying s=some (.int .i64))(hd:P.underlying d=some (.int .i32)){n:Int}(h0:0≤n)(h1:n≤1114111):∀w,(convert s d (iV n)).run P w=.ok (.int .i32 n) w:=fun w=>by
 simp[go_sem,run_underlying hs,run_underlying hd,convert];exact in_i32 (by omega) (by omega)
theorem zif{w:World}{n:Int}:Calls Tryz.prog 87 #[iV n] w fun e w'=>e=.returned (bV (uw n))∧Below w.heap.size w w':=by
 have M:Mg w w ([]):=Mg.start w;refine qn (l:=[(0,iV n)]) Tryz.func87 rfl Tryz.ntmps87 rfl rfl ?_;intro Q hret hnorm hP a A;refine wsk fun K1 hK1=>wrl (sda A λa A=>?_);refine qa (hK1 _ _ (wsk fun K2 hK2=>wrl (sdm A λa A=>?_)));rcases tf (decide (0≤n))with hb3 | hb3
 ·have hb3':=of_decide_eq_true hb3;refine sdc A xn hb3 λa A=>?_;iterate 2 refine sdm A λa A=>?_
  rcases tf (decide (n≤1114111))with hb4 | hb4
  ·have hb4':=of_decide_eq_true hb4;refine sdc A ke hb4 λa A=>?_;refine sdk (v:=bV true) A λa A=>?_;iterate 2 refine sdm A λa A=>?_
   refine sdo (v:=.int .i32 n) A (jj rfl (zeh Tryz.underlying3 Tryz.underlying21 (by omega) (by omega))) λa A=>?_;refine gcl A M (ef rfl rfl) (zyc) fun w5 hbv M a A=>?_;refine sdo (v:=bV (Lib.validRune n)) A (vw rfl rfl rfl rfl) λa A=>?_;refine sda A λa A=>?_;refine qa (hK2 _ _ (wr1 hret A ?_));exact⟨by rw[show uw n=Lib.validRune n from by unfold uw; unfold Lib.validRune; exact decide_eq_decide.2 (by omega)],M.bel⟩
  ·have hb4':=of_decide_eq_false hb4;refine sdc A ke hb4 λa A=>?_;refine sdk (v:=bV false) A λa A=>?_;refine sdm A λa A=>?_;iterate 3 refine qm A rfl rfl rfl λa A=>?_
   refine sdk (v:=bV false) A λa A=>?_;refine sda A λa A=>?_;refine qa (hK2 _ _ (wr1 hret A ?_));exact⟨by rw[show uw n=false from by unfold uw; apply decide_eq_false; omega],M.bel⟩
 ·have hb3':=of_decide_eq_false hb3;refine sdc A xn hb3 λa A=>?_;refine sdm A λa A=>?_;iterate 2 refine qm A rfl rfl rfl λa A=>?_
  refine sdk (v:=bV false) A λa A=>?_;refine sdm A λa A=>?_;iterate 3 refine qm A rfl rfl rfl λa A=>?_
  refine sdk (v:=bV false) A λa A=>?_;refine sda A λa A=>?_;refine qa (hK2 _ _ (wr1 hret A ?_));exact⟨by rw[show uw n=false from by unfold uw; apply decide_eq_false; omega],M.bel⟩
theorem qvf{m1 m2:Nat}(h1:m1≤9223372036854775807)(h2:m2≤9223372036854775807):(IntKind.i64.wrap (((m1:Nat):Int)+((m2:Nat):Int))==0)=(decide (m1=0)&&decide (m2=0)):=by
 rw[IntKind.wrap_i64];by_cases a1:m1=0
 ·subst a1;by_cases a2:m2=0
  ·subst a2; rfl
  ·simp[a2]; omega
 ·simp[a1]; omega
theorem qbb{w:World}{b:Bool}{o1 o2:Option Addr}{m1 m2 c1 c2:Nat}(h1:m1≤9223372036854775807)(h2:m2≤9223372036854775807){r:Bool}(hr:yt b m1 m2=r):Calls Tryz.prog 102 #[.agg #[bV b,.slice o1 m1 c1,.slice o2 m2 c2]] w fun e w'=>e=.returned (bV r)∧Below w.heap.size w w':=by
 have M:Mg w w ([]):=Mg.start w;refine qn (l:=[(0,.agg #[bV b,.slice o1 m1 c1,.slice o2 m2 c2])]) Tryz.func102 rfl Tryz.ntmps102 rfl rfl ?_;intro Q hret hnorm hP a A;refine wsk fun K1 hK1=>wrl (jg (vs:=[bV b,.slice o1 m1 c1,.slice o2 m2 c2]) (t:=24) A M rfl rfl rfl pg (qp rfl rfl) (by decide) ?_);intro g2 w3 M a A;refine sda A λa A=>?_;refine qa (hK1 _ _ (wsk fun K4 hK4=>wrl (sdo (v:=pA g2 0) A (qb zph rfl rfl) λa A=>?_)));refine sdo A (qh M o94 rfl 0 rfl rfl) λa A=>?_;rcases b with _ | _
 ·refine sdo (v:=bV true) A (zj rfl zx) λa A=>?_;refine sdm A λa A=>?_;refine sdo (v:=pA g2 1) A (qb zpi rfl rfl) λa A=>?_;refine sdo A (qh M zya rfl 0 rfl rfl) λa A=>?_;refine sdo A (qw Tryz.underlying22 rfl) λa A=>?_;rcases tf ((((m1:Nat):Int)==0))with hb5 | hb5
  ·have hb5':=eq_of_beq hb5;refine sdc A qi hb5 λa A=>?_;refine sdk (v:=bV true) A λa A=>?_;refine sdm A λa A=>?_;refine sdo (v:=pA g2 2) A (qb zpj rfl rfl) λa A=>?_;refine sdo A (qh M zya rfl 0 rfl rfl) λa A=>?_;refine sdo A (qw Tryz.underlying22 rfl) λa A=>?_;rcases tf ((((m2:Nat):Int)==0))with hb6 | hb6
   ·have hb6':=eq_of_beq hb6;refine sdc A qi hb6 λa A=>?_;refine sdk (v:=bV true) A λa A=>?_;refine sda A λa A=>?_;refine qa (hK4 _ _ (wr1 hret A ?_));subst hr;exact⟨by unfold yt; simp_all; try omega,M.bel⟩
   ·have hb6':=ne_of_beq_false hb6;refine sdc A qi hb6 λa A=>?_;refine sdk (v:=bV false) A λa A=>?_;refine sda A λa A=>?_;refine qa (hK4 _ _ (wr1 hret A ?_));subst hr;exact⟨by unfold yt; simp_all; try omega,M.bel⟩
  ·have hb5':=ne_of_beq_false hb5;refine sdc A qi hb5 λa A=>?_;refine sdk (v:=bV false) A λa A=>?_;refine sdm A λa A=>?_;iterate 4 refine qm A rfl rfl rfl λa A=>?_
   refine sdk (v:=bV false) A λa A=>?_;refine sda A λa A=>?_;refine qa (hK4 _ _ (wr1 hret A ?_));subst hr;exact⟨by unfold yt; simp_all; try omega,M.bel⟩
 ·refine sdo (v:=bV false) A (zj rfl zx) λa A=>?_;refine sdm A λa A=>?_;iterate 4 refine qm A rfl rfl rfl λa A=>?_
  refine sdk (v:=bV false) A λa A=>?_;refine sdm A λa A=>?_;iterate 4 refine qm A rfl rfl rfl λa A=>?_
  refine sdk (v:=bV false) A λa A=>?_;refine sda A λa A=>?_;refine qa (hK4 _ _ (wr1 hret A ?_));subst hr;exact⟨by unfold yt; simp_all; try omega,M.bel⟩
theorem qjd{w:World}{b:Bool}{o1 o2:Option Addr}{m1 m2 c1 c2:Nat}(h1:m1≤9223372036854775807)(h2:m2≤9223372036854775807){r:Bool}(hr:yt b m1 m2=r):Calls Tryz.prog 79 #[.agg #[bV b,.slice o1 m1 c1,.slice o2 m2 c2]] w fun e w'=>e=.returned (bV r)∧Below w.heap.size w w':=by
 have M:Mg w w ([]):=Mg.start w;refine qn (l:=[(0,.agg #[bV b,.slice o1 m1 c1,.slice o2 m2 c2])]) Tryz.func79 rfl Tryz.ntmps79 rfl rfl ?_;intro Q hret hnorm hP a A;refine wsk fun K1 hK1=>wrl (jg (vs:=[bV b,.slice o1 m1 c1,.slice o2 m2 c2]) (t:=24) A M rfl rfl rfl pg (qp rfl rfl) (by decide) ?_);intro g2 w3 M a A;refine sda A λa A=>?_;refine qa (hK1 _ _ (wsk fun K4 hK4=>wrl (sdo (v:=pA g2 0) A (qb zph rfl rfl) λa A=>?_)));refine sdo A (qh M o94 rfl 0 rfl rfl) λa A=>?_;rcases b with _ | _
 ·refine sdo (v:=bV true) A (zj rfl zx) λa A=>?_;refine sdm A λa A=>?_;refine sdo (v:=pA g2 1) A (qb zpi rfl rfl) λa A=>?_;refine sdo A (qh M zya rfl 0 rfl rfl) λa A=>?_;refine sdo A (qw Tryz.underlying22 rfl) λa A=>?_;refine sdo (v:=pA g2 2) A (qb zpj rfl rfl) λa A=>?_;refine sdo A (qh M zya rfl 0 rfl rfl) λa A=>?_;refine sdo A (qw Tryz.underlying22 rfl) λa A=>?_;refine sdo (v:=iV (IntKind.i64.wrap (((m1:Nat):Int)+((m2:Nat):Int)))) A (qe rfl rfl (ar_add rfl)) λa A=>?_;rcases tf ((IntKind.i64.wrap (((m1:Nat):Int)+((m2:Nat):Int))==0))with hb5 | hb5
  ·have hb5':=eq_of_beq hb5;refine sdc A qi hb5 λa A=>?_;refine sdk (v:=bV true) A λa A=>?_;refine sda A λa A=>?_;refine qa (hK4 _ _ (wr1 hret A ?_));subst hr;have e9:=qvf h1 h2;try rw[e9]at hb5
   exact⟨by unfold yt; simp_all; try omega,M.bel⟩
  ·have hb5':=ne_of_beq_false hb5;refine sdc A qi hb5 λa A=>?_;refine sdk (v:=bV false) A λa A=>?_;refine sda A λa A=>?_;refine qa (hK4 _ _ (wr1 hret A ?_));subst hr;have e9:=qvf h1 h2;try rw[e9]at hb5
   exact⟨by unfold yt; simp_all; try omega,M.bel⟩
 ·refine sdo (v:=bV false) A (zj rfl zx) λa A=>?_;refine sdm A λa A=>?_;iterate 8 refine qm A rfl rfl rfl λa A=>?_
  refine sdk (v:=bV false) A λa A=>?_;refine sda A λa A=>?_;refine qa (hK4 _ _ (wr1 hret A ?_));subst hr;have e9:=qvf h1 h2;exact⟨by unfold yt; simp_all; try omega,M.bel⟩
theorem jdd{w:World}{k n:Int}{b1 b2:Bool}{o1 o2 o3 o4 ro lo:Option Addr}{m1 m2 m3 m4 mr ml c1 c2 c3 c4 rc lc:Nat}{s:ByteArray}(h1:m1≤9223372036854775807)(h2:m2≤9223372036854775807)(h3:m3≤9223372036854775807)(h4:m4≤9223372036854775807){r:Bool}(hr:kt n b1 m1 m2 b2 m3 m4 s mr ml=r):Calls Tryz.prog 89 #[.agg #[iV k,iV n,bV b1,.slice o1 m1 c1,.slice o2 m2 c2,bV b2,.slice o3 m3 c3,.slice o4 m4 c4,.string s,.slice ro mr rc,.slice lo ml lc]] w fun e w'=>e=.returned (bV r)∧Below w.heap.size w w':=by
 have M:Mg w w ([]):=Mg.start w;refine qn (l:=[(0,.agg #[iV k,iV n,bV b1,.slice o1 m1 c1,.slice o2 m2 c2,bV b2,.slice o3 m3 c3,.slice o4 m4 c4,.string s,.slice ro mr rc,.slice lo ml lc])]) Tryz.func89 rfl Tryz.ntmps89 rfl rfl ?_;intro Q hret hnorm hP a A;refine wsk fun K1 hK1=>wrl (jg (vs:=[iV k,iV n,bV b1,.slice o1 m1 c1,.slice o2 m2 c2,bV b2,.slice o3 m3 c3,.slice o4 m4 c4,.string s,.slice ro mr rc,.slice lo ml lc]) (t:=30) A M rfl rfl rfl pg (qp rfl rfl) (by decide) ?_);intro g2 w3 M a A;refine sda A λa A=>?_;refine qa (hK1 _ _ (wsk fun K4 hK4=>wrl (sdo (v:=pA g2 1) A (qb xz rfl rfl) λa A=>?_)));refine sdo A (qh M o93 rfl 0 rfl rfl) λa A=>?_;rcases tf ((n==0))with hb5 | hb5
 ·have hb5':=eq_of_beq hb5;refine sdc A qi hb5 λa A=>?_;refine sdm A λa A=>?_;refine sdo (v:=pA g2 2) A (qb km rfl rfl) λa A=>?_;refine sdo (v:=pA g2 2) A (qb qvc rfl rfl) λa A=>?_;refine sdo A (zp M qve rfl 0 rfl (cs:=[bV b1,.slice o1 m1 c1,.slice o2 m2 c2]) rfl rfl) λa A=>?_;rcases tf (yt b1 m1 m2)with hb6 | hb6
  ·refine gcl A M (ef rfl rfl) (qbb h1 h2 hb6) fun w8 hb7 M a A=>?_;refine sdk (v:=bV true) A λa A=>?_;refine sdm A λa A=>?_;refine sdo (v:=pA g2 2) A (qb km rfl rfl) λa A=>?_;refine sdo (v:=pA g2 5) A (qb qvd rfl rfl) λa A=>?_;refine sdo A (zp M qve rfl 0 rfl (cs:=[bV b2,.slice o3 m3 c3,.slice o4 m4 c4]) rfl rfl) λa A=>?_;rcases tf (yt b2 m3 m4)with hb9 | hb9
   ·refine gcl A M (ef rfl rfl) (qbb h3 h4 hb9) fun w11 hb10 M a A=>?_;refine sdk (v:=bV true) A λa A=>?_;refine sdm A λa A=>?_;refine sdo (v:=pA g2 8) A (qb xk rfl rfl) λa A=>?_;refine sdo A (qh M o99 rfl 0 rfl rfl) λa A=>?_;rcases tf (decide (s=⟨#[]⟩))with hb12 | hb12
    ·have hb12':=of_decide_eq_true hb12;refine sdo (v:=bV true) A (qe rfl rfl (fun w=>(zhh Tryz.underlying9 w).trans (by rw[hb12]<;>rfl))) λa A=>?_;refine sdk (v:=bV true) A λa A=>?_;refine sdm A λa A=>?_;refine sdo (v:=pA g2 9) A (qb uj rfl rfl) λa A=>?_;refine sdo A (qh M qri rfl 0 rfl rfl) λa A=>?_;refine sdo A (qw Tryz.underlying27 rfl) λa A=>?_;rcases tf ((((mr:Nat):Int)==0))with hb13 | hb13
     ·have hb13':=eq_of_beq hb13;refine sdc A qi hb13 λa A=>?_;refine sdk (v:=bV true) A λa A=>?_;refine sdm A λa A=>?_;refine sdo (v:=pA g2 10) A (qb ji rfl rfl) λa A=>?_;refine sdo A (qh M xr rfl 0 rfl rfl) λa A=>?_;refine sdo A (qw Tryz.underlying28 rfl) λa A=>?_;rcases tf ((((ml:Nat):Int)==0))with hb14 | hb14
      ·have hb14':=eq_of_beq hb14;refine sdc A qi hb14 λa A=>?_;refine sdk (v:=bV true) A λa A=>?_;refine sda A λa A=>?_;refine qa (hK4 _ _ (wr1 hret A ?_));subst hr;exact⟨by unfold kt; simp_all,M.bel⟩
      ·have hb14':=ne_of_beq_false hb14;refine sdc A qi hb14 λa A=>?_;refine sdk (v:=bV false) A λa A=>?_;refine sda A λa A=>?_;refine qa (hK4 _ _ (wr1 hret A ?_));subst hr;exact⟨by unfold kt; simp_all,M.bel⟩
     ·have hb13':=ne_of_beq_false hb13;refine sdc A qi hb13 λa A=>?_;refine sdk (v:=bV false) A λa A=>?_;refine sdm A λa A=>?_;iterate 4 refine qm A rfl rfl rfl λa A=>?_
      refine sdk (v:=bV false) A λa A=>?_;refine sda A λa A=>?_;refine qa (hK4 _ _ (wr1 hret A ?_));subst hr;exact⟨by unfold kt; simp_all,M.bel⟩
    ·have hb12':=of_decide_eq_false hb12;refine sdo (v:=bV false) A (qe rfl rfl (fun w=>(zhh Tryz.underlying9 w).trans (by rw[hb12]<;>rfl))) λa A=>?_;refine sdk (v:=bV false) A λa A=>?_;refine sdm A λa A=>?_;iterate 4 refine qm A rfl rfl rfl λa A=>?_
     refine sdk (v:=bV false) A λa A=>?_;refine sdm A λa A=>?_;iterate 4 refine qm A rfl rfl rfl λa A=>?_
     refine sdk (v:=bV false) A λa A=>?_;refine sda A λa A=>?_;refine qa (hK4 _ _ (wr1 hret A ?_));subst hr;exact⟨by unfold kt; simp_all,M.bel⟩
   ·refine gcl A M (ef rfl rfl) (qbb h3 h4 hb9) fun w16 hb15 M a A=>?_;refine sdk (v:=bV false) A λa A=>?_;refine sdm A λa A=>?_;iterate 3 refine qm A rfl rfl rfl λa A=>?_
    refine sdk (v:=bV false) A λa A=>?_;refine sdm A λa A=>?_;iterate 4 refine qm A rfl rfl rfl λa A=>?_
    refine sdk (v:=bV false) A λa A=>?_;refine sdm A λa A=>?_;iterate 4 refine qm A rfl rfl rfl λa A=>?_
    refine sdk (v:=bV false) A λa A=>?_;refine sda A λa A=>?_;refine qa (hK4 _ _ (wr1 hret A ?_));subst hr;exact⟨by unfold kt; simp_all,M.bel⟩
  ·refine gcl A M (ef rfl rfl) (qbb h1 h2 hb6) fun w18 hb17 M a A=>?_;refine sdk (v:=bV false) A λa A=>?_;refine sdm A λa A=>?_;iterate 4 refine qm A rfl rfl rfl λa A=>?_
   refine sdk (v:=bV false) A λa A=>?_;refine sdm A λa A=>?_;iterate 3 refine qm A rfl rfl rfl λa A=>?_
   refine sdk (v:=bV false) A λa A=>?_;refine sdm A λa A=>?_;iterate 4 refine qm A rfl rfl rfl λa A=>?_
   refine sdk (v:=bV false) A λa A=>?_;refine sdm A λa A=>?_;iterate 4 refine qm A rfl rfl rfl λa A=>?_
   refine sdk (v:=bV false) A λa A=>?_;refine sda A λa A=>?_;refine qa (hK4 _ _ (wr1 hret A ?_));subst hr;exact⟨by unfold kt; simp_all,M.bel⟩
 ·have hb5':=ne_of_beq_false hb5;refine sdc A qi hb5 λa A=>?_;refine sdm A λa A=>?_;iterate 4 refine qm A rfl rfl rfl λa A=>?_
  refine sdk (v:=bV false) A λa A=>?_;refine sdm A λa A=>?_;iterate 4 refine qm A rfl rfl rfl λa A=>?_
  refine sdk (v:=bV false) A λa A=>?_;refine sdm A λa A=>?_;iterate 3 refine qm A rfl rfl rfl λa A=>?_
  refine sdk (v:=bV false) A λa A=>?_;refine sdm A λa A=>?_;iterate 4 refine qm A rfl rfl rfl λa A=>?_
  refine sdk (v:=bV false) A λa A=>?_;refine sdm A λa A=>?_;iterate 4 refine qm A rfl rfl rfl λa A=>?_
  refine sdk (v:=bV false) A λa A=>?_;refine sda A λa A=>?_;refine qa (hK4 _ _ (wr1 hret A ?_));subst hr;exact⟨by unfold kt; simp_all,M.bel⟩
theorem qvg{w:World}{d:Nd}{ts:List Dt}(hok:NdOk w d)(hT:Tabs8 w):Calls Tryz.prog 70 #[.agg (d.cells ts.length).toArray] w fun e w'=>e=.returned (bV (jv d.k d.n d.y.q d.s d.rl.length ts.length))∧Below w.heap.size w w':=by
 have hq1:=hok.len.l1;have hq2:=hok.len.l2;have hq3:=hok.len.l3;have hq4:=hok.len.l4;have M:Mg w w ([]):=Mg.start w;refine qn (l:=[(0,.agg (d.cells ts.length).toArray)]) Tryz.func70 rfl Tryz.ntmps70 rfl rfl ?_;intro Q hret hnorm hP a A;refine wsk fun K1 hK1=>wrl (jg (vs:=[iV d.k,iV d.n,bV d.y.q.b1,.slice d.y.o1 d.y.q.t1.length d.y.c1,.slice d.y.o2 d.y.q.q1.length d.y.c2,bV d.y.q.b2,.slice d.y.o3 d.y.q.t2.length d.y.c3,.slice d.y.o4 d.y.q.q2.length d.y.c4,.string d.s,.slice d.ro d.rl.length d.rc,.slice d.lo ts.length d.lc]) (t:=30) A M rfl rfl rfl pg (qp rfl rfl) (by decide) ?_);intro g2 w3 M a A;refine sda A λa A=>?_;refine qa (hK1 _ _ (wsk fun K4 hK4=>wrl (sda A λa A=>?_)));refine qa (hK4 _ _ (wsk fun K5 hK5=>?_));have hJ6:∀a w1,(∃(ok:Bool) (z1:Int) (z2:Bool) (y1:Option Addr) (m1:Nat) (e1:Nat) (y2:Option Addr) (m2:Nat) (e2:Nat) (z3:Bool) (y3:Option Addr) (m3:Nat) (e3:Nat) (y4:Option Addr) (m4:Nat) (e4:Nat) (zs:ByteArray) (yr:Option Addr) (mr:Nat) (er:Nat) (yl:Option Addr) (ml:Nat) (el:Nat),(jv d.k d.n d.y.q d.s d.rl.length ts.length=(ok&&kt z1 z2 m1 m2 z3 m3 m4 zs mr ml)∧m1≤9223372036854775807∧m2≤9223372036854775807∧m3≤9223372036854775807∧m4≤9223372036854775807)∧Sl a 59 [(0,.agg (d.cells ts.length).toArray),(1,pA g2 0),(2,bV false),(3,bV ok)]∧Mg w w1 (.obj g2 (.cells #[iV d.k,iV z1,bV z2,.slice y1 m1 e1,.slice y2 m2 e2,bV z3,.slice y3 m3 e3,.slice y4 m4 e4,.string zs,.slice yr mr er,.slice yl ml el] 30)::[]))→K5 a w1:=by
  clear A M;rintro a w7 ⟨ok,z1,z2,y1,m1,e1,y2,m2,e2,z3,y3,m3,e3,y4,m4,e4,zs,yr,mr,er,yl,ml,el,hf8,A,M⟩;obtain⟨hsh,hq1,hq2,hq3,hq4⟩:=hf8;refine hK5 _ _ (wsk fun K9 hK9=>wrl ?_);iterate 2 refine sdm A λa A=>?_
  rcases ok with _ | _
  ·iterate 2 refine qm A rfl rfl rfl λa A=>?_
   refine sdk (v:=bV false) A λa A=>?_;refine sda A λa A=>?_;refine qa (hK9 _ _ (wr1 hret A ?_));exact⟨by rw[hsh]; rfl,M.bel⟩
  ·refine sdo A (zp M zr rfl 0 rfl (cs:=[iV d.k,iV z1,bV z2,.slice y1 m1 e1,.slice y2 m2 e2,bV z3,.slice y3 m3 e3,.slice y4 m4 e4,.string zs,.slice yr mr er,.slice yl ml el]) rfl rfl) λa A=>?_;refine gcl A M (ef rfl rfl) (jdd (by first | exact hq1 | omega) (by first | exact hq2 | omega) (by first | exact hq3 | omega) (by first | exact hq4 | omega) rfl) fun w11 hb10 M a A=>?_;refine sdo (v:=bV (kt z1 z2 m1 m2 z3 m3 m4 zs mr ml)) A (vw rfl rfl rfl rfl) λa A=>?_;refine sda A λa A=>?_;refine qa (hK9 _ _ (wr1 hret A ?_));exact⟨by rw[hsh]; rfl,M.bel⟩
 refine wsk fun K12 hK12=>wrl (sdo (v:=pA g2 0) A (qb jq rfl rfl) λa A=>?_);refine sdo A (qh M o93 rfl 0 rfl rfl) λa A=>?_;refine qa (hK12 _ _ (wp_block (wsk fun K13 hK13=>wsk fun K14 hK14=>wrl ?_)));rcases tf ((d.k==1))with hb15 | hb15
 ·have hb15':=eq_of_beq hb15;refine sdc A qi hb15 λa A=>?_;refine sda A λa A=>?_;refine qa (hK14 _ _ (ct A ?_));refine wp_skip (hK13 _ _ (ct A ?_));refine wp_skip ?_;exact hJ6 _ _ ⟨true,d.n,d.y.q.b1,d.y.o1,d.y.q.t1.length,d.y.c1,d.y.o2,d.y.q.q1.length,d.y.c2,d.y.q.b2,d.y.o3,d.y.q.t2.length,d.y.c3,d.y.o4,d.y.q.q2.length,d.y.c4,d.s,d.ro,d.rl.length,d.rc,d.lo,ts.length,d.lc,⟨by
   unfold jv;repeat (first | rw[if_pos (by omega)] | rw[if_neg (by omega)])
   first | rfl,by first | exact hq1 | decide,by first | exact hq2 | decide,by first | exact hq3 | decide,by first | exact hq4 | decide⟩,A.keep _ ⟨rfl,rfl,rfl,rfl,trivial⟩,M⟩
 ·have hb15':=ne_of_beq_false hb15;refine sdc A qi hb15 λa A=>?_;refine sda A λa A=>?_;refine qa (hK14 _ _ (cf A ?_));refine wrl ?_;rcases tf ((d.k==10))with hb16 | hb16
  ·have hb16':=eq_of_beq hb16;refine sdc A qi hb16 λa A=>?_;refine sda A λa A=>?_;refine qa (hK13 _ _ (ct A ?_));refine wp_skip ?_;exact hJ6 _ _ ⟨true,d.n,d.y.q.b1,d.y.o1,d.y.q.t1.length,d.y.c1,d.y.o2,d.y.q.q1.length,d.y.c2,d.y.q.b2,d.y.o3,d.y.q.t2.length,d.y.c3,d.y.o4,d.y.q.q2.length,d.y.c4,d.s,d.ro,d.rl.length,d.rc,d.lo,ts.length,d.lc,⟨by
    unfold jv;repeat (first | rw[if_pos (by omega)] | rw[if_neg (by omega)])
    first | rfl,by first | exact hq1 | decide,by first | exact hq2 | decide,by first | exact hq3 | decide,by first | exact hq4 | decide⟩,A.keep _ ⟨rfl,rfl,rfl,rfl,trivial⟩,M⟩
  ·have hb16':=ne_of_beq_false hb16;refine sdc A qi hb16 λa A=>?_;refine sda A λa A=>?_;refine qa (hK13 _ _ (cf A ?_));refine wsk fun K17 hK17=>wrl ?_;rcases tf ((d.k==2))with hb18 | hb18
   ·have hb18':=eq_of_beq hb18;refine sdc A qi hb18 λa A=>?_;refine sda A λa A=>?_;refine qa (hK17 _ _ (ct A ?_));refine wrl (sdo (v:=pA g2 1) A (qb xz rfl rfl) λa A=>?_);refine sdo A (qh M o93 rfl 0 rfl rfl) λa A=>?_;rcases tf ((d.n==0))with hb19 | hb19
    ·have hb19':=eq_of_beq hb19;refine sdc A qi hb19 λa A=>?_;refine sdm A λa A=>?_;iterate 3 refine qm A rfl rfl rfl λa A=>?_
     refine sdk (v:=bV true) A λa A=>?_;refine sda A λa A=>?_;refine sdo (v:=pA g2 1) A (qb xz rfl rfl) λa A=>?_;refine jc (L':=(.obj g2 (.cells #[iV d.k,iV 0,bV d.y.q.b1,.slice d.y.o1 d.y.q.t1.length d.y.c1,.slice d.y.o2 d.y.q.q1.length d.y.c2,bV d.y.q.b2,.slice d.y.o3 d.y.q.t2.length d.y.c3,.slice d.y.o4 d.y.q.q2.length d.y.c4,.string d.s,.slice d.ro d.rl.length d.rc,.slice d.lo ts.length d.lc] 30)::[])) A M rfl rfl (ze rfl rfl rfl (by kernel_rfl) M 0 rfl rfl rfl) 0 rfl rfl rfl ?_;intro w20 M;refine qa ?_;exact hJ6 _ _ ⟨true,0,d.y.q.b1,d.y.o1,d.y.q.t1.length,d.y.c1,d.y.o2,d.y.q.q1.length,d.y.c2,d.y.q.b2,d.y.o3,d.y.q.t2.length,d.y.c3,d.y.o4,d.y.q.q2.length,d.y.c4,d.s,d.ro,d.rl.length,d.rc,d.lo,ts.length,d.lc,⟨by
      unfold jv;repeat (first | rw[if_pos (by omega)] | rw[if_neg (by omega)])
      first | rfl | (rw[decide_eq_true (show(d.n=0∨d.n=1)by omega)]),by first | exact hq1 | decide,by first | exact hq2 | decide,by first | exact hq3 | decide,by first | exact hq4 | decide⟩,A.keep _ ⟨rfl,rfl,rfl,rfl,trivial⟩,M⟩
    ·have hb19':=ne_of_beq_false hb19;refine sdc A qi hb19 λa A=>?_;refine sdm A λa A=>?_;refine sdo (v:=pA g2 1) A (qb xz rfl rfl) λa A=>?_;refine sdo A (qh M o93 rfl 0 rfl rfl) λa A=>?_;rcases tf ((d.n==1))with hb21 | hb21
     ·have hb21':=eq_of_beq hb21;refine sdc A qi hb21 λa A=>?_;refine sdk (v:=bV true) A λa A=>?_;refine sda A λa A=>?_;refine sdo (v:=pA g2 1) A (qb xz rfl rfl) λa A=>?_;refine jc (L':=(.obj g2 (.cells #[iV d.k,iV 0,bV d.y.q.b1,.slice d.y.o1 d.y.q.t1.length d.y.c1,.slice d.y.o2 d.y.q.q1.length d.y.c2,bV d.y.q.b2,.slice d.y.o3 d.y.q.t2.length d.y.c3,.slice d.y.o4 d.y.q.q2.length d.y.c4,.string d.s,.slice d.ro d.rl.length d.rc,.slice d.lo ts.length d.lc] 30)::[])) A M rfl rfl (ze rfl rfl rfl (by kernel_rfl) M 0 rfl rfl rfl) 0 rfl rfl rfl ?_;intro w22 M;refine qa ?_;exact hJ6 _ _ ⟨true,0,d.y.q.b1,d.y.o1,d.y.q.t1.length,d.y.c1,d.y.o2,d.y.q.q1.length,d.y.c2,d.y.q.b2,d.y.o3,d.y.q.t2.length,d.y.c3,d.y.o4,d.y.q.q2.length,d.y.c4,d.s,d.ro,d.rl.length,d.rc,d.lo,ts.length,d.lc,⟨by
       unfold jv;repeat (first | rw[if_pos (by omega)] | rw[if_neg (by omega)])
       first | rfl | (rw[decide_eq_true (show(d.n=0∨d.n=1)by omega)]),by first | exact hq1 | decide,by first | exact hq2 | decide,by first | exact hq3 | decide,by first | exact hq4 | decide⟩,A.keep _ ⟨rfl,rfl,rfl,rfl,trivial⟩,M⟩
     ·have hb21':=ne_of_beq_false hb21;refine sdc A qi hb21 λa A=>?_;refine sdk (v:=bV false) A λa A=>?_;refine sda A λa A=>?_;refine sdo (v:=pA g2 1) A (qb xz rfl rfl) λa A=>?_;refine jc (L':=(.obj g2 (.cells #[iV d.k,iV 0,bV d.y.q.b1,.slice d.y.o1 d.y.q.t1.length d.y.c1,.slice d.y.o2 d.y.q.q1.length d.y.c2,bV d.y.q.b2,.slice d.y.o3 d.y.q.t2.length d.y.c3,.slice d.y.o4 d.y.q.q2.length d.y.c4,.string d.s,.slice d.ro d.rl.length d.rc,.slice d.lo ts.length d.lc] 30)::[])) A M rfl rfl (ze rfl rfl rfl (by kernel_rfl) M 0 rfl rfl rfl) 0 rfl rfl rfl ?_;intro w23 M;refine qa ?_;exact hJ6 _ _ ⟨false,0,d.y.q.b1,d.y.o1,d.y.q.t1.length,d.y.c1,d.y.o2,d.y.q.q1.length,d.y.c2,d.y.q.b2,d.y.o3,d.y.q.t2.length,d.y.c3,d.y.o4,d.y.q.q2.length,d.y.c4,d.s,d.ro,d.rl.length,d.rc,d.lo,ts.length,d.lc,⟨by
       unfold jv;repeat (first | rw[if_pos (by omega)] | rw[if_neg (by omega)])
       first | rfl | (rw[decide_eq_false (show ¬(d.n=0∨d.n=1)by omega)]),by first | exact hq1 | decide,by first | exact hq2 | decide,by first | exact hq3 | decide,by first | exact hq4 | decide⟩,A.keep _ ⟨rfl,rfl,rfl,rfl,trivial⟩,M⟩
   ·have hb18':=ne_of_beq_false hb18;refine sdc A qi hb18 λa A=>?_;refine sda A λa A=>?_;refine qa (hK17 _ _ (cf A ?_));refine wsk fun K24 hK24=>wrl ?_;rcases tf ((d.k==3))with hb25 | hb25
    ·have hb25':=eq_of_beq hb25;refine sdc A qi hb25 λa A=>?_;refine sda A λa A=>?_;refine qa (hK24 _ _ (ct A ?_));refine wrl (sdo (v:=pA g2 2) A (qb km rfl rfl) λa A=>?_);refine sdo A (zp M zyb rfl 0 rfl (cs:=[bV d.y.q.b1,.slice d.y.o1 d.y.q.t1.length d.y.c1,.slice d.y.o2 d.y.q.q1.length d.y.c2,bV d.y.q.b2,.slice d.y.o3 d.y.q.t2.length d.y.c3,.slice d.y.o4 d.y.q.q2.length d.y.c4]) rfl rfl) λa A=>?_;rcases tf (xi d.y.q)with hb26 | hb26
     ·refine gcl A M (ef rfl rfl) (ug (Nu.below hok.num M.bel) hok.len hb26) fun w28 hb27 M a A=>?_;refine sdo (v:=.agg #[bV false,.slice none 0 0,.slice none 0 0,bV false,.slice none 0 0,.slice none 0 0]) A (zk rfl (fun w=>by kernel_rfl)) λa A=>?_;refine sda A λa A=>?_;refine sdo (v:=pA g2 2) A (qb km rfl rfl) λa A=>?_;refine jc (L':=(.obj g2 (.cells #[iV d.k,iV d.n,bV false,.slice none 0 0,.slice none 0 0,bV false,.slice none 0 0,.slice none 0 0,.string d.s,.slice d.ro d.rl.length d.rc,.slice d.lo ts.length d.lc] 30)::[])) A M rfl rfl (ze rfl rfl rfl (by kernel_rfl) M 0 rfl rfl rfl) 0 rfl rfl rfl ?_;intro w29 M;refine qa ?_;exact hJ6 _ _ ⟨true,d.n,false,none,0,0,none,0,0,false,none,0,0,none,0,0,d.s,d.ro,d.rl.length,d.rc,d.lo,ts.length,d.lc,⟨by
       unfold jv;repeat (first | rw[if_pos (by omega)] | rw[if_neg (by omega)])
       first | rfl | rw[hb26],by first | exact hq1 | decide,by first | exact hq2 | decide,by first | exact hq3 | decide,by first | exact hq4 | decide⟩,A.keep _ ⟨rfl,rfl,rfl,rfl,trivial⟩,M⟩
     ·refine gcl A M (ef rfl rfl) (ug (Nu.below hok.num M.bel) hok.len hb26) fun w31 hb30 M a A=>?_;refine sdo (v:=.agg #[bV false,.slice none 0 0,.slice none 0 0,bV false,.slice none 0 0,.slice none 0 0]) A (zk rfl (fun w=>by kernel_rfl)) λa A=>?_;refine sda A λa A=>?_;refine sdo (v:=pA g2 2) A (qb km rfl rfl) λa A=>?_;refine jc (L':=(.obj g2 (.cells #[iV d.k,iV d.n,bV false,.slice none 0 0,.slice none 0 0,bV false,.slice none 0 0,.slice none 0 0,.string d.s,.slice d.ro d.rl.length d.rc,.slice d.lo ts.length d.lc] 30)::[])) A M rfl rfl (ze rfl rfl rfl (by kernel_rfl) M 0 rfl rfl rfl) 0 rfl rfl rfl ?_;intro w32 M;refine qa ?_;exact hJ6 _ _ ⟨false,d.n,false,none,0,0,none,0,0,false,none,0,0,none,0,0,d.s,d.ro,d.rl.length,d.rc,d.lo,ts.length,d.lc,⟨by
       unfold jv;repeat (first | rw[if_pos (by omega)] | rw[if_neg (by omega)])
       first | rfl | rw[hb26],by first | exact hq1 | decide,by first | exact hq2 | decide,by first | exact hq3 | decide,by first | exact hq4 | decide⟩,A.keep _ ⟨rfl,rfl,rfl,rfl,trivial⟩,M⟩
    ·have hb25':=ne_of_beq_false hb25;refine sdc A qi hb25 λa A=>?_;refine sda A λa A=>?_;refine qa (hK24 _ _ (cf A ?_));refine wsk fun K33 hK33=>wrl ?_;rcases tf ((d.k==4))with hb34 | hb34
     ·have hb34':=eq_of_beq hb34;refine sdc A qi hb34 λa A=>?_;refine sda A λa A=>?_;refine qa (hK33 _ _ (ct A ?_));refine wrl (sdo (v:=pA g2 1) A (qb xz rfl rfl) λa A=>?_);refine sdo A (qh M o93 rfl 0 rfl rfl) λa A=>?_;rcases tf (uw d.n)with hb35 | hb35
      ·refine gcl A M (ef rfl rfl) ((hb35▸zif)) fun w37 hb36 M a A=>?_;refine sda A λa A=>?_;refine sdo (v:=pA g2 1) A (qb xz rfl rfl) λa A=>?_;refine jc (L':=(.obj g2 (.cells #[iV d.k,iV 0,bV d.y.q.b1,.slice d.y.o1 d.y.q.t1.length d.y.c1,.slice d.y.o2 d.y.q.q1.length d.y.c2,bV d.y.q.b2,.slice d.y.o3 d.y.q.t2.length d.y.c3,.slice d.y.o4 d.y.q.q2.length d.y.c4,.string d.s,.slice d.ro d.rl.length d.rc,.slice d.lo ts.length d.lc] 30)::[])) A M rfl rfl (ze rfl rfl rfl (by kernel_rfl) M 0 rfl rfl rfl) 0 rfl rfl rfl ?_;intro w38 M;refine qa ?_;exact hJ6 _ _ ⟨true,0,d.y.q.b1,d.y.o1,d.y.q.t1.length,d.y.c1,d.y.o2,d.y.q.q1.length,d.y.c2,d.y.q.b2,d.y.o3,d.y.q.t2.length,d.y.c3,d.y.o4,d.y.q.q2.length,d.y.c4,d.s,d.ro,d.rl.length,d.rc,d.lo,ts.length,d.lc,⟨by
        unfold jv;repeat (first | rw[if_pos (by omega)] | rw[if_neg (by omega)])
        first | rfl | rw[hb35],by first | exact hq1 | decide,by first | exact hq2 | decide,by first | exact hq3 | decide,by first | exact hq4 | decide⟩,A.keep _ ⟨rfl,rfl,rfl,rfl,trivial⟩,M⟩
      ·refine gcl A M (ef rfl rfl) ((hb35▸zif)) fun w40 hb39 M a A=>?_;refine sda A λa A=>?_;refine sdo (v:=pA g2 1) A (qb xz rfl rfl) λa A=>?_;refine jc (L':=(.obj g2 (.cells #[iV d.k,iV 0,bV d.y.q.b1,.slice d.y.o1 d.y.q.t1.length d.y.c1,.slice d.y.o2 d.y.q.q1.length d.y.c2,bV d.y.q.b2,.slice d.y.o3 d.y.q.t2.length d.y.c3,.slice d.y.o4 d.y.q.q2.length d.y.c4,.string d.s,.slice d.ro d.rl.length d.rc,.slice d.lo ts.length d.lc] 30)::[])) A M rfl rfl (ze rfl rfl rfl (by kernel_rfl) M 0 rfl rfl rfl) 0 rfl rfl rfl ?_;intro w41 M;refine qa ?_;exact hJ6 _ _ ⟨false,0,d.y.q.b1,d.y.o1,d.y.q.t1.length,d.y.c1,d.y.o2,d.y.q.q1.length,d.y.c2,d.y.q.b2,d.y.o3,d.y.q.t2.length,d.y.c3,d.y.o4,d.y.q.q2.length,d.y.c4,d.s,d.ro,d.rl.length,d.rc,d.lo,ts.length,d.lc,⟨by
        unfold jv;repeat (first | rw[if_pos (by omega)] | rw[if_neg (by omega)])
        first | rfl | rw[hb35],by first | exact hq1 | decide,by first | exact hq2 | decide,by first | exact hq3 | decide,by first | exact hq4 | decide⟩,A.keep _ ⟨rfl,rfl,rfl,rfl,trivial⟩,M⟩
     ·have hb34':=ne_of_beq_false hb34;refine sdc A qi hb34 λa A=>?_;refine sda A λa A=>?_;refine qa (hK33 _ _ (cf A ?_));refine wsk fun K42 hK42=>wsk fun K43 hK43=>wrl ?_;rcases tf ((d.k==5))with hb44 | hb44
      ·have hb44':=eq_of_beq hb44;refine sdc A qi hb44 λa A=>?_;refine sda A λa A=>?_;refine qa (hK43 _ _ (ct A ?_));refine wp_skip (hK42 _ _ (ct A ?_));refine wrl (sdo (v:=pA g2 8) A (qb xk rfl rfl) λa A=>?_);refine sdo A (qh M o99 rfl 0 rfl rfl) λa A=>?_;rcases tf (okS d.s)with hb45 | hb45
       ·refine gcl A M (ef rfl rfl) (qbh hok.smax (hT.below M.bel) hb45) fun w47 hb46 M a A=>?_;refine sda A λa A=>?_;refine sdo (v:=pA g2 8) A (qb xk rfl rfl) λa A=>?_;refine jc (L':=(.obj g2 (.cells #[iV d.k,iV d.n,bV d.y.q.b1,.slice d.y.o1 d.y.q.t1.length d.y.c1,.slice d.y.o2 d.y.q.q1.length d.y.c2,bV d.y.q.b2,.slice d.y.o3 d.y.q.t2.length d.y.c3,.slice d.y.o4 d.y.q.q2.length d.y.c4,.string (⟨#[]⟩),.slice d.ro d.rl.length d.rc,.slice d.lo ts.length d.lc] 30)::[])) A M rfl rfl (ze rfl rfl rfl (by kernel_rfl) M 0 rfl rfl rfl) 0 rfl rfl rfl ?_;intro w48 M;refine qa ?_;exact hJ6 _ _ ⟨true,d.n,d.y.q.b1,d.y.o1,d.y.q.t1.length,d.y.c1,d.y.o2,d.y.q.q1.length,d.y.c2,d.y.q.b2,d.y.o3,d.y.q.t2.length,d.y.c3,d.y.o4,d.y.q.q2.length,d.y.c4,⟨#[]⟩,d.ro,d.rl.length,d.rc,d.lo,ts.length,d.lc,⟨by
         unfold jv;repeat (first | rw[if_pos (by omega)] | rw[if_neg (by omega)])
         first | rfl | rw[hb45],by first | exact hq1 | decide,by first | exact hq2 | decide,by first | exact hq3 | decide,by first | exact hq4 | decide⟩,A.keep _ ⟨rfl,rfl,rfl,rfl,trivial⟩,M⟩
       ·refine gcl A M (ef rfl rfl) (qbh hok.smax (hT.below M.bel) hb45) fun w50 hb49 M a A=>?_;refine sda A λa A=>?_;refine sdo (v:=pA g2 8) A (qb xk rfl rfl) λa A=>?_;refine jc (L':=(.obj g2 (.cells #[iV d.k,iV d.n,bV d.y.q.b1,.slice d.y.o1 d.y.q.t1.length d.y.c1,.slice d.y.o2 d.y.q.q1.length d.y.c2,bV d.y.q.b2,.slice d.y.o3 d.y.q.t2.length d.y.c3,.slice d.y.o4 d.y.q.q2.length d.y.c4,.string (⟨#[]⟩),.slice d.ro d.rl.length d.rc,.slice d.lo ts.length d.lc] 30)::[])) A M rfl rfl (ze rfl rfl rfl (by kernel_rfl) M 0 rfl rfl rfl) 0 rfl rfl rfl ?_;intro w51 M;refine qa ?_;exact hJ6 _ _ ⟨false,d.n,d.y.q.b1,d.y.o1,d.y.q.t1.length,d.y.c1,d.y.o2,d.y.q.q1.length,d.y.c2,d.y.q.b2,d.y.o3,d.y.q.t2.length,d.y.c3,d.y.o4,d.y.q.q2.length,d.y.c4,⟨#[]⟩,d.ro,d.rl.length,d.rc,d.lo,ts.length,d.lc,⟨by
         unfold jv;repeat (first | rw[if_pos (by omega)] | rw[if_neg (by omega)])
         first | rfl | rw[hb45],by first | exact hq1 | decide,by first | exact hq2 | decide,by first | exact hq3 | decide,by first | exact hq4 | decide⟩,A.keep _ ⟨rfl,rfl,rfl,rfl,trivial⟩,M⟩
      ·have hb44':=ne_of_beq_false hb44;refine sdc A qi hb44 λa A=>?_;refine sda A λa A=>?_;refine qa (hK43 _ _ (cf A ?_));refine wsk fun K52 hK52=>wrl ?_;rcases tf ((d.k==6))with hb53 | hb53
       ·have hb53':=eq_of_beq hb53;refine sdc A qi hb53 λa A=>?_;refine sda A λa A=>?_;refine qa (hK52 _ _ (ct A ?_));refine wp_skip (hK42 _ _ (ct A ?_));refine wrl (sdo (v:=pA g2 8) A (qb xk rfl rfl) λa A=>?_);refine sdo A (qh M o99 rfl 0 rfl rfl) λa A=>?_;rcases tf (okS d.s)with hb54 | hb54
        ·refine gcl A M (ef rfl rfl) (qbh hok.smax (hT.below M.bel) hb54) fun w56 hb55 M a A=>?_;refine sda A λa A=>?_;refine sdo (v:=pA g2 8) A (qb xk rfl rfl) λa A=>?_;refine jc (L':=(.obj g2 (.cells #[iV d.k,iV d.n,bV d.y.q.b1,.slice d.y.o1 d.y.q.t1.length d.y.c1,.slice d.y.o2 d.y.q.q1.length d.y.c2,bV d.y.q.b2,.slice d.y.o3 d.y.q.t2.length d.y.c3,.slice d.y.o4 d.y.q.q2.length d.y.c4,.string (⟨#[]⟩),.slice d.ro d.rl.length d.rc,.slice d.lo ts.length d.lc] 30)::[])) A M rfl rfl (ze rfl rfl rfl (by kernel_rfl) M 0 rfl rfl rfl) 0 rfl rfl rfl ?_;intro w57 M;refine qa ?_;exact hJ6 _ _ ⟨true,d.n,d.y.q.b1,d.y.o1,d.y.q.t1.length,d.y.c1,d.y.o2,d.y.q.q1.length,d.y.c2,d.y.q.b2,d.y.o3,d.y.q.t2.length,d.y.c3,d.y.o4,d.y.q.q2.length,d.y.c4,⟨#[]⟩,d.ro,d.rl.length,d.rc,d.lo,ts.length,d.lc,⟨by
          unfold jv;repeat (first | rw[if_pos (by omega)] | rw[if_neg (by omega)])
          first | rfl | rw[hb54],by first | exact hq1 | decide,by first | exact hq2 | decide,by first | exact hq3 | decide,by first | exact hq4 | decide⟩,A.keep _ ⟨rfl,rfl,rfl,rfl,trivial⟩,M⟩
        ·refine gcl A M (ef rfl rfl) (qbh hok.smax (hT.below M.bel) hb54) fun w59 hb58 M a A=>?_;refine sda A λa A=>?_;refine sdo (v:=pA g2 8) A (qb xk rfl rfl) λa A=>?_;refine jc (L':=(.obj g2 (.cells #[iV d.k,iV d.n,bV d.y.q.b1,.slice d.y.o1 d.y.q.t1.length d.y.c1,.slice d.y.o2 d.y.q.q1.length d.y.c2,bV d.y.q.b2,.slice d.y.o3 d.y.q.t2.length d.y.c3,.slice d.y.o4 d.y.q.q2.length d.y.c4,.string (⟨#[]⟩),.slice d.ro d.rl.length d.rc,.slice d.lo ts.length d.lc] 30)::[])) A M rfl rfl (ze rfl rfl rfl (by kernel_rfl) M 0 rfl rfl rfl) 0 rfl rfl rfl ?_;intro w60 M;refine qa ?_;exact hJ6 _ _ ⟨false,d.n,d.y.q.b1,d.y.o1,d.y.q.t1.length,d.y.c1,d.y.o2,d.y.q.q1.length,d.y.c2,d.y.q.b2,d.y.o3,d.y.q.t2.length,d.y.c3,d.y.o4,d.y.q.q2.length,d.y.c4,⟨#[]⟩,d.ro,d.rl.length,d.rc,d.lo,ts.length,d.lc,⟨by
          unfold jv;repeat (first | rw[if_pos (by omega)] | rw[if_neg (by omega)])
          first | rfl | rw[hb54],by first | exact hq1 | decide,by first | exact hq2 | decide,by first | exact hq3 | decide,by first | exact hq4 | decide⟩,A.keep _ ⟨rfl,rfl,rfl,rfl,trivial⟩,M⟩
       ·have hb53':=ne_of_beq_false hb53;refine sdc A qi hb53 λa A=>?_;refine sda A λa A=>?_;refine qa (hK52 _ _ (cf A ?_));refine wrl ?_;rcases tf ((d.k==11))with hb61 | hb61
        ·have hb61':=eq_of_beq hb61;refine sdc A qi hb61 λa A=>?_;refine sda A λa A=>?_;refine qa (hK42 _ _ (ct A ?_));refine wrl (sdo (v:=pA g2 8) A (qb xk rfl rfl) λa A=>?_);refine sdo A (qh M o99 rfl 0 rfl rfl) λa A=>?_;rcases tf (okS d.s)with hb62 | hb62
         ·refine gcl A M (ef rfl rfl) (qbh hok.smax (hT.below M.bel) hb62) fun w64 hb63 M a A=>?_;refine sda A λa A=>?_;refine sdo (v:=pA g2 8) A (qb xk rfl rfl) λa A=>?_;refine jc (L':=(.obj g2 (.cells #[iV d.k,iV d.n,bV d.y.q.b1,.slice d.y.o1 d.y.q.t1.length d.y.c1,.slice d.y.o2 d.y.q.q1.length d.y.c2,bV d.y.q.b2,.slice d.y.o3 d.y.q.t2.length d.y.c3,.slice d.y.o4 d.y.q.q2.length d.y.c4,.string (⟨#[]⟩),.slice d.ro d.rl.length d.rc,.slice d.lo ts.length d.lc] 30)::[])) A M rfl rfl (ze rfl rfl rfl (by kernel_rfl) M 0 rfl rfl rfl) 0 rfl rfl rfl ?_;intro w65 M;refine qa ?_;exact hJ6 _ _ ⟨true,d.n,d.y.q.b1,d.y.o1,d.y.q.t1.length,d.y.c1,d.y.o2,d.y.q.q1.length,d.y.c2,d.y.q.b2,d.y.o3,d.y.q.t2.length,d.y.c3,d.y.o4,d.y.q.q2.length,d.y.c4,⟨#[]⟩,d.ro,d.rl.length,d.rc,d.lo,ts.length,d.lc,⟨by
           unfold jv;repeat (first | rw[if_pos (by omega)] | rw[if_neg (by omega)])
           first | rfl | rw[hb62],by first | exact hq1 | decide,by first | exact hq2 | decide,by first | exact hq3 | decide,by first | exact hq4 | decide⟩,A.keep _ ⟨rfl,rfl,rfl,rfl,trivial⟩,M⟩
         ·refine gcl A M (ef rfl rfl) (qbh hok.smax (hT.below M.bel) hb62) fun w67 hb66 M a A=>?_;refine sda A λa A=>?_;refine sdo (v:=pA g2 8) A (qb xk rfl rfl) λa A=>?_;refine jc (L':=(.obj g2 (.cells #[iV d.k,iV d.n,bV d.y.q.b1,.slice d.y.o1 d.y.q.t1.length d.y.c1,.slice d.y.o2 d.y.q.q1.length d.y.c2,bV d.y.q.b2,.slice d.y.o3 d.y.q.t2.length d.y.c3,.slice d.y.o4 d.y.q.q2.length d.y.c4,.string (⟨#[]⟩),.slice d.ro d.rl.length d.rc,.slice d.lo ts.length d.lc] 30)::[])) A M rfl rfl (ze rfl rfl rfl (by kernel_rfl) M 0 rfl rfl rfl) 0 rfl rfl rfl ?_;intro w68 M;refine qa ?_;exact hJ6 _ _ ⟨false,d.n,d.y.q.b1,d.y.o1,d.y.q.t1.length,d.y.c1,d.y.o2,d.y.q.q1.length,d.y.c2,d.y.q.b2,d.y.o3,d.y.q.t2.length,d.y.c3,d.y.o4,d.y.q.q2.length,d.y.c4,⟨#[]⟩,d.ro,d.rl.length,d.rc,d.lo,ts.length,d.lc,⟨by
           unfold jv;repeat (first | rw[if_pos (by omega)] | rw[if_neg (by omega)])
           first | rfl | rw[hb62],by first | exact hq1 | decide,by first | exact hq2 | decide,by first | exact hq3 | decide,by first | exact hq4 | decide⟩,A.keep _ ⟨rfl,rfl,rfl,rfl,trivial⟩,M⟩
        ·have hb61':=ne_of_beq_false hb61;refine sdc A qi hb61 λa A=>?_;refine sda A λa A=>?_;refine qa (hK42 _ _ (cf A ?_));refine wsk fun K69 hK69=>wrl ?_;rcases tf ((d.k==7))with hb70 | hb70
         ·have hb70':=eq_of_beq hb70;refine sdc A qi hb70 λa A=>?_;refine sda A λa A=>?_;refine qa (hK69 _ _ (ct A ?_));refine wrl (sdo (v:=pA g2 9) A (qb uj rfl rfl) λa A=>?_);refine jc (L':=(.obj g2 (.cells #[iV d.k,iV d.n,bV d.y.q.b1,.slice d.y.o1 d.y.q.t1.length d.y.c1,.slice d.y.o2 d.y.q.q1.length d.y.c2,bV d.y.q.b2,.slice d.y.o3 d.y.q.t2.length d.y.c3,.slice d.y.o4 d.y.q.q2.length d.y.c4,.string d.s,.slice none 0 0,.slice d.lo ts.length d.lc] 30)::[])) A M rfl rfl (ze rfl rfl rfl (by kernel_rfl) M 0 rfl rfl rfl) 0 rfl rfl rfl ?_;intro w71 M;refine qa ?_;exact hJ6 _ _ ⟨true,d.n,d.y.q.b1,d.y.o1,d.y.q.t1.length,d.y.c1,d.y.o2,d.y.q.q1.length,d.y.c2,d.y.q.b2,d.y.o3,d.y.q.t2.length,d.y.c3,d.y.o4,d.y.q.q2.length,d.y.c4,d.s,none,0,0,d.lo,ts.length,d.lc,⟨by
           unfold jv;repeat (first | rw[if_pos (by omega)] | rw[if_neg (by omega)])
           first | rfl,by first | exact hq1 | decide,by first | exact hq2 | decide,by first | exact hq3 | decide,by first | exact hq4 | decide⟩,A.keep _ ⟨rfl,rfl,rfl,rfl,trivial⟩,M⟩
         ·have hb70':=ne_of_beq_false hb70;refine sdc A qi hb70 λa A=>?_;refine sda A λa A=>?_;refine qa (hK69 _ _ (cf A ?_));refine wsk fun K72 hK72=>wrl ?_;rcases tf ((d.k==8))with hb73 | hb73
          ·have hb73':=eq_of_beq hb73;refine sdc A qi hb73 λa A=>?_;refine sda A λa A=>?_;refine qa (hK72 _ _ (ct A ?_));refine wrl (sdo (v:=pA g2 10) A (qb ji rfl rfl) λa A=>?_);refine sdo A (qh M xr rfl 0 rfl rfl) λa A=>?_;refine sdo A (qw Tryz.underlying28 rfl) λa A=>?_;rcases tf ((((ts.length:Nat):Int)==2))with hb74 | hb74
           ·have hb74':=eq_of_beq hb74;refine sdc A qi hb74 λa A=>?_;refine sda A λa A=>?_;refine sdo (v:=pA g2 10) A (qb ji rfl rfl) λa A=>?_;refine jc (L':=(.obj g2 (.cells #[iV d.k,iV d.n,bV d.y.q.b1,.slice d.y.o1 d.y.q.t1.length d.y.c1,.slice d.y.o2 d.y.q.q1.length d.y.c2,bV d.y.q.b2,.slice d.y.o3 d.y.q.t2.length d.y.c3,.slice d.y.o4 d.y.q.q2.length d.y.c4,.string d.s,.slice d.ro d.rl.length d.rc,.slice none 0 0] 30)::[])) A M rfl rfl (ze rfl rfl rfl (by kernel_rfl) M 0 rfl rfl rfl) 0 rfl rfl rfl ?_;intro w75 M;refine qa ?_;exact hJ6 _ _ ⟨true,d.n,d.y.q.b1,d.y.o1,d.y.q.t1.length,d.y.c1,d.y.o2,d.y.q.q1.length,d.y.c2,d.y.q.b2,d.y.o3,d.y.q.t2.length,d.y.c3,d.y.o4,d.y.q.q2.length,d.y.c4,d.s,d.ro,d.rl.length,d.rc,none,0,0,⟨by
             unfold jv;repeat (first | rw[if_pos (by omega)] | rw[if_neg (by omega)])
             first | rfl | (rw[decide_eq_true (show(ts.length=2)by omega)]),by first | exact hq1 | decide,by first | exact hq2 | decide,by first | exact hq3 | decide,by first | exact hq4 | decide⟩,A.keep _ ⟨rfl,rfl,rfl,rfl,trivial⟩,M⟩
           ·have hb74':=ne_of_beq_false hb74;refine sdc A qi hb74 λa A=>?_;refine sda A λa A=>?_;refine sdo (v:=pA g2 10) A (qb ji rfl rfl) λa A=>?_;refine jc (L':=(.obj g2 (.cells #[iV d.k,iV d.n,bV d.y.q.b1,.slice d.y.o1 d.y.q.t1.length d.y.c1,.slice d.y.o2 d.y.q.q1.length d.y.c2,bV d.y.q.b2,.slice d.y.o3 d.y.q.t2.length d.y.c3,.slice d.y.o4 d.y.q.q2.length d.y.c4,.string d.s,.slice d.ro d.rl.length d.rc,.slice none 0 0] 30)::[])) A M rfl rfl (ze rfl rfl rfl (by kernel_rfl) M 0 rfl rfl rfl) 0 rfl rfl rfl ?_;intro w76 M;refine qa ?_;exact hJ6 _ _ ⟨false,d.n,d.y.q.b1,d.y.o1,d.y.q.t1.length,d.y.c1,d.y.o2,d.y.q.q1.length,d.y.c2,d.y.q.b2,d.y.o3,d.y.q.t2.length,d.y.c3,d.y.o4,d.y.q.q2.length,d.y.c4,d.s,d.ro,d.rl.length,d.rc,none,0,0,⟨by
             unfold jv;repeat (first | rw[if_pos (by omega)] | rw[if_neg (by omega)])
             first | rfl | (rw[decide_eq_false (show ¬(ts.length=2)by omega)]),by first | exact hq1 | decide,by first | exact hq2 | decide,by first | exact hq3 | decide,by first | exact hq4 | decide⟩,A.keep _ ⟨rfl,rfl,rfl,rfl,trivial⟩,M⟩
          ·have hb73':=ne_of_beq_false hb73;refine sdc A qi hb73 λa A=>?_;refine sda A λa A=>?_;refine qa (hK72 _ _ (cf A ?_));refine wsk fun K77 hK77=>wrl ?_;rcases tf ((d.k==9))with hb78 | hb78
           ·have hb78':=eq_of_beq hb78;refine sdc A qi hb78 λa A=>?_;refine sda A λa A=>?_;refine qa (hK77 _ _ (ct A ?_));refine wrl (sdo (v:=pA g2 10) A (qb ji rfl rfl) λa A=>?_);refine jc (L':=(.obj g2 (.cells #[iV d.k,iV d.n,bV d.y.q.b1,.slice d.y.o1 d.y.q.t1.length d.y.c1,.slice d.y.o2 d.y.q.q1.length d.y.c2,bV d.y.q.b2,.slice d.y.o3 d.y.q.t2.length d.y.c3,.slice d.y.o4 d.y.q.q2.length d.y.c4,.string d.s,.slice d.ro d.rl.length d.rc,.slice none 0 0] 30)::[])) A M rfl rfl (ze rfl rfl rfl (by kernel_rfl) M 0 rfl rfl rfl) 0 rfl rfl rfl ?_;intro w79 M;refine qa ?_;exact hJ6 _ _ ⟨true,d.n,d.y.q.b1,d.y.o1,d.y.q.t1.length,d.y.c1,d.y.o2,d.y.q.q1.length,d.y.c2,d.y.q.b2,d.y.o3,d.y.q.t2.length,d.y.c3,d.y.o4,d.y.q.q2.length,d.y.c4,d.s,d.ro,d.rl.length,d.rc,none,0,0,⟨by
             unfold jv;repeat (first | rw[if_pos (by omega)] | rw[if_neg (by omega)])
             first | rfl,by first | exact hq1 | decide,by first | exact hq2 | decide,by first | exact hq3 | decide,by first | exact hq4 | decide⟩,A.keep _ ⟨rfl,rfl,rfl,rfl,trivial⟩,M⟩
           ·have hb78':=ne_of_beq_false hb78;refine sdc A qi hb78 λa A=>?_;refine sda A λa A=>?_;refine qa (hK77 _ _ (cf A ?_));refine wrl (sda A λa A=>?_);refine qa ?_;exact hJ6 _ _ ⟨false,d.n,d.y.q.b1,d.y.o1,d.y.q.t1.length,d.y.c1,d.y.o2,d.y.q.q1.length,d.y.c2,d.y.q.b2,d.y.o3,d.y.q.t2.length,d.y.c3,d.y.o4,d.y.q.q2.length,d.y.c4,d.s,d.ro,d.rl.length,d.rc,d.lo,ts.length,d.lc,⟨by
             unfold jv;repeat (first | rw[if_pos (by omega)] | rw[if_neg (by omega)])
             first | rfl,by first | exact hq1 | decide,by first | exact hq2 | decide,by first | exact hq3 | decide,by first | exact hq4 | decide⟩,A.keep _ ⟨rfl,rfl,rfl,rfl,trivial⟩,M⟩
theorem Mg.here{w0 w:World}{L:List Ck}(h:Mg w0 w L)(k:Nat){g:Nat}{cs:List Value}{t:TypeId}(hk:L[k]?=some (.obj g (.cells cs.toArray t))):Here w g 0 cs:=⟨(Array.getElem?_eq_some_iff.1 (h.obj k hk)).1,fun j v hj=>by rw[Nat.zero_add]; exact h.cell k hk j hj⟩
def Through(t:Dt):Prop:=∀{w:World},t.rd w→Tabs8 w→Calls Tryz.prog 55 #[.agg t.cells.toArray] w fun e w'=>e=.returned (bV (vq qt t.tr))∧Below w.heap.size w w'
theorem qqc: ∀t:Dt,Through t:=Dt.indT fun d ts ih=>by
 intro w hrd hT;have hok:=(Dt.rd_iff.1 hrd);have hlen:ts.length≤9223372036854775807:=Nat.le_trans hok.2.1 hok.2.2.1;have M:Mg w w ([]):=Mg.start w;refine qn (l:=[(0,.agg (d.cells ts.length).toArray)]) Tryz.func55 rfl Tryz.ntmps55 rfl rfl ?_;intro Q hret hnorm hP a A;refine wsk fun K1 hK1=>wrl (jg (vs:=[iV d.k,iV d.n,bV d.y.q.b1,.slice d.y.o1 d.y.q.t1.length d.y.c1,.slice d.y.o2 d.y.q.q1.length d.y.c2,bV d.y.q.b2,.slice d.y.o3 d.y.q.t2.length d.y.c3,.slice d.y.o4 d.y.q.q2.length d.y.c4,.string d.s,.slice d.ro d.rl.length d.rc,.slice d.lo ts.length d.lc]) (t:=30) A M rfl rfl rfl pg (qp rfl rfl) (by decide) ?_);intro g2 w3 M a A;refine sda A λa A=>?_;refine qa (hK1 _ _ (wsk fun K4 hK4=>wsk fun K5 hK5=>wrl (sdo A (zp M zr rfl 0 rfl (cs:=[iV d.k,iV d.n,bV d.y.q.b1,.slice d.y.o1 d.y.q.t1.length d.y.c1,.slice d.y.o2 d.y.q.q1.length d.y.c2,bV d.y.q.b2,.slice d.y.o3 d.y.q.t2.length d.y.c3,.slice d.y.o4 d.y.q.q2.length d.y.c4,.string d.s,.slice d.ro d.rl.length d.rc,.slice d.lo ts.length d.lc]) rfl rfl) λa A=>?_)));rcases tf (jv d.k d.n d.y.q d.s d.rl.length ts.length)with hb6 | hb6
 ·refine gcl A M (ef rfl rfl) ((hb6▸qvg (ts:=ts) (hok.1.below M.bel) (hT.below M.bel))) fun w8 hb7 M a A=>?_;refine sdo (v:=bV false) A (zj rfl zx) λa A=>?_;refine qa (hK5 _ _ (cf A ?_));refine wp_skip (hK4 _ _ (wsk fun K9 hK9=>wsk fun K10 hK10=>wrl (sdo (v:=pA g2 10) A (qb ji rfl rfl) λa A=>?_)));refine sdo A (qh M xr rfl 0 rfl rfl) λa A=>?_;refine sdo A (qw Tryz.underlying28 rfl) λa A=>?_;refine sdm A λa A=>?_;refine qa (hK10 _ _ (wp_block (zw (fun m_ a w1=>∃(i:Nat),m_=1+(ts.length-i)∧(i≤ts.length∧qec qt ((ts.map Dt.tr).drop 0)=qec qt ((ts.map Dt.tr).drop i))∧Sl a 19 [(0,.agg (d.cells ts.length).toArray),(1,pA g2 0),(5,.agg (d.cells ts.length).toArray),(6,bV true),(7,bV false),(8,pA g2 10),(9,.slice d.lo ts.length d.lc),(10,iV (((ts.length:Nat):Int))),(11,iV (((i:Nat):Int)))]∧Mg w w1 (.obj g2 (.cells (d.cells ts.length).toArray 30)::[])) _ ⟨0,rfl,⟨Nat.zero_le _,rfl⟩,A.keep _ (by repeat' constructor),M⟩ ?_)));clear M A;rintro m_ a w11 ⟨i,rfl,hinv13,A,M⟩ K12 hK12;obtain⟨hi0,hin9⟩:=hinv13;refine wsk fun K14 hK14=>wrl ?_;rcases tf (decide (((i:Nat):Int)<((ts.length:Nat):Int)))with hb15 | hb15
  ·have hb15':=of_decide_eq_true hb15;refine sdc A qs hb15 λa A=>?_;refine qa (hK14 _ _ (wsk fun K16 hK16=>wp_cond_true (A.ev rfl) ?_));refine wp_skip (hK16 _ _ (wsk fun K17 hK17=>wp_block (wsk fun K18 hK18=>?_)));obtain⟨t1,b1,o1,hi1,hm1,hr1,hl1,hH1⟩:=kid hrd (i:=i) (by omega);refine wrl (sdo (v:=pA b1 (o1+i*11)) A (zi (k:=i) Tryz.underlying28 (by kernel_rfl) rfl rfl rfl hl1 (by omega)) λa A=>?_);refine sdo A (je M hH1 zr rfl rfl) λa A=>?_;refine jg (vs:=zD) (t:=30) A M rfl rfl rfl pg (qk (z:=.agg zD.toArray) (by kernel_rfl) rfl) (by decide) ?_;intro g19 w20 M a A;refine jc (L':=(.obj g19 (.cells (t1.d.cells t1.ts.length).toArray 30)::.obj g2 (.cells (d.cells ts.length).toArray 30)::[])) A M rfl rfl (ze rfl rfl rfl (by kernel_rfl) M 0 rfl rfl rfl) 0 rfl rfl rfl ?_;intro w21 M;refine qa (hK18 _ _ (wsk fun K22 hK22=>wrl (sdo A (zp M zr rfl 0 rfl (cs:=[iV t1.d.k,iV t1.d.n,bV t1.d.y.q.b1,.slice t1.d.y.o1 t1.d.y.q.t1.length t1.d.y.c1,.slice t1.d.y.o2 t1.d.y.q.q1.length t1.d.y.c2,bV t1.d.y.q.b2,.slice t1.d.y.o3 t1.d.y.q.t2.length t1.d.y.c3,.slice t1.d.y.o4 t1.d.y.q.q2.length t1.d.y.c4,.string t1.d.s,.slice t1.d.ro t1.d.rl.length t1.d.rc,.slice t1.d.lo t1.ts.length t1.d.lc]) rfl rfl) λa A=>?_)));rcases tf (vq qt t1.tr)with hb23 | hb23
   ·refine gcl A M (ef rfl rfl) ((hb23▸ih t1 hm1 (Dt.keep M.bel _ hr1) (hT.below M.bel))) fun w25 hb24 M a A=>?_;refine sdo (v:=bV false) A (zj rfl zx) λa A=>?_;refine qa (hK22 _ _ (cf A ?_));refine wp_skip (hK17 _ _ (wrl (sdo (v:=iV (((i+1:Nat):Int))) A (qe rfl rfl (fun w=>(xd (vx (by omega) (by omega)) w).trans (by rw[show(((i:Nat):Int)+1:Int)=((i+1:Nat):Int)from by omega]))) λa A=>?_)));refine sdm A λa A=>?_;refine qa ?_;replace M:Mg w w25 (.obj g2 (.cells (d.cells ts.length).toArray 30)::[]):=by
     have h9:=M.sub (cN (cC (.refl _)));exact h9
    refine hK12 _ _ _ (by omega) ⟨i+1,rfl,⟨by omega,by rw[hin9,ztj hi1,hb23,Bool.true_and]⟩,A.keep _ (by repeat' constructor),M⟩
   ·refine gcl A M (ef rfl rfl) ((hb23▸ih t1 hm1 (Dt.keep M.bel _ hr1) (hT.below M.bel))) fun w27 hb26 M a A=>?_;refine sdo (v:=bV true) A (zj rfl zx) λa A=>?_;refine qa (hK22 _ _ (ct A ?_));refine wsk fun K28 hK28=>wrl (sda A λa A=>?_);refine qa (hK28 _ _ (wr1 hret A ?_));rw[show vq qt (Dt.mk d ts).tr=false from by rw[qsd,uh,hb6,Bool.true_and,hin9,ztj hi1,hb23,Bool.false_and]];exact⟨rfl,M.bel⟩
  ·have hb15':=of_decide_eq_false hb15;refine sdc A qs hb15 λa A=>?_;refine qa (hK14 _ _ (wsk fun K29 hK29=>wp_cond_false (A.ev rfl) ?_));refine wp_exit (hK9 _ _ (wsk fun K30 hK30=>wrl (sda A λa A=>?_)));refine qa (hK30 _ _ (wr1 hret A ?_));rw[show vq qt (Dt.mk d ts).tr=true from by rw[qsd,uh,hb6,Bool.true_and,hin9,qed (by omega),qec]];exact⟨rfl,M.bel⟩
 ·refine gcl A M (ef rfl rfl) ((hb6▸qvg (ts:=ts) (hok.1.below M.bel) (hT.below M.bel))) fun w32 hb31 M a A=>?_;refine sdo (v:=bV true) A (zj rfl zx) λa A=>?_;refine qa (hK5 _ _ (ct A ?_));refine wsk fun K33 hK33=>wrl (sda A λa A=>?_);refine qa (hK33 _ _ (wr1 hret A ?_));rw[show vq qt (Dt.mk d ts).tr=false from by rw[qsd,uh,hb6,Bool.false_and]];exact⟨rfl,M.bel⟩
theorem zig{w:World}{d:Nd}{ts:List Dt}(hrd:(Dt.mk d ts).rd w):Calls Tryz.prog 54 #[.agg (d.cells ts.length).toArray] w fun e w'=>e=.returned (bV (xh 1 20000 (Dt.mk d ts).tr).1)∧Below w.heap.size w w':=by
 have M:Mg w w ([]):=Mg.start w;refine qn (l:=[(0,.agg (d.cells ts.length).toArray)]) Tryz.func54 rfl Tryz.ntmps54 rfl rfl ?_;intro Q hret hnorm hP a A;refine wsk fun K1 hK1=>wrl (jg (vs:=[iV d.k,iV d.n,bV d.y.q.b1,.slice d.y.o1 d.y.q.t1.length d.y.c1,.slice d.y.o2 d.y.q.q1.length d.y.c2,bV d.y.q.b2,.slice d.y.o3 d.y.q.t2.length d.y.c3,.slice d.y.o4 d.y.q.q2.length d.y.c4,.string d.s,.slice d.ro d.rl.length d.rc,.slice d.lo ts.length d.lc]) (t:=30) A M rfl rfl rfl pg (qp rfl rfl) (by decide) ?_);intro g2 w3 M a A;refine sda A λa A=>?_;refine qa (hK1 _ _ (wsk fun K4 hK4=>?_));have hB1:=M.bel;have hH1:=M.here 0 (cs:=d.cells ts.length) rfl;replace M:Mg w3 w3 []:=Mg.start w3;refine wrl (jg (vs:=[iV 0]) (t:=3) A M rfl rfl rfl pg (qk (z:=iV 0) (by kernel_rfl) rfl) (by decide) ?_);intro g5 w6 M a A;refine jc (L':=(.obj g5 (.cells #[iV 20000] 3)::[])) A M rfl rfl (ze rfl rfl rfl (by kernel_rfl) M 0 rfl rfl rfl) 0 rfl rfl rfl ?_;intro w7 M;refine qa (hK4 _ _ (wsk fun K8 hK8=>wrl (sct A (ef rfl rfl) (zqa (Dt.mk d ts) (Dt.keep hB1 _ hrd) hH1 M (by omega) (by omega) (by omega) (by omega)) ?_)));rintro _ w10 ⟨rfl,hM9⟩;replace M:Mg w3 w10 (.obj g5 (.cells #[iV ((xh 1 20000 (Dt.mk d ts).tr).2)] 3)::[]):=hM9;refine⟨_,rfl,?_⟩;intro a A;refine sda A λa A=>?_;refine qa (hK8 _ _ (wr1 hret A ?_));exact⟨rfl,hB1.trans (M.bel.mono hB1.size)⟩
theorem jde{w:World}{d:Nd}{ts:List Dt}(hrd:(Dt.mk d ts).rd w)(hT:Tabs8 w):Calls Tryz.prog 41 #[.agg (d.cells ts.length).toArray] w fun e w'=>e=.returned (bV (zg qt (Dt.mk d ts).tr))∧Below w.heap.size w w':=by
 have M:Mg w w ([]):=Mg.start w;refine qn (l:=[(0,.agg (d.cells ts.length).toArray)]) Tryz.func41 rfl Tryz.ntmps41 rfl rfl ?_;intro Q hret hnorm hP a A;refine wsk fun K1 hK1=>wrl (jg (vs:=[iV d.k,iV d.n,bV d.y.q.b1,.slice d.y.o1 d.y.q.t1.length d.y.c1,.slice d.y.o2 d.y.q.q1.length d.y.c2,bV d.y.q.b2,.slice d.y.o3 d.y.q.t2.length d.y.c3,.slice d.y.o4 d.y.q.q2.length d.y.c4,.string d.s,.slice d.ro d.rl.length d.rc,.slice d.lo ts.length d.lc]) (t:=30) A M rfl rfl rfl pg (qp rfl rfl) (by decide) ?_);intro g2 w3 M a A;refine sda A λa A=>?_;refine qa (hK1 _ _ (wsk fun K4 hK4=>wrl (sdo A (zp M zr rfl 0 rfl (cs:=[iV d.k,iV d.n,bV d.y.q.b1,.slice d.y.o1 d.y.q.t1.length d.y.c1,.slice d.y.o2 d.y.q.q1.length d.y.c2,bV d.y.q.b2,.slice d.y.o3 d.y.q.t2.length d.y.c3,.slice d.y.o4 d.y.q.q2.length d.y.c4,.string d.s,.slice d.ro d.rl.length d.rc,.slice d.lo ts.length d.lc]) rfl rfl) λa A=>?_)));rcases tf ((xh 1 20000 (Dt.mk d ts).tr).1)with hb5 | hb5
 ·refine gcl A M (ef rfl rfl) ((hb5▸zig (Dt.keep M.bel _ hrd))) fun w7 hb6 M a A=>?_;refine sdm A λa A=>?_;refine sdo A (zp M zr rfl 0 rfl (cs:=[iV d.k,iV d.n,bV d.y.q.b1,.slice d.y.o1 d.y.q.t1.length d.y.c1,.slice d.y.o2 d.y.q.q1.length d.y.c2,bV d.y.q.b2,.slice d.y.o3 d.y.q.t2.length d.y.c3,.slice d.y.o4 d.y.q.q2.length d.y.c4,.string d.s,.slice d.ro d.rl.length d.rc,.slice d.lo ts.length d.lc]) rfl rfl) λa A=>?_;rcases tf (vq qt (Dt.mk d ts).tr)with hb8 | hb8
  ·refine gcl A M (ef rfl rfl) ((hb8▸qqc (Dt.mk d ts) (Dt.keep M.bel _ hrd) (hT.below M.bel))) fun w10 hb9 M a A=>?_;refine sdk (v:=bV true) A λa A=>?_;refine sda A λa A=>?_;refine qa (hK4 _ _ (wr1 hret A ?_));exact⟨by unfold zg; simp_all,M.bel⟩
  ·refine gcl A M (ef rfl rfl) ((hb8▸qqc (Dt.mk d ts) (Dt.keep M.bel _ hrd) (hT.below M.bel))) fun w12 hb11 M a A=>?_;refine sdk (v:=bV false) A λa A=>?_;refine sda A λa A=>?_;refine qa (hK4 _ _ (wr1 hret A ?_));exact⟨by unfold zg; simp_all,M.bel⟩
 ·refine gcl A M (ef rfl rfl) ((hb5▸zig (Dt.keep M.bel _ hrd))) fun w14 hb13 M a A=>?_;refine sdm A λa A=>?_;iterate 2 refine qm A rfl rfl rfl λa A=>?_
  refine sdk (v:=bV false) A λa A=>?_;refine sda A λa A=>?_;refine qa (hK4 _ _ (wr1 hret A ?_));exact⟨by unfold zg; simp_all,M.bel⟩
theorem sound_any{w:World}{t:Dt}(hrd:t.rd w)(hT:Tabs8 w):Calls Tryz.prog 41 #[.agg t.cells.toArray] w fun e w'=>e=.returned (bV (zg qt t.tr))∧Below w.heap.size w w':=by
 obtain⟨d,ts⟩:=t;exact jde hrd hT
end Go.Proofs.YtpckmgemfkiifaaGreatDoor.G
namespace Go.Proofs
open Go.Shelf
def Tryz.laysM316_ren: Go.Shelf.Ren:=⟨fun | 316=>64 | n=>n,fun | 9=>9 | 3=>3 | 4=>4 | 37=>27 | 0=>0 | 127=>87 | 5=>5 | n=>n,fun | n=>n⟩
theorem Tryz.laysM316: Go.Proofs.LaysM.n316 Tryz.prog Tryz.laysM316_ren:={
  mixed:=by kernel_rfl
  f316:=Tryz.func64.trans (congrArg some (by kernel_rfl))
  t0:=Tryz.underlying0
  a0:=Tryz.isAgg0
  z0:=Tryz.sizeOf0
  v0:=Tryz.zeroValue0
  t3:=Tryz.underlying3
  a3:=Tryz.isAgg3
  z3:=Tryz.sizeOf3
  v3:=Tryz.zeroValue3
  t4:=Tryz.underlying4
  a4:=Tryz.isAgg4
  z4:=Tryz.sizeOf4
  v4:=Tryz.zeroValue4
  t9:=Tryz.underlying9
  a9:=Tryz.isAgg9
  z9:=Tryz.sizeOf9
  v9:=Tryz.zeroValue9
  t37:=Tryz.underlying27
  a37:=Tryz.isAgg27
  z37:=Tryz.sizeOf27
  v37:=Tryz.zeroValue27
  t127:=Tryz.underlying87
  a127:=Tryz.isAgg87
  z127:=Tryz.sizeOf87
  v127:=Tryz.zeroValue87
  t5:=Tryz.underlying5
  a5:=Tryz.isAgg5
  z5:=Tryz.sizeOf5
  v5:=Tryz.zeroValue5
  i0:=by kernel_rfl
  i3:=by kernel_rfl
  i4:=by kernel_rfl
  i5:=by kernel_rfl
  i9:=by kernel_rfl
  i37:=by kernel_rfl
  i127:=by kernel_rfl }
open Go.RowKit in
theorem Tryz.stringslite_Clone(s:ByteArray)(w:World)(hlim:s.size≤281474976710656):
    Calls Tryz.prog 64 #[.string s] w fun e w'=>e=.returned (.string s)∧Below w.heap.size w w':=Any.stringslite_Clone Tryz.laysM316 s w hlim
end Go.Proofs
namespace Go.Proofs.YtpckmgemfkiifaaGreatDoor.G
open Go.RowKit
set_option maxRecDepth 100000
theorem jsh{w:World}{so:Option Addr}{ca:Nat}{l:List UInt8}(hb:Rb w so l)(hl:l.length≤1000000000):Calls Tryz.prog 47 #[.slice so l.length ca] w fun e w'=>∃v,e=.returned v∧Mg w w' [.row BY 1 v l.length (Lib.byteCells l)]:=by
 have M:Mg w w ([]):=Mg.start w;refine qn (l:=[(0,.slice so l.length ca)]) Tryz.func47 rfl Tryz.ntmps47 rfl rfl ?_;intro Q hret hnorm hP a A;refine wsk fun K1 hK1=>wrl (sda A λa A=>?_);refine qa (hK1 _ _ (wsk fun K2 hK2=>wrl (sdm A λa A=>?_)));replace M:=M.nilRow (zb zl) BY 1;refine xy (e:=BY) (sz:=1) (k:=0) (q:=0) (m:=l.length) (xs:=[]) (news:=Lib.byteCells l) (L':=fun v3=>(.row BY 1 (v3) (0+l.length) ([]++Lib.byteCells l)::[])) A rfl rfl rfl (qgf (z:=.int .u8 0) (sz:=1) (by_:=1) Tryz.underlying27 (by kernel_rfl) rfl rfl rfl M 0 rfl rfl rfl (zuh l) ((jda hb).below M.bel) (zxj l) (by omega)) (fun _=>rfl) ?_;intro v3 w4 M a A;refine sda A λa A=>?_;refine qa (hK2 _ _ (wr1 hret A ?_));exact⟨_,rfl,by rw[Nat.zero_add,List.nil_append]at M; exact M⟩
theorem jsi{w:World}{so:Option Addr}{ca:Nat}{l:List Nat}(hb:Rd w so l)(hl:l.length≤1000000000):Calls Tryz.prog 63 #[.slice so l.length ca] w fun e w'=>∃v,e=.returned v∧Mg w w' [.row 78 1 v l.length (vz l)]:=by
 have M:Mg w w ([]):=Mg.start w;refine qn (l:=[(0,.slice so l.length ca)]) Tryz.func63 rfl Tryz.ntmps63 rfl rfl ?_;intro Q hret hnorm hP a A;refine wsk fun K1 hK1=>wrl (sda A λa A=>?_);refine qa (hK1 _ _ (wsk fun K2 hK2=>wrl (sdm A λa A=>?_)));replace M:=M.nilRow (zb zl) 78 1;refine xy (e:=78) (sz:=1) (k:=0) (q:=0) (m:=l.length) (xs:=[]) (news:=vz l) (L':=fun v3=>(.row 78 1 (v3) (0+l.length) ([]++vz l)::[])) A rfl rfl rfl (qgf (z:=.int .u32 0) (sz:=1) (by_:=4) Tryz.underlying22 (by kernel_rfl) rfl rfl rfl M 0 rfl rfl rfl (zug l) ((jdb hb).below M.bel) (yi l) (by omega)) (fun _=>rfl) ?_;intro v3 w4 M a A;refine sda A λa A=>?_;refine qa (hK2 _ _ (wr1 hret A ?_));exact⟨_,rfl,by rw[Nat.zero_add,List.nil_append]at M; exact M⟩
theorem jpc{w:World}{so:Option Addr}{ca:Nat}{ts:List Dt}(hb:Rt w so ts)(hl:ts.length≤1000000000):Calls Tryz.prog 65 #[.slice so ts.length ca] w fun e w'=>∃v,e=.returned v∧Mg w w' [.row 30 11 v ts.length (cellsOf ts)]:=by
 have M:Mg w w ([]):=Mg.start w;refine qn (l:=[(0,.slice so ts.length ca)]) Tryz.func65 rfl Tryz.ntmps65 rfl rfl ?_;intro Q hret hnorm hP a A;refine wsk fun K1 hK1=>wrl (sda A λa A=>?_);refine qa (hK1 _ _ (wsk fun K2 hK2=>wrl (sdm A λa A=>?_)));replace M:=M.nilRow (zb zl) 30 11;refine xy (e:=30) (sz:=11) (k:=0) (q:=0) (m:=ts.length) (xs:=[]) (news:=cellsOf ts) (L':=fun v3=>(.row 30 11 (v3) (0+ts.length) ([]++cellsOf ts)::[])) A rfl rfl rfl (qgf (z:=.agg #[iV 0,iV 0,bV false,.slice none 0 0,.slice none 0 0,bV false,.slice none 0 0,.slice none 0 0,.string ⟨#[]⟩,.slice none 0 0,.slice none 0 0]) (sz:=11) (by_:=192) Tryz.underlying28 (by kernel_rfl) rfl rfl rfl M 0 rfl rfl rfl (ym ts) ((jpb hb).below M.bel) (kf ts) (by omega)) (fun _=>rfl) ?_;intro v3 w4 M a A;refine sda A λa A=>?_;refine qa (hK2 _ _ (wr1 hret A ?_));exact⟨_,rfl,by rw[Nat.zero_add,List.nil_append]at M; exact M⟩
theorem jkj{w:World}{so:Option Addr}{ca:Nat}{l:List UInt8}(hb:Rb w so l)(hl:l.length≤1000000000):Calls Tryz.prog 47 #[.slice so l.length ca] w fun e w'=>∃so' ca',e=.returned (.slice so' l.length ca')∧(Rb w' so' l∧In (w.heap.size≤·) so' l∧l.length≤ca'∧ca'≤9223372036854775807)∧Below w.heap.size w w':=by
 refine(jsh hb hl).mono ?_;rintro _ w' ⟨v,rfl,M⟩;obtain⟨so',ca',rfl⟩:=qud (M.has 0 rfl);exact⟨so',ca',rfl,⟨(jph M 0 rfl).1,zpe (M.has 0 rfl) _,qna (M.has 0 rfl),jkd (M.has 0 rfl)⟩,M.bel⟩
theorem zui{w:World}{so:Option Addr}{ca:Nat}{l:List Nat}(hb:Rd w so l)(hl:l.length≤1000000000):Calls Tryz.prog 63 #[.slice so l.length ca] w fun e w'=>∃so' ca',e=.returned (.slice so' l.length ca')∧(Sc w' so' ca' l∧In (w.heap.size≤·) so' l)∧Below w.heap.size w w':=by
 refine(jsi hb hl).mono ?_;rintro _ w' ⟨v,rfl,M⟩;obtain⟨so',ca',rfl⟩:=qud (M.has 0 rfl);exact⟨so',ca',rfl,⟨jqe hb.dig (M.has 0 rfl),zpe (M.has 0 rfl) _⟩,M.bel⟩
theorem zuj{w:World}{b:Bool}{o1 o2:Option Addr}{c1 c2:Nat}{t q:List Nat}(h1:Sc w o1 c1 t)(h2:Sc w o2 c2 q)(l1:t.length≤1000000000)(l2:q.length≤1000000000):Calls Tryz.prog 45 #[.agg #[bV b,.slice o1 t.length c1,.slice o2 q.length c2]] w fun e w'=>∃p1 d1 p2 d2,e=.returned (.agg #[bV b,.slice p1 t.length d1,.slice p2 q.length d2])∧(Sc w' p1 d1 t∧In (w.heap.size≤·) p1 t∧Sc w' p2 d2 q∧In (w.heap.size≤·) p2 q)∧Below w.heap.size w w':=by
 have M:Mg w w ([]):=Mg.start w;refine qn (l:=[(0,.agg #[bV b,.slice o1 t.length c1,.slice o2 q.length c2])]) Tryz.func45 rfl Tryz.ntmps45 rfl rfl ?_;intro Q hret hnorm hP a A;refine wsk fun K1 hK1=>wrl (jg (vs:=[bV b,.slice o1 t.length c1,.slice o2 q.length c2]) (t:=24) A M rfl rfl rfl pg (qp rfl rfl) (by decide) ?_);intro g2 w3 M a A;refine jg (vs:=[bV false,.slice none 0 0,.slice none 0 0]) (t:=24) A M rfl rfl rfl pg (qk (z:=.agg #[bV false,.slice none 0 0,.slice none 0 0]) (by kernel_rfl) rfl) (by decide) ?_;intro g4 w5 M a A;refine qa (hK1 _ _ (wsk fun K6 hK6=>zu (S:=fun w1=>Mg w w1 (.obj g2 (.cells #[bV b,.slice o1 t.length c1,.slice o2 q.length c2] 24)::[])) (by kernel_rfl) ?_));replace M:=M.drew;refine atk (v:=pA g2 0) A 0 rfl hP (M.sub (cN (cC ns))) (λ_ M=>qb zph rfl rfl) λa A=>?_;refine atk A 1 rfl hP (M.sub (cN (cC ns))) (λ_ M=>qh M o94 rfl 0 rfl rfl) λa A=>?_;refine atk (v:=pA g2 1) A 2 rfl hP (M.sub (cN (cC ns))) (λ_ M=>qb zpi rfl rfl) λa A=>?_;refine atk A 3 rfl hP (M.sub (cN (cC ns))) (λ_ M=>qh M zya rfl 0 rfl rfl) λa A=>?_;refine atk (v:=pA g2 2) A 5 rfl hP (M.sub (cN (cC ns))) (λ_ M=>qb zpj rfl rfl) λa A=>?_;refine atk A 6 rfl hP (M.sub (cN (cC ns))) (λ_ M=>qh M zya rfl 0 rfl rfl) λa A=>?_;have hlt7:=(Ck.lt (M.has 0 rfl) g4 rfl).2;have hlt8:=(Ck.lt (M.has 1 rfl) g2 rfl).2;have hsz9:=M.bel.size;refine qf (by kernel_rfl) (qr A 4 rfl rfl rfl rfl (ef rfl rfl) (zui (h1.rd.below M.bel) l1) ?_);rintro _ w15 ⟨so10,ca11,rfl,⟨hf13,hf14⟩,hb12⟩;replace M:=M.call hb12;refine⟨_,rfl,(M.sub (cN (cC ns))),?_⟩;intro a A;have hlt16:=(Ck.lt (M.has 0 rfl) g4 rfl).2;have hlt17:=(Ck.lt (M.has 1 rfl) g2 rfl).2;have hsz18:=M.bel.size;refine qf (by kernel_rfl) (qr A 7 rfl rfl rfl rfl (ef rfl rfl) (zui (h2.rd.below M.bel) l2) ?_);rintro _ w24 ⟨so19,ca20,rfl,⟨hf22,hf23⟩,hb21⟩;replace hf13:=hf13.below hb21;replace M:=M.call hb21;refine⟨_,rfl,(M.sub (cN (cC ns))),?_⟩;intro a A
 refine atk (v:=.agg #[bV b,.slice so10 t.length ca11,.slice so19 q.length ca20]) A 8 rfl hP (M.sub (cN (cC ns))) (λ_ M=>zk rfl (fun w=>by kernel_rfl)) λa A=>?_;refine qf (by kernel_rfl) (qva (L':=(.obj g4 (.cells #[bV b,.slice so10 t.length ca11,.slice so19 q.length ca20] 24)::.obj g2 (.cells #[bV b,.slice o1 t.length c1,.slice o2 q.length c2] 24)::[])) A M 9 rfl rfl rfl (ze rfl rfl rfl (by kernel_rfl) M 0 rfl rfl rfl) 0 rfl rfl rfl ?_);intro w25 M hK26;replace hf13:=un hf13 (hf14.mono fun b hb=>by rintro rfl; omega) hK26;replace hf22:=un hf22 (hf23.mono fun b hb=>by rintro rfl; omega) hK26;refine⟨(M.sub (cN (cC ns))),?_⟩;refine qz (by kernel_rfl) ?_;refine hK6 _ _ (wp_ret (hret _ _ (en1 A rfl (jf M qve rfl 0 rfl (cs:=[bV b,.slice so10 t.length ca11,.slice so19 q.length ca20]) rfl rfl) ?_)));exact⟨_,_,_,_,rfl,⟨hf13,In.mono hf14 (fun b hb=>Nat.le_trans hsz9 hb),hf22,In.mono hf23 (fun b hb=>Nat.le_trans hsz18 hb)⟩,M.bel⟩
theorem clone_any{w:World}{s:ByteArray}(hs:s.size≤281474976710656):Calls Tryz.prog 46 #[.string s] w fun e w'=>e=.returned (.string s)∧Below w.heap.size w w':=by
 have M:Mg w w ([]):=Mg.start w;refine qn (l:=[(0,.string s)]) Tryz.func46 rfl Tryz.ntmps46 rfl rfl ?_;intro Q hret hnorm hP a A;refine wsk fun K1 hK1=>wrl (sda A λa A=>?_);refine qa (hK1 _ _ (wsk fun K2 hK2=>wrl (sdm A λa A=>?_)));refine gcl A M (ef rfl rfl) (Tryz.stringslite_Clone s _ hs) fun w3 hb1 M a A=>?_;refine sda A λa A=>?_;refine qa (hK2 _ _ (wr1 hret A ?_));exact⟨rfl,M.bel⟩
def Copies(t:Dt):Prop:=∀{w:World},t.rd w→t.tr.bulk≤1000000000→Calls Tryz.prog 27 #[.agg (t.d.cells t.ts.length).toArray] w fun e w'=>∃t2:Dt,e=.returned (.agg (t2.d.cells t2.ts.length).toArray)∧(t2.rd w'∧t2.at_ (w.heap.size≤·)∧t2.tr=t.tr)∧Below w.heap.size w w'
def CopyAll(ts:List Dt):Prop:=∀{w:World} {so:Option Addr} {ca:Nat},Rt w so ts→(∀t∈ts,t.rd w)→Tr.bulks (ts.map Dt.tr)≤1000000000→Calls Tryz.prog 48 #[.slice so ts.length ca] w fun e w'=>∃v us,e=.returned v∧(us.map Dt.tr=ts.map Dt.tr∧(∀t∈us,t.rd w'∧t.at_ (fun b=>w.heap.size≤b∧v.ownBlock≠some b)))∧Mg w w' [.row 30 11 v us.length (cellsOf us)]
theorem zqb{ts:List Dt}(ih:∀t∈ts,Copies t)(hne:ts≠[]):CopyAll ts:=by
 intro w so ca hR hD hb;have hbl:=qeg ts;have M:Mg w w ([]):=Mg.start w;refine qn (l:=[(0,.slice so ts.length ca)]) Tryz.func48 rfl Tryz.ntmps48 rfl rfl ?_;intro Q hret hnorm hP a A;refine wsk fun K1 hK1=>wrl (sda A λa A=>?_);refine qa (hK1 _ _ (wsk fun K2 hK2=>wrl (sdm A λa A=>?_)));refine sct A (ef rfl rfl) (jpc (hR.below M.bel) (by have:=qeg ts; omega)) ?_;rintro _ w4 ⟨v9,rfl,hM3⟩;obtain⟨g9,c9,rfl⟩:=qvb (hM3.has 0 rfl) (fun k=>hne (List.length_eq_zero_iff.1 k));replace M:Mg w w4 (.row 30 11 (.slice (aO g9) ts.length c9) ts.length (cellsOf ts)::[]):=hM3;refine⟨_,rfl,?_⟩;intro a A;refine sda A λa A=>?_;refine qa (hK2 _ _ (wsk fun K5 hK5=>wsk fun K6 hK6=>wrl (sdm A λa A=>?_)));refine sdo A (qw Tryz.underlying28 rfl) λa A=>?_;refine sdm A λa A=>?_;refine qa (hK6 _ _ (wp_block (zw (fun m_ a w1=>∃(i:Nat) (cs:List Dt),m_=1+(ts.length-i)∧(i≤ts.length∧cs.length=i∧cs.map Dt.tr=(ts.take i).map Dt.tr∧CsOk w.heap.size g9 w1 cs)∧Sl a 22 [(0,.slice so ts.length ca),(2,.slice none 0 0),(3,.slice (aO g9) ts.length c9),(6,.slice so ts.length ca),(7,.slice (aO g9) ts.length c9),(8,.slice (aO g9) ts.length c9),(9,iV (((ts.length:Nat):Int))),(10,iV (((i:Nat):Int)))]∧Mg w w1 (.row 30 11 (.slice (aO g9) ts.length c9) ts.length (cellsOf (cs++ts.drop i))::[])) _ ⟨0,[],rfl,⟨Nat.zero_le _,rfl,rfl,jdc⟩,A.keep _ (by repeat' constructor),M⟩ ?_)));clear M A;rintro m_ a w7 ⟨i,cs,rfl,hinv9,A,M⟩ K8 hK8;obtain⟨hi0,hcl,htr,hcs⟩:=hinv9;refine wsk fun K10 hK10=>wrl ?_;rcases tf (decide (((i:Nat):Int)<((ts.length:Nat):Int)))with hb11 | hb11
 ·have hb11':=of_decide_eq_true hb11;refine sdc A qs hb11 λa A=>?_;refine qa (hK10 _ _ (wsk fun K12 hK12=>wp_cond_true (A.ev rfl) ?_));refine wp_skip (hK12 _ _ (wsk fun K13 hK13=>wp_block (wsk fun K14 hK14=>?_)));obtain⟨t1,i1,m1,it1⟩:=jqf hcl (show i<ts.length by omega);refine wrl (sdm A λa A=>?_);refine sdo (v:=pA g9 (i*11)) A (zd (k:=i) Tryz.underlying28 (by kernel_rfl) rfl rfl rfl (by omega)) λa A=>?_;refine sdo A (jo (o:=i*11) (cs:=t1.d.cells t1.ts.length) M 0 rfl zr (jb it1) rfl rfl) λa A=>?_;refine zpf (vs:=zD) (t:=30) A M rfl rfl rfl pg (qk (z:=.agg zD.toArray) (by kernel_rfl) rfl) (by decide) ?_;intro g15 w16 M hg17 hb18 a A;refine sda A λa A=>?_;refine vi (L':=(.obj g15 (.cells (t1.d.cells t1.ts.length).toArray 30)::.row 30 11 (.slice (aO g9) ts.length c9) ts.length (cellsOf (cs++ts.drop i))::[])) A M rfl rfl (ze rfl rfl rfl (by kernel_rfl) M 0 rfl rfl rfl) 0 rfl rfl rfl ?_;intro w19 M hK20;replace hcs:=hcs.new hg17 hb18 hK20;refine qa (hK14 _ _ (wrl ?_));iterate 2 refine sdm A λa A=>?_
  refine sdo A (zp M zr rfl 0 rfl (cs:=(t1.d.cells t1.ts.length)) rfl rfl) λa A=>?_;have hltg:=(Ck.lt (M.has 1 rfl) g9 rfl).2;have hsz:=M.bel.size;refine sct A (ef rfl rfl) (ih t1 m1 (Dt.keep M.bel _ (hD t1 m1)) (by have:=qsh m1; omega)) ?_;rintro _ w21 ⟨t2,rfl,⟨hr2,ha2,ht2⟩,hb2⟩;replace hcs:=hcs.below hb2;replace M:=M.call hb2;refine⟨_,rfl,?_⟩;intro a A;refine sdo (v:=pA g9 (i*11)) A (zd (k:=i) Tryz.underlying28 (by kernel_rfl) rfl rfl rfl (by omega)) λa A=>?_;refine zxi (L':=(.obj g15 (.cells (t1.d.cells t1.ts.length).toArray 30)::.row 30 11 (.slice (aO g9) ts.length c9) ts.length (cellsOf ((cs++[t2])++ts.drop (i+1)))::[])) A M rfl rfl (jy (cs:=t2.d.cells t2.ts.length) rfl rfl rfl (by kernel_rfl) M 1 rfl (by show _+11≤_; omega) (jn t2)) 1 rfl (jz (by rw[List.length_append,List.length_drop]; omega) (jke t2 hcl (by omega))) rfl ?_;intro w22 M hK23;replace hcs:=hcs.snoc hr2 (Dt.at_mono (fun b hb=>⟨by omega,by rintro rfl; omega⟩) _ ha2) hK23;refine qa (hK13 _ _ (wrl (sdo (v:=iV (((i+1:Nat):Int))) A (qe rfl rfl (fun w=>(xd (vx (by omega) (by omega)) w).trans (by rw[show(((i:Nat):Int)+1:Int)=((i+1:Nat):Int)from by omega]))) λa A=>?_)));refine sdm A λa A=>?_;refine qa ?_;replace M:Mg w w22 (.row 30 11 (.slice (aO g9) ts.length c9) ts.length (cellsOf ((cs++[t2])++ts.drop (i+1)))::[]):=by
   have h9:=M.sub (cN (cC (.refl _)));exact h9
  refine hK8 _ _ _ (by omega) ⟨i+1,cs++[t2],rfl,⟨by omega,by rw[List.length_append]; simp only[List.length_cons,List.length_nil]; omega,jkf htr i1 ht2,hcs⟩,A.keep _ (by repeat' constructor),M⟩
 ·have hb11':=of_decide_eq_false hb11;refine sdc A qs hb11 λa A=>?_;refine qa (hK10 _ _ (wsk fun K24 hK24=>wp_cond_false (A.ev rfl) ?_));refine wp_exit (hK5 _ _ (wsk fun K25 hK25=>wrl (sdm A λa A=>?_)));refine sda A λa A=>?_;refine qa (hK25 _ _ (wr1 hret A ?_));have e9:cs++ts.drop i=cs:=by rw[List.drop_of_length_le (by omega),List.append_nil]
  rw[e9]at M;have e8:ts.length=cs.length:=by omega
  exact⟨_,cs,rfl,⟨by rw[htr,List.take_of_length_le (by omega)],fun t ht=>⟨(hcs t ht).1,Dt.at_mono (fun b hb=>⟨hb.1,fun e=>hb.2 (Option.some.inj e).symm⟩) _ (hcs t ht).2⟩⟩,e8▸M⟩
theorem zyd: CopyAll []:=by
 intro w so ca hR hD hb;have M:Mg w w ([]):=Mg.start w;refine qn (l:=[(0,.slice so (([]:List Dt).length) ca)]) Tryz.func48 rfl Tryz.ntmps48 rfl rfl ?_;intro Q hret hnorm hP a A;refine wsk fun K1 hK1=>wrl (sda A λa A=>?_);refine qa (hK1 _ _ (wsk fun K2 hK2=>wrl (sdm A λa A=>?_)));refine sct A (ef rfl rfl) (jpc (ts:=[]) (fun k=>absurd rfl k) (by decide)) ?_;rintro _ w4 ⟨v9,rfl,hM3⟩;obtain⟨so9,c9,rfl⟩:=uz (hM3.has 0 rfl);replace M:Mg w w4 (.row 30 11 (.slice so9 (([]:List Dt).length) c9) (([]:List Dt).length) (cellsOf [])::[]):=hM3;refine⟨_,rfl,?_⟩;intro a A;refine sda A λa A=>?_;refine qa (hK2 _ _ (wsk fun K5 hK5=>wsk fun K6 hK6=>wrl (sdm A λa A=>?_)));refine sdo A (qw Tryz.underlying28 rfl) λa A=>?_;refine sdm A λa A=>?_;refine qa (hK6 _ _ (wp_block (wp_loop_rounds 12 ?_)));refine kh fun K7 hK7=>?_;refine wsk fun K8 hK8=>wrl (sdo (v:=bV false) A (qe rfl rfl (fun w=>(qs w).trans (by rw[show(decide (0<((([]:List Dt).length:Nat):Int)))=false from(by rfl)]))) λa A=>?_);refine qa (hK8 _ _ (wsk fun K9 hK9=>wp_cond_false (A.ev rfl) ?_));refine wp_exit (hK5 _ _ (wsk fun K10 hK10=>wrl (sdm A λa A=>?_)));refine sda A λa A=>?_;refine qa (hK10 _ _ (wr1 hret A ?_));exact⟨_,[],rfl,⟨rfl,fun t h=>by cases h⟩,M⟩
theorem zye{ts:List Dt}(ih:∀t∈ts,Copies t):CopyAll ts:=by
 by_cases h:ts=[]
 ·subst h; exact zyd
 ·exact zqb ih h
theorem qvh: ∀t:Dt,Copies t:=Dt.indT fun d ts ih=>by
 intro w hrd hb;have hok:=(Dt.rd_iff.1 hrd);rw[zpg]at hb;have M:Mg w w ([]):=Mg.start w;refine qn (l:=[(0,.agg (d.cells ts.length).toArray)]) Tryz.func27 rfl Tryz.ntmps27 rfl rfl ?_;intro Q hret hnorm hP a A;refine wsk fun K1 hK1=>wrl (jg (vs:=(d.cells ts.length)) (t:=30) A M rfl rfl rfl pg (qp rfl rfl) (by decide) ?_);intro g2 w3 M a A;refine jg (vs:=zD) (t:=30) A M rfl rfl rfl pg (qk (z:=.agg zD.toArray) (by kernel_rfl) rfl) (by decide) ?_;intro g4 w5 M a A;refine qa (hK1 _ _ (wsk fun K6 hK6=>zu (S:=fun w1=>Mg w w1 (.obj g2 (.cells (d.cells ts.length).toArray 30)::[])) (by kernel_rfl) ?_));replace M:=M.drew;refine atk (v:=pA g2 0) A 0 rfl hP (M.sub (cN (cC ns))) (λ_ M=>qb jq rfl rfl) λa A=>?_;refine atk A 1 rfl hP (M.sub (cN (cC ns))) (λ_ M=>qh M o93 rfl 0 rfl rfl) λa A=>?_;refine atk (v:=pA g2 1) A 2 rfl hP (M.sub (cN (cC ns))) (λ_ M=>qb xz rfl rfl) λa A=>?_;refine atk A 3 rfl hP (M.sub (cN (cC ns))) (λ_ M=>qh M o93 rfl 0 rfl rfl) λa A=>?_;refine atk (v:=pA g2 2) A 4 rfl hP (M.sub (cN (cC ns))) (λ_ M=>qb km rfl rfl) λa A=>?_;refine atk (v:=pA g2 2) A 5 rfl hP (M.sub (cN (cC ns))) (λ_ M=>qb qvc rfl rfl) λa A=>?_;refine atk A 6 rfl hP (M.sub (cN (cC ns))) (λ_ M=>zp M qve rfl 0 rfl (cs:=[bV d.y.q.b1,.slice d.y.o1 d.y.q.t1.length d.y.c1,.slice d.y.o2 d.y.q.q1.length d.y.c2]) rfl rfl) λa A=>?_;refine atk (v:=pA g2 2) A 8 rfl hP (M.sub (cN (cC ns))) (λ_ M=>qb km rfl rfl) λa A=>?_;refine atk (v:=pA g2 5) A 9 rfl hP (M.sub (cN (cC ns))) (λ_ M=>qb qvd rfl rfl) λa A=>?_;refine atk A 10 rfl hP (M.sub (cN (cC ns))) (λ_ M=>zp M qve rfl 0 rfl (cs:=[bV d.y.q.b2,.slice d.y.o3 d.y.q.t2.length d.y.c3,.slice d.y.o4 d.y.q.q2.length d.y.c4]) rfl rfl) λa A=>?_;refine atk (v:=pA g2 8) A 13 rfl hP (M.sub (cN (cC ns))) (λ_ M=>qb xk rfl rfl) λa A=>?_;refine atk A 14 rfl hP (M.sub (cN (cC ns))) (λ_ M=>qh M o99 rfl 0 rfl rfl) λa A=>?_;refine atk (v:=pA g2 9) A 16 rfl hP (M.sub (cN (cC ns))) (λ_ M=>qb uj rfl rfl) λa A=>?_
 refine atk A 17 rfl hP (M.sub (cN (cC ns))) (λ_ M=>qh M qri rfl 0 rfl rfl) λa A=>?_;refine atk (v:=pA g2 10) A 19 rfl hP (M.sub (cN (cC ns))) (λ_ M=>qb ji rfl rfl) λa A=>?_;refine atk A 20 rfl hP (M.sub (cN (cC ns))) (λ_ M=>qh M xr rfl 0 rfl rfl) λa A=>?_;have hlt7:=(Ck.lt (M.has 0 rfl) g4 rfl).2;have hlt8:=(Ck.lt (M.has 1 rfl) g2 rfl).2;have hsz9:=M.bel.size;refine qf (by kernel_rfl) (qr A 7 rfl rfl rfl rfl (ef rfl rfl) (zuj (hok.1.num.s1.below M.bel) (hok.1.num.s2.below M.bel) (by omega) (by omega)) ?_);rintro _ w11 ⟨p1,e1,p2,e2,rfl,⟨hs1,hi1,hs2,hi2⟩,hb10⟩;replace M:=M.call hb10;refine⟨_,rfl,(M.sub (cN (cC ns))),?_⟩;intro a A;have hlt12:=(Ck.lt (M.has 0 rfl) g4 rfl).2;have hlt13:=(Ck.lt (M.has 1 rfl) g2 rfl).2;have hsz14:=M.bel.size;refine qf (by kernel_rfl) (qr A 11 rfl rfl rfl rfl (ef rfl rfl) (zuj (hok.1.num.s3.below M.bel) (hok.1.num.s4.below M.bel) (by omega) (by omega)) ?_);rintro _ w16 ⟨p3,e3,p4,e4,rfl,⟨hs3,hi3,hs4,hi4⟩,hb15⟩;replace hs1:=hs1.below hb15;replace hs2:=hs2.below hb15;replace M:=M.call hb15;refine⟨_,rfl,(M.sub (cN (cC ns))),?_⟩;intro a A;refine atk (v:=.agg #[bV d.y.q.b1,.slice p1 d.y.q.t1.length e1,.slice p2 d.y.q.q1.length e2,bV d.y.q.b2,.slice p3 d.y.q.t2.length e3,.slice p4 d.y.q.q2.length e4]) A 12 rfl hP (M.sub (cN (cC ns))) (λ_ M=>zk rfl (fun w=>by kernel_rfl)) λa A=>?_;refine qf (by kernel_rfl) (qr A 15 rfl rfl rfl rfl (ef rfl rfl) (clone_any (by omega)) ?_);rintro _ w17 ⟨rfl,hbc⟩;replace hs1:=hs1.below hbc;replace hs2:=hs2.below hbc;replace hs3:=hs3.below hbc;replace hs4:=hs4.below hbc;replace M:=M.call hbc;refine⟨_,rfl,(M.sub (cN (cC ns))),?_⟩;intro a A;have hlt18:=(Ck.lt (M.has 0 rfl) g4 rfl).2;have hlt19:=(Ck.lt (M.has 1 rfl) g2 rfl).2;have hz5:=M.bel.size;refine qf (by kernel_rfl) (qr A 18 rfl rfl rfl rfl (ef rfl rfl) (jkj (hok.1.raw.below M.bel) (by omega)) ?_);rintro _ w20 ⟨ro5,rc5,rfl,⟨hr5,hi5,hc5,hm5⟩,hb5⟩;replace hs1:=hs1.below hb5
 replace hs2:=hs2.below hb5;replace hs3:=hs3.below hb5;replace hs4:=hs4.below hb5;replace M:=M.call hb5;refine⟨_,rfl,(M.sub (cN (cC ns))),?_⟩;intro a A;have hlt21:=(Ck.lt (M.has 0 rfl) g4 rfl).2;have hlt22:=(Ck.lt (M.has 1 rfl) g2 rfl).2;have hz6:=M.bel.size;refine qf (by kernel_rfl) (qr A 21 rfl rfl rfl rfl (ef rfl rfl) (zye ih (hok.2.2.2.1.below M.bel) (fun t ht=>Dt.keep M.bel _ (hok.2.2.2.2 t ht)) (by omega)) ?_);rintro _ w23 ⟨v6,us,rfl,⟨htr,hus⟩,hM6⟩;obtain⟨lo6,lc6,rfl⟩:=uz (hM6.has 0 rfl);replace hs1:=hs1.below hM6.bel;replace hs2:=hs2.below hM6.bel;replace hs3:=hs3.below hM6.bel;replace hs4:=hs4.below hM6.bel;replace hr5:=hr5.below hM6.bel;replace M:Mg w w23 (.row 30 11 (.slice lo6 us.length lc6) us.length (cellsOf us)::.obj g4 zC::.obj g2 (.cells (d.cells ts.length).toArray 30)::[]):=(M.both hM6 (qy (by simp) (qy (by simp) (zb zl))) (qy (by simp) (zb zl)));refine⟨_,rfl,(M.sub (cN (cN (cC ns)))),?_⟩;intro a A;refine atk (v:=.agg #[iV d.k,iV d.n,bV d.y.q.b1,.slice p1 d.y.q.t1.length e1,.slice p2 d.y.q.q1.length e2,bV d.y.q.b2,.slice p3 d.y.q.t2.length e3,.slice p4 d.y.q.q2.length e4,.string d.s,.slice ro5 d.rl.length rc5,.slice lo6 us.length lc6]) A 22 rfl hP (M.sub (cN (cN (cC ns)))) (λ_ M=>zk rfl (fun w=>by kernel_rfl)) λa A=>?_;refine qf (by kernel_rfl) (qva (L':=(.row 30 11 (.slice lo6 us.length lc6) us.length (cellsOf us)::.obj g4 (.cells #[iV d.k,iV d.n,bV d.y.q.b1,.slice p1 d.y.q.t1.length e1,.slice p2 d.y.q.q1.length e2,bV d.y.q.b2,.slice p3 d.y.q.t2.length e3,.slice p4 d.y.q.q2.length e4,.string d.s,.slice ro5 d.rl.length rc5,.slice lo6 us.length lc6] 30)::.obj g2 (.cells (d.cells ts.length).toArray 30)::[])) A M 23 rfl rfl rfl (ze rfl rfl rfl (by kernel_rfl) M 1 rfl rfl rfl) 1 rfl rfl rfl ?_);intro w24 M hK25;replace hs1:=un hs1 (hi1.mono fun b hb=>by rintro rfl; omega) hK25;replace hs2:=un hs2 (hi2.mono fun b hb=>by rintro rfl; omega) hK25
 replace hs3:=un hs3 (hi3.mono fun b hb=>by rintro rfl; omega) hK25;replace hs4:=un hs4 (hi4.mono fun b hb=>by rintro rfl; omega) hK25;replace hr5:=zuf hr5 (hi5.mono fun b hb=>by rintro rfl; omega) hK25;have hu9:∀t∈us,t.rd w24:=fun t ht=>Dt.kept hK25 _ (hus t ht).1 (Dt.at_mono (fun b hb=>by rintro rfl; have:=hb.1; omega) _ (hus t ht).2);refine⟨(M.sub (cN (cN (cC ns)))),?_⟩;refine qz (by kernel_rfl) ?_;refine hK6 _ _ (wp_ret (hret _ _ (en1 A rfl (jf M zr rfl 1 rfl (cs:=[iV d.k,iV d.n,bV d.y.q.b1,.slice p1 d.y.q.t1.length e1,.slice p2 d.y.q.q1.length e2,bV d.y.q.b2,.slice p3 d.y.q.t2.length e3,.slice p4 d.y.q.q2.length e4,.string d.s,.slice ro5 d.rl.length rc5,.slice lo6 us.length lc6]) rfl rfl) ?_)));have ho9:=yw (M.has 0 rfl);exact⟨.mk ⟨d.k,d.n,⟨d.y.q,p1,e1,p2,e2,p3,e3,p4,e4⟩,d.s,ro5,rc5,d.rl,lo6,lc6⟩ us,rfl,⟨Dt.rd_iff.2 ⟨{ hok.1 with num:=⟨hs1,hs2,hs3,hs4⟩,raw:=hr5,rcap:=hc5,rmax:=hm5 },ho9.2.2.1,ho9.2.2.2,ho9.1,hu9⟩,Dt.at_iff.2 ⟨⟨hi1.mono fun b hb=>Nat.le_trans hsz9 hb,hi2.mono fun b hb=>Nat.le_trans hsz9 hb,hi3.mono fun b hb=>Nat.le_trans hsz14 hb,hi4.mono fun b hb=>Nat.le_trans hsz14 hb,hi5.mono fun b hb=>Nat.le_trans hz5 hb⟩,zpe (M.has 0 rfl) _,fun t ht=>Dt.at_mono (fun b hb=>Nat.le_trans hz6 hb.1) _ (hus t ht).2⟩,by rw[Dt.tr_mk,Dt.tr_mk,htr]⟩,M.bel⟩
def qvi: Dt:=.mk ⟨1,0,⟨Q6.zero,none,0,none,0,none,0,none,0⟩,⟨#[]⟩,none,0,[],none,0⟩ []
def ql: Dt:=.mk ⟨0,0,⟨Q6.zero,none,0,none,0,none,0,none,0⟩,⟨#[]⟩,none,0,[],none,0⟩ []
def nilT: Tr:=.mk 1 0 Q6.zero ⟨#[]⟩ [] []
def yn: Tr:=.mk 0 0 Q6.zero ⟨#[]⟩ [] []
theorem qnb: qvi.tr=nilT:=by unfold qvi nilT; rw[Dt.tr_mk]; rfl
theorem vj: ql.tr=yn:=by unfold ql yn; rw[Dt.tr_mk]; rfl
theorem zah: LenQ Q6.zero:=⟨by decide,by decide,by decide,by decide⟩
theorem qsi(w:World)(k:Int)(h0:-9223372036854775808≤k)(h1:k≤9223372036854775807):(Dt.mk ⟨k,0,⟨Q6.zero,none,0,none,0,none,0,none,0⟩,⟨#[]⟩,none,0,[],none,0⟩ []).rd w:=
  Dt.rd_iff.2 ⟨⟨⟨Sc.none w,Sc.none w,Sc.none w,Sc.none w⟩,zah,⟨fun h=>absurd rfl h⟩,Nat.le_refl _,by show(0:Nat)≤_; omega,h0,h1,by show(-9223372036854775808:Int)≤0; omega,by show(0:Int)≤9223372036854775807; omega,by show(0:Nat)≤_; omega⟩,Nat.le_refl _,by show(0:Nat)≤_; omega,fun h=>absurd rfl h,fun t h=>by cases h⟩
theorem zei(w:World):qvi.rd w:=qsi w 1 (by decide) (by decide)
theorem vk(w:World):ql.rd w:=qsi w 0 (by decide) (by decide)
theorem zva(p:Nat→Prop)(k:Int):(Dt.mk ⟨k,0,⟨Q6.zero,none,0,none,0,none,0,none,0⟩,⟨#[]⟩,none,0,[],none,0⟩ []).at_ p:=
  Dt.at_iff.2 ⟨⟨fun h=>absurd rfl h,fun h=>absurd rfl h,fun h=>absurd rfl h,fun h=>absurd rfl h,fun h=>absurd rfl h⟩,fun h=>absurd rfl h,fun t h=>by cases h⟩
theorem jla(p:Nat→Prop):qvi.at_ p:=zva p 1
theorem yx(p:Nat→Prop):ql.at_ p:=zva p 0
def jh: List Tr→Tr→Tr
  | [], z => z
  | t :: ts, z => .mk 8 0 Q6.zero ⟨#[]⟩ [] [t, jh ts z]
theorem qqd: ∀(a b:List Tr) (z:Tr),jh (a++b) z=jh a (jh b z)
  | [], _, _ => rfl
  | t :: a, b, z => by rw [List.cons_append, jh, jh, qqd a b z]
theorem qeh: ∀(a:List Tr) (z:Tr),(jh a z).bulk=Tr.bulks a+a.length+z.bulk
  | [], z => by simp [jh, Tr.bulks]
  | t :: a, z => by
    rw[jh,kx,Tr.bulks,Tr.bulks,Tr.bulks,qeh a z,Tr.bulks,List.length_cons];show 0+0+(0+0+(0+0))+1+_=_;omega
theorem qvj: ∀{a b:List Tr} {y z:Tr},y.k≠8→z.k≠8→jh a y=jh b z→a=b∧y=z
  | [], [], y, z, _, _, h => ⟨rfl, h⟩
  | [], t :: b, y, z, hy, _, h => absurd (by rw [jh, jh] at h; rw [h]; rfl) hy
  | t :: a, [], y, z, _, hz, h => absurd (by rw [jh, jh] at h; rw [← h]; rfl) hz
  | t :: a, u :: b, y, z, hy, hz, h => by
    rw[jh,jh]at h;injection h with _ _ _ _ _ h;injection h with h1 h2;injection h2 with h2 _;obtain⟨h3,h4⟩:=qvj hy hz h2;exact⟨by rw[h1,h3],h4⟩
open Classical in
noncomputable def jk(t:Tr):Option (List Tr):=if h:∃xs,t=jh xs nilT then some (Classical.choose h)else none
theorem qqe(xs:List Tr):jk (jh xs nilT)=some xs:=by
  have h:∃ys,jh xs nilT=jh ys nilT:=⟨xs,rfl⟩;unfold jk;rw[dif_pos h];have:=Classical.choose_spec h;rw[←(qvj (by decide) (by decide) this).1]
theorem zyf{xs:List Tr}{z:Tr}(h8:z.k≠8)(h1:z.k≠1):jk (jh xs z)=none:=by
  unfold jk;rw[dif_neg];rintro⟨ys,h⟩;obtain⟨_,h2⟩:=qvj h8 (by decide) h;exact h1 (by rw[h2]; rfl)
theorem qqf{t:Tr}{xs:List Tr}(h:jk t=some xs):t=jh xs nilT:=by
  unfold jk at h;by_cases hx:∃ys,t=jh ys nilT
  · rw[dif_pos hx]at h;have:=Classical.choose_spec hx;rw[←Option.some.inj h]; exact this
  · rw[dif_neg hx]at h; cases h
theorem zai{b:Bool}{t q:List Nat}(h:yt b t.length q.length=true):b=false∧t=[]∧q=[]:=by
  unfold yt at h;simp only[Bool.and_eq_true,Bool.not_eq_true',decide_eq_true_eq]at h;exact⟨h.1,List.length_eq_zero_iff.1 h.2.1,List.length_eq_zero_iff.1 h.2.2⟩
theorem qwa{n:Int}{q:Q6}{s:ByteArray}{mr ml:Nat}(h:kt n q.b1 q.t1.length q.q1.length q.b2 q.t2.length q.q2.length s mr ml=true):n=0∧q=Q6.zero∧s=⟨#[]⟩∧mr=0∧ml=0:=by
  unfold kt at h;simp only[Bool.and_eq_true,decide_eq_true_eq]at h;obtain⟨h1,h2,h3,h4,h5,h6⟩:=h;obtain⟨a1,a2,a3⟩:=zai h2;obtain⟨b1,b2,b3⟩:=zai h3;refine⟨h1,?_,h4,h5,h6⟩;cases q
  simp only at a1 a2 a3 b1 b2 b3;subst a1 a2 a3 b1 b2 b3;rfl
theorem zqc{n:Int}{q:Q6}{s:ByteArray}{rl:List UInt8}{ts:List Tr}(h:qt (.mk 8 n q s rl ts)=true):n=0∧q=Q6.zero∧s=⟨#[]⟩∧rl=[]∧ts.length=2:=by
  unfold qt jv at h;simp at h;obtain⟨h1,h2⟩:=h;obtain⟨a,b,c,d,_⟩:=qwa h2;exact⟨a,b,c,List.length_eq_zero_iff.1 d,h1⟩
theorem zyg{n:Int}{q:Q6}{s:ByteArray}{rl:List UInt8}{ts:List Tr}(h:qt (.mk 1 n q s rl ts)=true):Tr.mk 1 n q s rl ts=nilT:=by
  unfold qt jv at h;simp at h;obtain⟨a,b,c,d,e⟩:=qwa h;rw[a,b,c,List.length_eq_zero_iff.1 d,List.length_eq_zero_iff.1 e];rfl
theorem jdf{p:Tr→Bool}{ts:List Tr}:qec p ts=true↔∀t∈ts,vq p t=true:=by
  induction ts with
  | nil => simp [qec]
  | cons t ts ih => simp [qec, ih]
theorem zej{p:Tr→Bool}{t:Dt}(h:vq p t.tr=true):p t.tr=true∧∀u∈t.ts,vq p u.tr=true:=by
  cases t with
  | mk d ts =>
    rw[Dt.tr_mk,vq,Bool.and_eq_true,jdf]at h;refine⟨by rw[Dt.tr_mk]; exact h.1,fun u hu=>h.2 _ (List.mem_map_of_mem hu)⟩
theorem qsj{t:Dt}(h:vq qt t.tr=true)(hk:t.d.k=8):t.ts.length=2∧∀a b,t.ts[0]?=some a→t.ts[1]?=some b→t.tr=.mk 8 0 Q6.zero ⟨#[]⟩ [] [a.tr,b.tr]:=by
  have h1:=(zej h).1;cases t with
  | mk d ts =>
    rw[Dt.tr_mk]at h1 ⊢;simp only[Dt.d]at hk;rw[hk]at h1 ⊢;obtain⟨a1,a2,a3,a4,a5⟩:=zqc h1;rw[List.length_map]at a5;refine⟨a5,fun a b ha hb=>?_⟩;rw[a1,a2,a3,a4];simp only[Dt.ts]at ha hb a5
    match ts,a5 with
    | [x, y], _ =>
      simp at ha hb;rw[ha,hb];rfl
theorem jqg{t:Dt}(h:vq qt t.tr=true)(hk:t.d.k=1):t.tr=nilT:=by
  have h1:=(zej h).1;cases t with
  | mk d ts =>
    rw[Dt.tr_mk]at h1 ⊢;simp only[Dt.d]at hk;rw[hk]at h1 ⊢;exact zyg h1
theorem jlb(t:Dt):t.tr.k=t.d.k:=by cases t; rw[Dt.tr_mk]; rfl
theorem zqd{w:World}{so:Option Addr}{ts:List Dt}(hR:Rt w so ts)(hD:∀t∈ts,t.rd w){i:Nat}(hi:i<ts.length):∃t b o,ts[i]?=some t∧t∈ts∧t.rd w∧so=some ⟨b,o,none⟩∧Here w b (o+i*11) (t.d.cells t.ts.length):=by
  obtain⟨b,o,e,h2⟩:=hR (fun k=>by subst k; simp at hi);have ht:=List.getElem?_eq_getElem hi;exact⟨ts[i],b,o,ht,List.getElem_mem hi,hD _ (List.getElem_mem hi),e,h2 i _ ht⟩
def zih(p:Dt→Bool)(ts:List Dt):Int:=if ts.any p=true then(ts.findIdx p:Int)else -1
theorem jlc{p:Dt→Bool}{ts:List Dt}{i:Nat}{t:Dt}(h:∀j u,j<i→ts[j]?=some u→p u=false)(hi:ts[i]?=some t)(hp:p t=true):zih p ts=i:=by
  obtain⟨hl,e⟩:=List.getElem?_eq_some_iff.1 hi;unfold zih;rw[if_pos (List.any_eq_true.2 ⟨t,List.mem_of_getElem? hi,hp⟩)]
  congr 1
  rw[List.findIdx_eq hl];refine⟨by rw[e]; exact hp,fun j hj=>h j _ hj (List.getElem?_eq_getElem _)⟩
theorem jdg{p:Dt→Bool}{ts:List Dt}(h:∀j u,j<ts.length→ts[j]?=some u→p u=false):zih p ts=-1:=by
  unfold zih;rw[if_neg];intro k;obtain⟨t,ht,hp⟩:=List.any_eq_true.1 k;obtain⟨j,hj⟩:=List.mem_iff_getElem?.1 ht;rw[h j t (List.getElem?_eq_some_iff.1 hj).1 hj]at hp;cases hp
theorem zvb(p:Dt→Bool)(ts:List Dt):decide (0≤zih p ts)=ts.any p:=by
  unfold zih;by_cases h:ts.any p=true
  · rw[if_pos h,h]; exact decide_eq_true (by omega)
  · rw[if_neg h,Bool.eq_false_iff.2 h]; rfl
structure Asks(P:Program)(f:FuncId)(cs:List Value)(w0:World)(ts:List Dt)(p:Dt→Bool):Prop where
  inv:∀(us:Array Value) (w:World),(callFunc f us).run P w=.ok (.enter f us) w
  run:∀(t:Dt) (w:World),t∈ts→Below w0.heap.size w0 w→Calls P f ([Value.agg (t.d.cells t.ts.length).toArray]++cs).toArray w fun e w'=>e=.returned (.bool (p t))∧Below w.heap.size w w'
theorem qwb{t:Dt}{xs:List Tr}{p:Dt}(h:t.tr=jh xs p.tr)(hs:vq qt p.tr=true)(hk:p.d.k=1):jk t.tr=some xs:=by
  rw[h,jqg hs hk,qqe]
theorem qwc{t:Dt}{xs:List Tr}{p:Dt}(h:t.tr=jh xs p.tr)(h8:p.d.k≠8)(h1:p.d.k≠1):jk t.tr=none:=by
  rw[h,zyf (by rw[jlb]; exact h8) (by rw[jlb]; exact h1)]
theorem zaj{t:Dt}{xs:List Dt}{p a b:Dt}(h:t.tr=jh (xs.map Dt.tr) p.tr)(hs:vq qt p.tr=true)(hk:p.d.k=8)(ha:p.ts[0]?=some a)(hb:p.ts[1]?=some b):t.tr=jh ((xs++[a]).map Dt.tr) b.tr:=by
  rw[h,(qsj hs hk).2 a b ha hb,List.map_append,qqd];rfl
theorem zii{p:Dt→Prop}{xs:List Dt}{a:Dt}(h:∀x∈xs,p x)(ha:p a):∀x∈xs++[a],p x:=fun x hx=>by
  rcases List.mem_append.1 hx with k | k
  · exact h x k
  · rw[List.mem_singleton.1 k]; exact ha
theorem qje{t:Tr}(h:zg qt t=true):vq qt t=true:=by unfold zg at h; rw[Bool.and_eq_true]at h; exact h.2
theorem zij(t:Dt):1≤t.tr.bulk:=by cases t; rw[Dt.tr_mk,kx]; omega
theorem qnc: ∀a b:List Tr,Tr.bulks (a++b)=Tr.bulks a+Tr.bulks b
  | [], b => by simp [Tr.bulks]
  | t :: a, b => by rw [List.cons_append, Tr.bulks, Tr.bulks, qnc a b]; omega
def ky(g:Nat)(x z:Dt):Dt:=.mk ⟨8,0,⟨Q6.zero,none,0,none,0,none,0,none,0⟩,⟨#[]⟩,none,0,[],some ⟨g,0,none⟩,2⟩ [x,z]
theorem zja(g:Nat)(x z:Dt):(ky g x z).d.cells (ky g x z).ts.length=[.int .i64 8,.int .i64 0,.bool false,.slice none 0 0,.slice none 0 0,.bool false,.slice none 0 0,.slice none 0 0,.string ⟨#[]⟩,.slice none 0 0,.slice (some ⟨g,0,none⟩) 2 2]:=rfl
theorem zjb(g:Nat)(x z:Dt):(ky g x z).tr=.mk 8 0 Q6.zero ⟨#[]⟩ [] [x.tr,z.tr]:=by unfold ky; rw[Dt.tr_mk]; rfl
theorem zyh(w:World)(lo:Option Addr)(lc:Nat):NdOk w ⟨8,0,⟨Q6.zero,none,0,none,0,none,0,none,0⟩,⟨#[]⟩,none,0,[],lo,lc⟩:=
  ⟨⟨Sc.none w,Sc.none w,Sc.none w,Sc.none w⟩,zah,⟨fun h=>absurd rfl h⟩,Nat.le_refl _,by show(0:Nat)≤_; omega,by show(-9223372036854775808:Int)≤8; omega,by show(8:Int)≤9223372036854775807; omega,by show(-9223372036854775808:Int)≤0; omega,by show(0:Int)≤9223372036854775807; omega,by show(0:Nat)≤_; omega⟩
theorem zjc{w:World}{g:Nat}{x z:Dt}(hg:g<w.heap.size)(hc:∀p v,(cellsOf [x,z])[p]?=some v→w.cell? ⟨g,p,none⟩=some v)(hx:x.rd w)(hz:z.rd w):(ky g x z).rd w:=by
  unfold ky;refine Dt.rd_iff.2 ⟨zyh w _ _,Nat.le_refl _,by show(2:Nat)≤_; omega,fun _=>⟨g,0,rfl,fun i t hi=>⟨hg,fun j v hj=>?_⟩⟩,fun t ht=>?_⟩
  · rw[Nat.zero_add];exact hc _ _ (qmj hi hj)
  · rcases List.mem_cons.1 ht with h | h
    · rw[h]; exact hx
    · rw[List.mem_singleton.1 h]; exact hz
theorem qwd{p:Nat→Prop}{g:Nat}{x z:Dt}(hg:p g)(hx:x.at_ p)(hz:z.at_ p):(ky g x z).at_ p:=by
  unfold ky;refine Dt.at_iff.2 ⟨⟨fun h=>absurd rfl h,fun h=>absurd rfl h,fun h=>absurd rfl h,fun h=>absurd rfl h,fun h=>absurd rfl h⟩,fun _ b o e=>?_,fun t ht=>?_⟩
  · cases e; exact hg
  · rcases List.mem_cons.1 ht with h | h
    · rw[h]; exact hx
    · rw[List.mem_singleton.1 h]; exact hz
theorem zyi{w:World}{so:Option Addr}{ca:Nat}{ts:List Dt}(hR:Rt w so ts)(hD:∀t∈ts,t.rd w)(hl:ts.length≤1000000000){f:FuncId}{cs:List Value}{p:Dt→Bool}(hF:Asks Tryz.prog f cs w ts p):Calls Tryz.prog 52 #[.slice so ts.length ca,.func (.func f) #[] cs.toArray] w fun e w'=>e=.returned (iV (zih p ts))∧Below w.heap.size w w':=by
 have M:Mg w w ([]):=Mg.start w;refine qn (l:=[(0,.slice so ts.length ca),(1,.func (.func f) #[] cs.toArray)]) Tryz.func52 rfl Tryz.ntmps52 rfl rfl ?_;intro Q hret hnorm hP a A;refine wsk fun K1 hK1=>wrl (sda A λa A=>?_);refine qa (hK1 _ _ (wsk fun K2 hK2=>wsk fun K3 hK3=>wrl (sdm A λa A=>?_)));refine sdo A (qw Tryz.underlying28 rfl) λa A=>?_;refine sdm A λa A=>?_;refine qa (hK3 _ _ (wp_block (zw (fun m_ a w1=>∃(i:Nat),m_=1+(ts.length-i)∧(i≤ts.length∧∀j u,j<i→ts[j]?=some u→p u=false)∧Sl a 19 [(0,.slice so ts.length ca),(1,.func (.func f) #[] cs.toArray),(6,.slice so ts.length ca),(7,iV (((ts.length:Nat):Int))),(8,iV (((i:Nat):Int)))]∧Mg w w1 ([])) _ ⟨0,rfl,⟨Nat.zero_le _,fun j u h=>absurd h (Nat.not_lt_zero _)⟩,A.keep _ ⟨rfl,rfl,rfl,rfl,rfl,trivial⟩,M⟩ ?_)));clear M A;rintro m_ a w4 ⟨i,rfl,hinv6,A,M⟩ K5 hK5;obtain⟨hi0,hin9⟩:=hinv6;refine wsk fun K7 hK7=>wrl ?_;rcases tf (decide (((i:Nat):Int)<((ts.length:Nat):Int)))with hb8 | hb8
 ·have hb8':=of_decide_eq_true hb8;refine sdc A qs hb8 λa A=>?_;refine qa (hK7 _ _ (wsk fun K9 hK9=>wp_cond_true (A.ev rfl) ?_));refine wp_skip (hK9 _ _ (wsk fun K10 hK10=>wp_block (wsk fun K11 hK11=>wrl (sdm A λa A=>?_))));refine sda A λa A=>?_;refine qa (hK11 _ _ (wsk fun K12 hK12=>?_));obtain⟨t1,bt1,ot1,it1,mt1,rt1_,lt1,Ht1⟩:=zqd hR hD (i:=i) (by omega);refine wrl ?_;iterate 3 refine sdm A λa A=>?_
  refine sdo (v:=pA bt1 (ot1+i*11)) A (zi (k:=i) Tryz.underlying28 (by kernel_rfl) rfl rfl rfl lt1 (by omega)) λa A=>?_;refine sdo A (je M Ht1 zr rfl rfl) λa A=>?_;rcases tf (p t1)with hb13 | hb13
  ·refine qeb A rfl rfl rfl (qbf rfl rfl hF.inv) ((hb13▸hF.run t1 _ mt1 M.bel)) ?_;rintro _ w15 ⟨rfl,hb14⟩;replace M:=M.call hb14;refine⟨_,rfl,?_⟩;intro a A;refine qa (hK12 _ _ (ct A ?_));refine wsk fun K16 hK16=>wrl (sdm A λa A=>?_);refine sda A λa A=>?_;refine qa (hK16 _ _ (wr1 hret A ?_));exact⟨by rw[jlc hin9 it1 hb13],M.bel⟩
  ·refine qeb A rfl rfl rfl (qbf rfl rfl hF.inv) ((hb13▸hF.run t1 _ mt1 M.bel)) ?_;rintro _ w18 ⟨rfl,hb17⟩;replace M:=M.call hb17;refine⟨_,rfl,?_⟩;intro a A;refine qa (hK12 _ _ (cf A ?_));refine wp_skip (hK10 _ _ (wrl (sdo (v:=iV (((i+1:Nat):Int))) A (qe rfl rfl (fun w=>(xd (vx (by omega) (by omega)) w).trans (by rw[show(((i:Nat):Int)+1:Int)=((i+1:Nat):Int)from by omega]))) λa A=>?_)));refine sdm A λa A=>?_;refine qa ?_;replace M:Mg w w18 ([]):=by
    have h9:=M.sub (.refl _);exact h9
   refine hK5 _ _ _ (by omega) ⟨i+1,rfl,⟨by omega,fun j u hj hu=>if h9:j<i then hin9 j u h9 hu else by have h8:j=i:=(by omega); subst h8; rw[it1]at hu; rw[←Option.some.inj hu]; exact hb13⟩,A.keep _ ⟨rfl,rfl,rfl,rfl,rfl,trivial⟩,M⟩
 ·have hb8':=of_decide_eq_false hb8;refine sdc A qs hb8 λa A=>?_;refine qa (hK7 _ _ (wsk fun K19 hK19=>wp_cond_false (A.ev rfl) ?_));refine wp_exit (hK2 _ _ (wsk fun K20 hK20=>wrl (sda A λa A=>?_)));refine qa (hK20 _ _ (wr1 hret A ?_));exact⟨by rw[jdg (fun j u hj=>hin9 j u (by omega))],M.bel⟩
theorem qnd{w:World}{so:Option Addr}{ca:Nat}{ts:List Dt}(hR:Rt w so ts)(hD:∀t∈ts,t.rd w)(hl:ts.length≤1000000000){f:FuncId}{cs:List Value}{p:Dt→Bool}(hF:Asks Tryz.prog f cs w ts p):Calls Tryz.prog 35 #[.slice so ts.length ca,.func (.func f) #[] cs.toArray] w fun e w'=>e=.returned (bV (ts.any p))∧Below w.heap.size w w':=by
 have M:Mg w w ([]):=Mg.start w;refine qn (l:=[(0,.slice so ts.length ca),(1,.func (.func f) #[] cs.toArray)]) Tryz.func35 rfl Tryz.ntmps35 rfl rfl ?_;intro Q hret hnorm hP a A;refine wsk fun K1 hK1=>wrl (sda A λa A=>?_);refine qa (hK1 _ _ (wsk fun K2 hK2=>wrl ?_));iterate 2 refine sdm A λa A=>?_
 refine gcl A M (ef rfl rfl) (zyi (hR.below M.bel) (fun t ht=>Dt.keep M.bel _ (hD t ht)) hl ⟨hF.inv,fun t w1 ht hb=>hF.run t w1 ht (M.bel.trans (hb.mono M.bel.size))⟩) fun w4 hb3 M a A=>?_;rcases tf (decide (0≤zih p ts))with hb5 | hb5
 ·have hb5':=of_decide_eq_true hb5;refine sdc A xn hb5 λa A=>?_;refine sda A λa A=>?_;refine qa (hK2 _ _ (wr1 hret A ?_));exact⟨by rw[←zvb p ts]; simp_all,M.bel⟩
 ·have hb5':=of_decide_eq_false hb5;refine sdc A xn hb5 λa A=>?_;refine sda A λa A=>?_;refine qa (hK2 _ _ (wr1 hret A ?_));exact⟨by rw[←zvb p ts]; simp_all,M.bel⟩
theorem zjd{w:World}{t:Dt}(ht:t.rd w)(hT:Tabs8 w):Calls Tryz.prog 40 #[.agg (t.d.cells t.ts.length).toArray] w fun e w'=>e=.returned (bV (!zg qt t.tr))∧Below w.heap.size w w':=by
 have M:Mg w w ([]):=Mg.start w;refine qn (l:=[(0,.agg (t.d.cells t.ts.length).toArray)]) Tryz.func40 rfl Tryz.ntmps40 rfl rfl ?_;intro Q hret hnorm hP a A;refine wsk fun K1 hK1=>wrl (jg (vs:=(t.d.cells t.ts.length)) (t:=30) A M rfl rfl rfl pg (qp rfl rfl) (by decide) ?_);intro g2 w3 M a A;refine sda A λa A=>?_;refine qa (hK1 _ _ (wsk fun K4 hK4=>wrl (sdo A (zp M zr rfl 0 rfl (cs:=(t.d.cells t.ts.length)) rfl rfl) λa A=>?_)));rcases tf (zg qt t.tr)with hb5 | hb5
 ·refine gcl A M (ef rfl rfl) ((hb5▸sound_any (t:=t) (Dt.keep M.bel _ ht) (hT.below M.bel))) fun w7 hb6 M a A=>?_;refine sdo (v:=bV false) A (zj rfl zx) λa A=>?_;refine sda A λa A=>?_;refine qa (hK4 _ _ (wr1 hret A ?_));exact⟨by simp_all,M.bel⟩
 ·refine gcl A M (ef rfl rfl) ((hb5▸sound_any (t:=t) (Dt.keep M.bel _ ht) (hT.below M.bel))) fun w9 hb8 M a A=>?_;refine sdo (v:=bV true) A (zj rfl zx) λa A=>?_;refine sda A λa A=>?_;refine qa (hK4 _ _ (wr1 hret A ?_));exact⟨by simp_all,M.bel⟩
theorem zfa{w:World}{ts:List Dt}(hD:∀t∈ts,t.rd w)(hT:Tabs8 w):Asks Tryz.prog 40 [] w ts (fun t=>!zg qt t.tr):=⟨fun us w=>by kernel_rfl,fun t w1 ht hb=>zjd (Dt.keep hb _ (hD t ht)) (hT.below hb)⟩
theorem zyj(ts:List Dt):(!ts.any fun t=>!zg qt t.tr)=ts.all fun t=>zg qt t.tr:=by
 induction ts with
 | nil => rfl
 | cons t ts ih => rw [List.any_cons, List.all_cons, Bool.not_or, Bool.not_not, ih]
theorem zfb{w:World}{so:Option Addr}{ca:Nat}{ts:List Dt}(hR:Rt w so ts)(hD:∀t∈ts,t.rd w)(hl:ts.length≤1000000000)(hT:Tabs8 w):Calls Tryz.prog 22 #[.slice so ts.length ca] w fun e w'=>e=.returned (bV (ts.all fun t=>zg qt t.tr))∧Below w.heap.size w w':=by
 have M:Mg w w ([]):=Mg.start w;refine qn (l:=[(0,.slice so ts.length ca)]) Tryz.func22 rfl Tryz.ntmps22 rfl rfl ?_;intro Q hret hnorm hP a A;refine wsk fun K1 hK1=>wrl (sda A λa A=>?_);refine qa (hK1 _ _ (wsk fun K2 hK2=>wrl (sdm A λa A=>?_)));refine gcl A M (ef rfl rfl) (qnd (cs:=[]) (hR.below M.bel) (fun t ht=>Dt.keep M.bel _ (hD t ht)) hl (zfa (fun t ht=>Dt.keep M.bel _ (hD t ht)) (hT.below M.bel))) fun w4 hb3 M a A=>?_;refine sdo (v:=bV (!(ts.any fun t=>!zg qt t.tr))) A (zj rfl zx) λa A=>?_;refine sda A λa A=>?_;refine qa (hK2 _ _ (wr1 hret A ?_));exact⟨by rw[←zyj],M.bel⟩
section
variable {α:Type}
def mrg(lt:α→α→Bool):List α→List α→List α
  | [], ys => ys
  | x :: xs, [] => x :: xs
  | x :: xs, y :: ys => if lt y x then y :: mrg lt (x :: xs) ys else x :: mrg lt xs (y :: ys)
termination_by xs ys=>xs.length+ys.length
def jd(lt:α→α→Bool):List α→List α
  | [] => []
  | x :: xs => mrg lt [x] (jd lt xs)
structure Swo(lt:α→α→Bool):Prop where
  asy:∀x y,lt x y=true→lt y x=false
  neg:∀x y z,lt x y=false→lt y z=false→lt x z=false
variable {lt:α→α→Bool}
theorem kz(ys:List α):mrg lt [] ys=ys:=by rw[mrg]
theorem yf: ∀xs:List α,mrg lt xs []=xs
  | [] => kz []
  | x :: xs => by rw [mrg]
theorem uf{x y:α}{xs ys:List α}(h:lt y x=true):mrg lt (x::xs) (y::ys)=y::mrg lt (x::xs) ys:=by rw[mrg,if_pos h]
theorem qag{x y:α}{xs ys:List α}(h:lt y x=false):mrg lt (x::xs) (y::ys)=x::mrg lt xs (y::ys):=by rw[mrg,if_neg (by rw[h]; decide)]
theorem Swo.tr(H:Swo lt){x y z:α}(h1:lt x y=true)(h2:lt y z=true):lt x z=true:=by
  cases h:lt x z with
  | true => rfl
  | false => exact absurd (H.neg _ _ _ h (H.asy _ _ h2)) (by rw [h1]; decide)
theorem Swo.tl(H:Swo lt){x y z:α}(h1:lt x y=true)(h2:lt z y=false):lt x z=true:=by
  cases h:lt x z with
  | true => rfl
  | false => exact absurd (H.neg _ _ _ h h2) (by rw [h1]; decide)
theorem Swo.lt_(H:Swo lt){x y z:α}(h1:lt y x=false)(h2:lt y z=true):lt x z=true:=by
  cases h:lt x z with
  | true => rfl
  | false => exact absurd (H.neg _ _ _ h1 h) (by rw [h2]; decide)
theorem qcd: ∀xs ys:List α,(mrg lt xs ys).Perm (xs++ys)
  | [], ys => by rw [kz]; exact List.Perm.refl _
  | x :: xs, [] => by rw [yf, List.append_nil]
  | x :: xs, y :: ys => by
    cases h:lt y x with
    | true => rw [uf h]; exact ((qcd (x :: xs) ys).cons y).trans List.perm_middle.symm
    | false => rw [qag h]; exact (qcd xs (y :: ys)).cons x
termination_by xs ys=>xs.length+ys.length
theorem xp: ∀xs:List α,(jd lt xs).Perm xs
  | [] => List.Perm.refl _
  | x :: xs => (qcd [x] _).trans ((xp xs).cons x)
theorem qta(xs ys:List α):(mrg lt xs ys).length=xs.length+ys.length:=by rw[(qcd xs ys).length_eq,List.length_append]
theorem vd(xs:List α):(jd lt xs).length=xs.length:=(xp xs).length_eq
theorem qei: ∀(a1 b1 a2 b2:List α),(∀x∈a1,∀y∈b2,lt y x=false)→(∀y∈b1,∀x∈a2,lt y x=true)→mrg lt (a1++a2) (b1++b2)=mrg lt a1 b1++mrg lt a2 b2
  | [], [], a2, b2, _, _ => by rw [kz]; rfl
  | [], y :: b1, a2, b2, h1, h2 => by
    rw[kz];cases a2 with
    | nil => rw [kz]; simp [kz]
    | cons x a2 =>
      show mrg lt (x::a2) (y::(b1++b2))=_;rw[uf (h2 y (List.mem_cons_self ..) x (List.mem_cons_self ..))];have:=qei [] b1 (x::a2) b2 h1 fun z hz=>h2 z (List.mem_cons_of_mem _ hz);rw[kz,List.nil_append]at this;rw[this]; rfl
  | x :: a1, [], a2, b2, h1, h2 => by
    rw[yf];cases b2 with
    | nil => rw [yf]; simp [yf]
    | cons y b2 =>
      show mrg lt (x::(a1++a2)) (y::b2)=_;rw[qag (h1 x (List.mem_cons_self ..) y (List.mem_cons_self ..))];have:=qei a1 [] a2 (y::b2) (fun z hz=>h1 z (List.mem_cons_of_mem _ hz)) h2;rw[yf,List.nil_append]at this;rw[this]; rfl
  | x :: a1, y :: b1, a2, b2, h1, h2 => by
    show mrg lt (x::(a1++a2)) (y::(b1++b2))=_;cases h:lt y x with
    | true =>
      rw[uf h,uf h];have:=qei (x::a1) b1 a2 b2 h1 fun z hz=>h2 z (List.mem_cons_of_mem _ hz);rw[List.cons_append]at this;rw[this]; rfl
    | false =>
      rw[qag h,qag h];have:=qei a1 (y::b1) a2 b2 (fun z hz=>h1 z (List.mem_cons_of_mem _ hz)) h2;rw[List.cons_append]at this;rw[this]; rfl
termination_by a1 b1=>a1.length+b1.length
theorem qej(H:Swo lt):∀a b c:List α,mrg lt (mrg lt a b) c=mrg lt a (mrg lt b c)
  | [], b, c => by rw [kz, kz]
  | x :: a, [], c => by rw [yf, kz]
  | x :: a, y :: b, [] => by rw [yf, yf]
  | x :: a, y :: b, z :: c => by
    cases hyx:lt y x with
    | true =>
      rw[uf hyx];cases hzy:lt z y with
      | true => rw [uf hzy, uf hzy, uf (H.tr hzy hyx), ← uf hyx, qej H (x :: a) (y :: b) c]
      | false => rw [qag hzy, qag hzy, uf hyx, qej H (x :: a) b (z :: c)]
    | false =>
      rw[qag hyx];cases hzx:lt z x with
      | true =>
        have hzy:=H.tl hzx hyx;rw[uf hzx,uf hzy,uf hzx,←qag hyx,qej H (x::a) (y::b) c]
      | false =>
        rw[qag hzx,qej H a (y::b) (z::c)];cases hzy:lt z y with
        | true => rw [uf hzy, qag hzx]
        | false => rw [qag hzy, qag hyx]
termination_by a b c=>a.length+b.length+c.length
theorem qfa(H:Swo lt):∀xs ys:List α,jd lt (xs++ys)=mrg lt (jd lt xs) (jd lt ys)
  | [], ys => (kz _).symm
  | x :: xs, ys => by
    show mrg lt [x] (jd lt (xs++ys))=mrg lt (mrg lt [x] (jd lt xs)) _;rw[qfa H xs ys,qej H]
def Up(lt:α→α→Bool)(l:List α):Prop:=l.Pairwise fun x y=>lt y x=false
theorem zqe(H:Swo lt):∀{xs ys:List α},Up lt xs→Up lt ys→Up lt (mrg lt xs ys)
  | [], ys, _, h => by rw [kz]; exact h
  | x :: xs, [], h, _ => by rw [yf]; exact h
  | x :: xs, y :: ys, hx, hy => by
    cases h:lt y x with
    | true =>
      rw[uf h];refine List.pairwise_cons.2 ⟨fun z hz=>?_,zqe H hx (List.pairwise_cons.1 hy).2⟩;rcases List.mem_append.1 ((qcd _ _).mem_iff.1 hz)with hz | hz
      · rcases List.mem_cons.1 hz with rfl | hz
        · exact H.asy _ _ h
        · exact H.neg _ _ _ ((List.pairwise_cons.1 hx).1 z hz) (H.asy _ _ h)
      · exact(List.pairwise_cons.1 hy).1 z hz
    | false =>
      rw[qag h];refine List.pairwise_cons.2 ⟨fun z hz=>?_,zqe H (List.pairwise_cons.1 hx).2 hy⟩;rcases List.mem_append.1 ((qcd _ _).mem_iff.1 hz)with hz | hz
      · exact(List.pairwise_cons.1 hx).1 z hz
      · rcases List.mem_cons.1 hz with rfl | hz
        · exact h
        · exact H.neg _ _ _ ((List.pairwise_cons.1 hy).1 z hz) h
termination_by xs ys=>xs.length+ys.length
theorem qfb(H:Swo lt):∀xs:List α,Up lt (jd lt xs)
  | [] => List.Pairwise.nil
  | _ :: xs => zqe H (List.pairwise_singleton _ _) (qfb H xs)
theorem Up.last(H:Swo lt){l:List α}{z:α}(h:Up lt (l++[z])):∀x∈l++[z],lt z x=false:=fun x hx=>by
  rcases List.mem_append.1 hx with hx | hx
  · exact(List.pairwise_append.1 h).2.2 x hx z (List.mem_singleton.2 rfl)
  · rw[List.mem_singleton.1 hx]; cases h9:lt z z with
    | false => rfl
    | true => exact absurd (H.asy _ _ h9) (by rw [h9]; decide)
theorem Up.head(H:Swo lt){l:List α}{z:α}(h:Up lt (z::l)):∀x∈z::l,lt x z=false:=fun x hx=>by
  rcases List.mem_cons.1 hx with rfl | hx
  · cases h9:lt x x with
    | false => rfl
    | true => exact absurd (H.asy _ _ h9) (by rw [h9]; decide)
  · exact(List.pairwise_cons.1 h).1 x hx
theorem qce(H:Swo lt){a1 a2 b1 b2:List α}(ha:Up lt (a1++a2))(hb:Up lt (b1++b2))(h1:∀x∈a1.getLast?,∀y∈b2.head?,lt y x=false)(h2:∀y∈b1.getLast?,∀x∈a2.head?,lt y x=true):mrg lt (a1++a2) (b1++b2)=mrg lt a1 b1++mrg lt a2 b2:=by
  have ua:=List.pairwise_append.1 ha;have ub:=List.pairwise_append.1 hb;refine qei a1 b1 a2 b2 (fun x hx y hy=>?_) (fun y hy x hx=>?_)
  · rcases List.eq_nil_or_concat a1 with rfl | ⟨l,z,rfl⟩
    · cases hx
    · cases b2 with
      | nil => cases hy
      | cons v b2 =>
        rw[List.concat_eq_append]at *
        have h3:=h1 z (by simp) v rfl;exact H.neg _ _ _ (Up.head H ub.2.1 y hy) (H.neg _ _ _ h3 (Up.last H ua.1 x hx))
  · rcases List.eq_nil_or_concat b1 with rfl | ⟨l,z,rfl⟩
    · cases hy
    · cases a2 with
      | nil => cases hx
      | cons v a2 =>
        rw[List.concat_eq_append]at *
        have h3:=h2 z (by simp) v rfl;exact H.tl (H.lt_ (Up.last H ub.1 y hy) h3) (Up.head H ua.2.1 x hx)
end
section
variable {α:Type} {lt:α→α→Bool}
def swp(l:List α)(i j:Nat):List α:=match l[i]?,l[j]? with
  | some a, some b => (l.set i b).set j a
  | _, _ => l
theorem qdj{l:List α}{i j:Nat}{a b:α}(ha:l[i]?=some a)(hb:l[j]?=some b):(l.set i b).set j a=swp l i j:=by
  unfold swp; rw[ha,hb]
theorem qbc(l:List α)(i j:Nat):(swp l i j).length=l.length:=by
  unfold swp; split<;>simp
theorem zvc(p u v:List α)(a b:α):swp (p++a::(u++b::v)) p.length (p.length+1+u.length)=p++b::(u++a::v):=by
  have h1:(p++a::(u++b::v))[p.length]?=some a:=by simp
  have h2:(p++a::(u++b::v))[p.length+1+u.length]?=some b:=by
    rw[List.getElem?_append_right (by omega),show p.length+1+u.length-p.length=u.length+1 by omega,List.getElem?_cons_succ]; simp
  rw[←qdj h1 h2];have h3:(p++a::(u++b::v)).set p.length b=p++b::(u++b::v):=by rw[List.set_append_right _ _ (Nat.le_refl _),Nat.sub_self]; rfl
  rw[h3,List.set_append_right _ _ (by omega),show p.length+1+u.length-p.length=u.length+1 by omega,List.set_cons_succ,List.set_append_right _ _ (Nat.le_refl _),Nat.sub_self]; rfl
theorem qne(p u v:List α)(a b:α):swp (p++a::(u++b::v)) (p.length+1+u.length) p.length=p++b::(u++a::v):=by
  have h1:(p++a::(u++b::v))[p.length]?=some a:=by simp
  have h2:(p++a::(u++b::v))[p.length+1+u.length]?=some b:=by
    rw[List.getElem?_append_right (by omega),show p.length+1+u.length-p.length=u.length+1 by omega,List.getElem?_cons_succ]; simp
  rw[←qdj h2 h1];have h3:(p++a::(u++b::v)).set (p.length+1+u.length) a=p++a::(u++a::v):=by
    rw[List.set_append_right _ _ (by omega),show p.length+1+u.length-p.length=u.length+1 by omega,List.set_cons_succ,List.set_append_right _ _ (Nat.le_refl _),Nat.sub_self]; rfl
  rw[h3,List.set_append_right _ _ (Nat.le_refl _),Nat.sub_self]; rfl
def mvU(l:List α)(k:Nat):Nat→List α
  | 0 => l
  | n + 1 => mvU (swp l k (k + 1)) (k + 1) n
theorem jdh(s:List α)(x:α):∀(u p:List α),mvU (p++x::(u++s)) p.length u.length=p++(u++x::s)
  | [], p => rfl
  | y :: u, p => by
    show mvU (swp (p++x::([]++y::(u++s))) p.length (p.length+1+([]:List α).length)) (p.length+1) u.length=_;rw[zvc];have:=jdh s x u (p++[y]);rw[List.length_append,List.append_assoc,List.append_assoc]at this;exact this
def mvD(l:List α)(k:Nat):Nat→List α
  | 0 => l
  | n + 1 => mvD (swp l k (k - 1)) (k - 1) n
theorem jdi(p:List α)(x:α):∀(n:Nat) (u s:List α),u.length=n→mvD (p++(u++x::s)) (p.length+n) n=p++x::(u++s)
  | 0, u, s, h => by rw [List.length_eq_zero_iff.1 h]; rfl
  | n + 1, u, s, h => by
    rcases List.eq_nil_or_concat u with rfl | ⟨v,y,rfl⟩
    · cases h
    · rw[List.concat_eq_append]at *
      have hv:v.length=n:=(by rw[List.length_append]at h; exact Nat.succ.inj h);have e:p++(v++[y]++x::s)=(p++v)++y::([]++x::s):=(by simp);show mvD (swp _ (p.length+n+1) (p.length+n)) (p.length+n) n=_;have h5:=qne (p++v) [] s y x;rw[List.length_append,hv]at h5;rw[e,show p.length+n+1=p.length+n+1+([]:List α).length from rfl,h5];have:=jdi p x n v (y::s) hv;rw[List.append_assoc];simp only[List.nil_append];rw[this]; simp
def swR(l:List α)(a b:Nat):Nat→List α
  | 0 => l
  | n + 1 => swR (swp l a b) (a + 1) (b + 1) n
theorem zvd(n:Nat):∀(l:List α) (a b:Nat),(swR l a b n).length=l.length:=by
  induction n with
  | zero => intro l a b; rfl
  | succ n ih => intro l a b; show (swR _ _ _ n).length = _; rw [ih, qbc]
theorem zfc(s:List α):∀(x z p y:List α),x.length=z.length→swR (p++(x++(y++(z++s)))) p.length (p.length+x.length+y.length) x.length=p++(z++(y++(x++s)))
  | [], z, p, y, h => by rw [List.length_eq_zero_iff.1 h.symm]; rfl
  | a :: x, [], p, y, h => by cases h
  | a :: x, b :: z, p, y, h => by
    have e:p++(a::x++(y++(b::z++s)))=p++a::((x++y)++b::(z++s)):=(by simp);show swR (swp _ p.length (p.length+(x.length+1)+y.length)) (p.length+1) (p.length+(x.length+1)+y.length+1) x.length=_;have h5:=zvc p (x++y) (z++s) a b;rw[List.length_append]at h5;rw[e,show p.length+(x.length+1)+y.length=p.length+1+(x.length+y.length)by omega,h5];have:=zfc s x z (p++[b]) (y++[a]) (Nat.succ.inj h);rw[List.length_append,List.length_append]at this;have e2:p++b::(x++y++a::(z++s))=p++[b]++(x++(y++[a]++(z++s))):=(by simp);rw[e2,show p.length+1+(x.length+y.length)+1=p.length+[b].length+x.length+(y.length+[a].length)by simp; omega];show swR _ (p.length+[b].length) _ _=_;rw[this]; simp
def rot(l:List α)(a m b:Nat):List α:=l.take a++((l.take b).drop m++((l.take m).drop a++l.drop b))
theorem qgg(p u v s:List α):rot (p++(u++(v++s))) p.length (p.length+u.length) (p.length+u.length+v.length)=p++(v++(u++s)):=by
  unfold rot;have e1:(p++(u++(v++s))).take p.length=p:=by rw[List.take_left']; rfl
  have e2:(p++(u++(v++s))).take (p.length+u.length)=p++u:=by
    rw[←List.append_assoc]; exact List.take_left' (by simp)
  have e3:(p++(u++(v++s))).take (p.length+u.length+v.length)=(p++u)++v:=by
    rw[←List.append_assoc,←List.append_assoc]; exact List.take_left' (by simp; omega)
  have e4:(p++(u++(v++s))).drop (p.length+u.length+v.length)=s:=by
    rw[←List.append_assoc,←List.append_assoc]; exact List.drop_left' (by simp; omega)
  rw[e1,e2,e3,e4,List.drop_left' rfl,List.drop_left' (by simp)]
theorem qad(l:List α){a m b:Nat}(h1:a≤m)(h2:m≤b)(h3:b≤l.length):∃p u v s:List α,l=p++(u++(v++s))∧p.length=a∧u.length=m-a∧v.length=b-m:=by
  refine⟨l.take a,(l.drop a).take (m-a),(l.drop m).take (b-m),l.drop b,?_,?_,?_,?_⟩
  · have e3:l.drop m=(l.drop m).take (b-m)++l.drop b:=by
      rw[show l.drop b=(l.drop m).drop (b-m)by rw[List.drop_drop]; congr 1; omega]; exact(List.take_append_drop _ _).symm
    have e2:l.drop a=(l.drop a).take (m-a)++l.drop m:=by
      rw[show l.drop m=(l.drop a).drop (m-a)by rw[List.drop_drop]; congr 1; omega]; exact(List.take_append_drop _ _).symm
    rw[←e3,←e2]; exact(List.take_append_drop _ _).symm
  · rw[List.length_take]; omega
  · rw[List.length_take,List.length_drop]; omega
  · rw[List.length_take,List.length_drop]; omega
theorem jqh{l:List α}{m i j:Nat}(hi:i≤m)(hj:m+j≤l.length)(h:j<i):rot (swR l (m-i) m j) (m-(i-j)) m (m+j)=rot l (m-i) m (m+j):=by
  obtain⟨p,u,v,s,rfl,hp,hu,hv⟩:=qad l (a:=m-i) (m:=m) (b:=m+j) (by omega) (by omega) hj;obtain⟨u1,u2,hu12,h1⟩:∃u1 u2:List α,u=u1++u2∧u1.length=j:=⟨u.take j,u.drop j,(List.take_append_drop _ _).symm,by rw[List.length_take]; omega⟩;subst hu12;rw[List.length_append]at hu;have e:=zfc s u1 v p u2 (by omega);rw[show p++(u1++u2++(v++s))=p++(u1++(u2++(v++s)))by simp];rw[show p.length+u1.length+u2.length=m by omega,hp,h1]at e;rw[e];have r1:=qgg (p++v) u2 u1 s;rw[show(p++v).length+u2.length+u1.length=m+j by rw[List.length_append]; omega,show(p++v).length+u2.length=m by rw[List.length_append]; omega,show(p++v).length=m-(i-j)by rw[List.length_append]; omega]at r1;have r2:=qgg p (u1++u2) v s;rw[show p.length+(u1++u2).length+v.length=m+j by rw[List.length_append]; omega,show p.length+(u1++u2).length=m by rw[List.length_append]; omega,hp]at r2;rw[show p++(v++(u2++(u1++s)))=p++v++(u2++(u1++s))by simp,r1,show p++(u1++(u2++(v++s)))=p++(u1++u2++(v++s))by simp,r2]; simp
theorem jqi{l:List α}{m i j:Nat}(hi:i≤m)(hj:m+j≤l.length)(h:i<j):rot (swR l (m-i) (m+j-i) i) (m-i) m (m+(j-i))=rot l (m-i) m (m+j):=by
  obtain⟨p,u,v,s,rfl,hp,hu,hv⟩:=qad l (a:=m-i) (m:=m) (b:=m+j) (by omega) (by omega) hj;obtain⟨v1,v2,hv12,h1⟩:∃v1 v2:List α,v=v1++v2∧v1.length=j-i:=⟨v.take (j-i),v.drop (j-i),(List.take_append_drop _ _).symm,by rw[List.length_take]; omega⟩;subst hv12;rw[List.length_append]at hv;have e:=zfc s u v2 p v1 (by omega);rw[show p++(u++(v1++v2++s))=p++(u++(v1++(v2++s)))by simp];rw[show p.length+u.length+v1.length=m+j-i by omega,hp,show u.length=i by omega]at e;rw[e];have r1:=qgg p v2 v1 (u++s);rw[show p.length+v2.length+v1.length=m+(j-i)by omega,show p.length+v2.length=m by omega,hp]at r1;have r2:=qgg p u (v1++v2) s;rw[show p.length+u.length+(v1++v2).length=m+j by rw[List.length_append]; omega,show p.length+u.length=m by omega,hp]at r2;rw[r1,show p++(u++(v1++(v2++s)))=p++(u++(v1++v2++s))by simp,r2]; simp
theorem jld{l:List α}{m i:Nat}(hi:i≤m)(hj:m+i≤l.length):swR l (m-i) m i=rot l (m-i) m (m+i):=by
  obtain⟨p,u,v,s,rfl,hp,hu,hv⟩:=qad l (a:=m-i) (m:=m) (b:=m+i) (by omega) (by omega) hj;have e:=zfc s u v p [] (by omega);have r:=qgg p u v s;rw[show p.length+u.length+v.length=m+i by omega,show p.length+u.length=m by omega,hp]at r;simp only[List.nil_append,List.length_nil,Nat.add_zero]at e;rw[show p.length+u.length=m by omega,hp,show u.length=i by omega]at e;rw[e,r]
end
section
variable {α:Type} {lt:α→α→Bool}
def ltA(lt:α→α→Bool)(l:List α)(i j:Nat):Bool:=match l[i]?,l[j]? with
  | some x, some y => lt x y
  | _, _ => false
theorem qhj{l:List α}{i j:Nat}{a b:α}(ha:l[i]?=some a)(hb:l[j]?=some b):ltA lt l i j=lt a b:=by
  unfold ltA; rw[ha,hb]
def qka(lt:α→α→Bool)(a:Nat)(l:List α):Nat→List α
  | 0 => l
  | j + 1 => if a < j + 1 ∧ ltA lt l (j + 1) j = true then qka lt a (swp l (j + 1) j) j else l
theorem zje{a j:Nat}{l:List α}(h:j≤a):qka lt a l j=l:=by
  cases j with
  | zero => rfl
  | succ j => rw [qka, if_neg fun h9 => by have := h9.1; omega]
theorem zba{a j:Nat}{l:List α}(h:ltA lt l j (j-1)=false):qka lt a l j=l:=by
  cases j with
  | zero => rfl
  | succ j => rw [qka, if_neg fun h9 => by rw [Nat.add_sub_cancel] at h; rw [h] at h9; cases h9.2]
theorem zfd{a j:Nat}{l:List α}(ha:a<j)(h:ltA lt l j (j-1)=true):qka lt a (swp l j (j-1)) (j-1)=qka lt a l j:=by
  cases j with
  | zero => omega
  | succ j => rw [Nat.add_sub_cancel] at *; rw [qka.eq_2, if_pos ⟨ha, h⟩]
def qke(lt:α→α→Bool)(a:Nat):Nat→Nat→List α→List α
  | 0, _, l => l
  | n + 1, i, l => qke lt a n (i + 1) (qka lt a l i)
theorem qrj{p r:List α}{x:α}{k:Nat}(h:p.length=k):(p++x::r)[k]?=some x:=by subst h; simp
theorem zve(H:Swo lt)(p:List α)(x:α):∀(n:Nat) (s r:List α),s.length=n→Up lt s→qka lt p.length (p++(s++x::r)) (p.length+n)=p++(mrg lt s [x]++r)
  | 0, s, r, h, _ => by rw [List.length_eq_zero_iff.1 h, zje (by omega), kz]; rfl
  | n + 1, s, r, h, hu => by
    rcases List.eq_nil_or_concat s with rfl | ⟨v,y,rfl⟩
    · cases h
    · rw[List.concat_eq_append]at *
      have hv:v.length=n:=(by rw[List.length_append]at h; exact Nat.succ.inj h);have hA:ltA lt (p++(v++[y]++x::r)) (p.length+(n+1)) (p.length+n)=lt x y:=by
        refine qhj ?_ ?_
        · rw[←List.append_assoc]; exact qrj (by simp; omega)
        · rw[show p++(v++[y]++x::r)=(p++v)++y::(x::r)by simp]; exact qrj (by simp; omega)
      cases hc:lt x y with
      | true =>
        rw[←zfd (by omega) (by show ltA lt _ _ (p.length+n)=true; rw[hA,hc])];show qka lt p.length (swp _ (p.length+n+1) (p.length+n)) (p.length+n)=_;have h5:=qne (p++v) [] r y x;rw[List.length_append,hv]at h5;rw[show p++(v++[y]++x::r)=(p++v)++y::([]++x::r)by simp,show p.length+n+1=p.length+n+1+([]:List α).length from rfl,h5];have h6:=zve H p x n v (y::r) hv (List.pairwise_append.1 hu).1;rw[List.append_assoc,List.nil_append,h6];have h7:=qce (a1:=v) (a2:=[y]) (b1:=[x]) (b2:=[]) H hu (List.pairwise_singleton _ _) (fun _ _ z hz=>by cases hz) (fun z hz u hu=>by cases hz; cases hu; exact hc);rw[List.append_nil,yf]at h7;rw[h7]; simp
      | false =>
        rw[zba (by show ltA lt _ _ (p.length+n)=false; rw[hA,hc])];have h7:=qce (a1:=v++[y]) (a2:=[]) (b1:=[]) (b2:=[x]) H (by rw[List.append_nil]; exact hu) (List.pairwise_singleton _ _) (fun z hz u hu=>by rw[List.getLast?_append]at hz; cases hz; cases hu; exact hc) (fun z hz=>by cases hz);rw[List.append_nil,List.nil_append,yf,kz]at h7;rw[h7]; simp
theorem zvf(H:Swo lt)(p r:List α):∀(u s:List α),qke lt p.length u.length (p.length+s.length) (p++(jd lt s++(u++r)))=p++(jd lt (s++u)++r)
  | [], s => by rw [List.append_nil]; rfl
  | x :: u, s => by
    show qke lt _ u.length _ (qka lt _ (p++(jd lt s++x::(u++r))) _)=_;have h:=zve H p x s.length (jd lt s) (u++r) (vd s) (qfb H s);rw[h];have h2:=zvf H p r u (s++[x]);rw[qfa H s [x],show jd lt [x]=[x]from yf _,List.length_append]at h2;rw[Nat.add_assoc];refine h2.trans ?_;rw[List.append_assoc]; rfl
theorem zjf(H:Swo lt)(p u r:List α){a b:Nat}(ha:p.length=a)(hb:a+u.length=b):qke lt a (b-(a+1)) (a+1) (p++(u++r))=p++(jd lt u++r):=by
  subst ha; subst hb;cases u with
  | nil => rw [show p.length + ([] : List α).length - (p.length + 1) = 0 by simp]; rfl
  | cons x u =>
    have:=zvf H p r u [x];rw[show jd lt [x]=[x]from yf _]at this;rw[show p.length+(x::u).length-(p.length+1)=u.length by simp; omega];exact this
def mg(lt:α→α→Bool)(l:List α)(a m b:Nat):List α:=l.take a++(mrg lt ((l.take m).drop a) ((l.take b).drop m)++l.drop b)
theorem qkb(p u v s:List α){a m b:Nat}(ha:p.length=a)(hm:a+u.length=m)(hb:m+v.length=b):mg lt (p++(u++(v++s))) a m b=p++(mrg lt u v++s):=by
  subst ha; subst hm; subst hb;unfold mg;have e1:(p++(u++(v++s))).take p.length=p:=by rw[List.take_left']; rfl
  have e2:(p++(u++(v++s))).take (p.length+u.length)=p++u:=by
    rw[←List.append_assoc]; exact List.take_left' (by simp)
  have e3:(p++(u++(v++s))).take (p.length+u.length+v.length)=(p++u)++v:=by
    rw[←List.append_assoc,←List.append_assoc]; exact List.take_left' (by simp; omega)
  have e4:(p++(u++(v++s))).drop (p.length+u.length+v.length)=s:=by
    rw[←List.append_assoc,←List.append_assoc]; exact List.drop_left' (by simp; omega)
  rw[e1,e2,e3,e4,List.drop_left' rfl,List.drop_left' (by simp)]
def UpS(lt:α→α→Bool)(l:List α)(a m:Nat):Prop:=Up lt ((l.take m).drop a)
theorem qae(p u s:List α){a m:Nat}(ha:p.length=a)(hm:a+u.length=m):UpS lt (p++(u++s)) a m↔Up lt u:=by
  subst ha; subst hm;unfold UpS;rw[←List.append_assoc,List.take_left' (by simp),List.drop_left' rfl]
theorem jqj{l:List α}{a m b:Nat}(h1:a≤m)(h2:m≤b)(h3:b≤l.length):(mg lt l a m b).length=l.length:=by
  obtain⟨p,u,v,s,rfl,hp,hu,hv⟩:=qad l h1 h2 h3;rw[qkb p u v s hp (by omega) (by omega)];simp only[List.length_append,qta]; omega
theorem jdj{l:List α}{a m b:Nat}(h1:a≤m)(h2:m≤b)(h3:b≤l.length){x:α}(hx:x∈mg lt l a m b):x∈l:=by
  obtain⟨p,u,v,s,rfl,hp,hu,hv⟩:=qad l h1 h2 h3;rw[qkb p u v s hp (by omega) (by omega)]at hx;simp only[List.mem_append,(qcd u v).mem_iff]at *
  rcases hx with h | (h | h) | h<;>simp[h]
theorem jle{l:List α}{a m b:Nat}(h1:a≤m)(h2:m≤b)(h3:b≤l.length){x:α}(hx:x∈rot l a m b):x∈l:=by
  obtain⟨p,u,v,s,rfl,hp,hu,hv⟩:=qad l h1 h2 h3;have r:=qgg p u v s;rw[show p.length+u.length+v.length=b by omega,show p.length+u.length=m by omega,hp]at r;rw[r]at hx;simp only[List.mem_append]at *
  rcases hx with h | h | h | h<;>simp[h]
theorem jlf{l:List α}{a m b:Nat}(h1:a≤m)(h2:m≤b)(h3:b≤l.length):(rot l a m b).length=l.length:=by
  obtain⟨p,u,v,s,rfl,hp,hu,hv⟩:=qad l h1 h2 h3;have r:=qgg p u v s;rw[show p.length+u.length+v.length=b by omega,show p.length+u.length=m by omega,hp]at r;rw[r]; simp only[List.length_append]; omega
theorem zjg{l:List α}{a m b:Nat}(h1:a≤m)(h2:m≤b)(h3:b≤l.length)(h:a=m∨m=b):rot l a m b=l:=by
  obtain⟨p,u,v,s,rfl,hp,hu,hv⟩:=qad l h1 h2 h3;have r:=qgg p u v s;rw[show p.length+u.length+v.length=b by omega,show p.length+u.length=m by omega,hp]at r;rw[r];rcases h with h | h
  · rw[List.length_eq_zero_iff.1 (show u.length=0 by omega)]; rfl
  · rw[List.length_eq_zero_iff.1 (show v.length=0 by omega)]; rfl
theorem qtb{l:List α}{a m b:Nat}(h1:a≤m)(h2:m≤b)(h3:b≤l.length)(h:a=m∨m=b):mg lt l a m b=l:=by
  obtain⟨p,u,v,s,rfl,hp,hu,hv⟩:=qad l h1 h2 h3;rw[qkb p u v s hp (by omega) (by omega)];rcases h with h | h
  · rw[List.length_eq_zero_iff.1 (show u.length=0 by omega),kz]; rfl
  · rw[List.length_eq_zero_iff.1 (show v.length=0 by omega),yf]; rfl
theorem zvg{u:List α}{x:α}(h:x∈u.getLast?):∃v,u=v++[x]:=by
  rcases List.eq_nil_or_concat u with rfl | ⟨v,y,rfl⟩
  · cases h
  · rw[List.concat_eq_append]at *; rw[List.getLast?_append]at h; cases h; exact⟨v,rfl⟩
theorem zfe{u:List α}{x:α}(h:x∈u.head?):∃v,u=x::v:=by
  cases u with
  | nil => cases h
  | cons y u => cases h; exact ⟨u, rfl⟩
theorem jsj(H:Swo lt){l:List α}{a m b p:Nat}(hm:m=a+1)(hb:b≤l.length)(h1:m≤p)(h2:p≤b)(hu:UpS lt l m b)(hl:p=m∨ltA lt l (p-1) a=true)(hr:p=b∨ltA lt l p a=false):mvU l a (p-1-a)=mg lt l a m b:=by
  obtain⟨P,u,v,s,rfl,hp,hu1,hv⟩:=qad l (a:=a) (m:=m) (b:=b) (by omega) (by omega) hb;obtain⟨x,rfl⟩:∃x,u=[x]:=List.length_eq_one_iff.1 (by omega);obtain⟨v1,v2,rfl,h3⟩:∃v1 v2:List α,v=v1++v2∧v1.length=p-m:=⟨v.take (p-m),v.drop (p-m),(List.take_append_drop _ _).symm,by rw[List.length_take]; omega⟩;rw[List.length_append]at hv;rw[show P++([x]++(v1++v2++s))=(P++[x])++((v1++v2)++s)by simp,qae (P++[x]) (v1++v2) s (by simp; omega) (by simp; omega)]at hu;rw[qkb P [x] (v1++v2) s hp (by simp; omega) (by simp; omega)];have hx:(P++([x]++(v1++v2++s)))[a]?=some x:=qrj hp;have e1:=qce (a1:=[]) (a2:=[x]) (b1:=v1) (b2:=v2) H (List.pairwise_singleton _ _) hu (fun z hz=>by cases hz) (fun y hy z hz=>by
    cases hz; obtain⟨v3,rfl⟩:=zvg hy
    rw[List.length_append,List.length_singleton]at h3;rcases hl with hl | hl
    · omega
    · rw[qhj (a:=y) (by rw[show P++([x]++(v3++[y]++v2++s))=(P++[x]++v3)++y::(v2++s)by simp]; exact qrj (by simp; omega)) hx]at hl; exact hl)
  have e2:=qce (a1:=[x]) (a2:=[]) (b1:=[]) (b2:=v2) H (List.pairwise_singleton _ _) (List.pairwise_append.1 hu).2.1 (fun z hz y hy=>by
    cases hz; obtain⟨v3,rfl⟩:=zfe hy
    rw[List.length_cons]at hv;rcases hr with hr | hr
    · omega
    · rw[qhj (a:=y) (by rw[show P++([x]++(v1++y::v3++s))=(P++[x]++v1)++y::(v3++s)by simp]; exact qrj (by simp; omega)) hx]at hr; exact hr) (fun z hz=>by cases hz)
  rw[List.nil_append,kz]at e1;rw[List.append_nil,List.nil_append,yf,kz]at e2;rw[e1,e2];have e3:=jdh (v2++s) x v1 P;rw[hp,show v1.length=p-1-a by omega]at e3;rw[show P++([x]++(v1++v2++s))=P++x::(v1++(v2++s))by simp,e3]; simp
theorem jta(H:Swo lt){l:List α}{a m b p:Nat}(hm:b=m+1)(hb:b≤l.length)(h1:a≤p)(h2:p≤m)(hu:UpS lt l a m)(hl:p=a∨ltA lt l m (p-1)=false)(hr:p=m∨ltA lt l m p=true):mvD l m (m-p)=mg lt l a m b:=by
  obtain⟨P,u,v,s,rfl,hp,hu1,hv⟩:=qad l (a:=a) (m:=m) (b:=b) (by omega) (by omega) hb;obtain⟨x,rfl⟩:∃x,v=[x]:=List.length_eq_one_iff.1 (by omega);obtain⟨u1,u2,rfl,h3⟩:∃u1 u2:List α,u=u1++u2∧u1.length=p-a:=⟨u.take (p-a),u.drop (p-a),(List.take_append_drop _ _).symm,by rw[List.length_take]; omega⟩;rw[List.length_append]at hu1;rw[qae P (u1++u2) ([x]++s) hp (by simp; omega)]at hu;rw[qkb P (u1++u2) [x] s hp (by simp; omega) (by simp; omega)];have hx:(P++(u1++u2++([x]++s)))[m]?=some x:=by rw[←List.append_assoc]; exact qrj (by simp; omega)
  have e1:=qce (a1:=u1) (a2:=u2) (b1:=[]) (b2:=[x]) H hu (List.pairwise_singleton _ _) (fun y hy z hz=>by
    cases hz; obtain⟨v3,rfl⟩:=zvg hy
    rw[List.length_append,List.length_singleton]at h3;rcases hl with hl | hl
    · omega
    · rw[qhj (b:=y) hx (by rw[show P++(v3++[y]++u2++([x]++s))=(P++v3)++y::(u2++([x]++s))by simp]; exact qrj (by simp; omega))]at hl; exact hl) (fun z hz=>by cases hz)
  have e2:=qce (a1:=[]) (a2:=u2) (b1:=[x]) (b2:=[]) H (List.pairwise_append.1 hu).2.1 (List.pairwise_singleton _ _) (fun z hz=>by cases hz) (fun z hz y hy=>by
    cases hz; obtain⟨v3,rfl⟩:=zfe hy
    rw[List.length_cons]at hu1;rcases hr with hr | hr
    · omega
    · rw[qhj (b:=y) hx (by rw[show P++(u1++y::v3++([x]++s))=(P++u1)++y::(v3++([x]++s))by simp]; exact qrj (by simp; omega))]at hr; exact hr)
  rw[List.nil_append,yf]at e1;rw[List.append_nil,List.nil_append,kz,yf]at e2;rw[e1,e2];have e3:=jdi (P++u1) x u2.length u2 s rfl;rw[List.length_append,show P.length+u1.length+u2.length=m by omega,show u2.length=m-p by omega]at e3;rw[show P++(u1++u2++([x]++s))=P++u1++(u2++x::s)by simp,e3]; simp
structure Cut(lt:α→α→Bool)(l:List α)(a m b st md en:Nat):Prop where
  u1:UpS lt (rot l st m en) a st
  u2:UpS lt (rot l st m en) st md
  u3:UpS lt (mg lt (rot l st m en) a st md) md en
  u4:UpS lt (mg lt (rot l st m en) a st md) en b
  eq:mg lt (mg lt (rot l st m en) a st md) md en b=mg lt l a m b
theorem jra(H:Swo lt){l:List α}{a m b st md en:Nat}(h1:a≤st)(h2:st≤m)(h3:m≤en)(h4:en≤b)(h5:b≤l.length)(h6:md+m=en+st)(ua:UpS lt l a m)(ub:UpS lt l m b)(hl:st=a∨en=b∨ltA lt l en (st-1)=false)(hr:st=m∨en=m∨ltA lt l (en-1) st=true):Cut lt l a m b st md en:=by
  obtain⟨P,u,v,s,rfl,hp,hu1,hv⟩:=qad l (a:=a) (m:=m) (b:=b) (by omega) (by omega) h5;obtain⟨u1,u2,rfl,h7⟩:∃u1 u2:List α,u=u1++u2∧u1.length=st-a:=⟨u.take (st-a),u.drop (st-a),(List.take_append_drop _ _).symm,by rw[List.length_take]; omega⟩;obtain⟨v1,v2,rfl,h8⟩:∃v1 v2:List α,v=v1++v2∧v1.length=en-m:=⟨v.take (en-m),v.drop (en-m),(List.take_append_drop _ _).symm,by rw[List.length_take]; omega⟩;rw[List.length_append]at hu1 hv;rw[qae P (u1++u2) _ hp (by simp; omega)]at ua;rw[show P++(u1++u2++(v1++v2++s))=P++(u1++u2)++(v1++v2++s)by simp,qae (P++(u1++u2)) (v1++v2) s (by simp; omega) (by simp; omega)]at ub;have r:=qgg (P++u1) u2 v1 (v2++s);rw[show(P++u1).length+u2.length+v1.length=en by rw[List.length_append]; omega,show(P++u1).length+u2.length=m by rw[List.length_append]; omega,show(P++u1).length=st by rw[List.length_append]; omega,show P++u1++(u2++(v1++(v2++s)))=P++(u1++u2++(v1++v2++s))by simp]at r;have g:=qkb (lt:=lt) P u1 v1 (u2++(v2++s)) (a:=a) (m:=st) (b:=md) hp (by omega) (by omega);have pa:=List.pairwise_append.1 ua;have pb:=List.pairwise_append.1 ub;have e:=qce (a1:=u1) (a2:=u2) (b1:=v1) (b2:=v2) H ua ub (fun x hx y hy=>by
    obtain⟨u3,rfl⟩:=zvg hx;obtain⟨v3,rfl⟩:=zfe hy;simp only[List.length_append,List.length_cons,List.length_nil]at h7 hu1 hv;rcases hl with hl | hl | hl
    · omega
    · omega
    · rw[qhj (a:=y) (b:=x) (by rw[show P++(u3++[x]++u2++(v1++y::v3++s))=(P++(u3++[x]++u2++v1))++y::(v3++s)by simp]; exact qrj (by simp; omega)) (by rw[show P++(u3++[x]++u2++(v1++y::v3++s))=(P++u3)++x::(u2++(v1++y::v3++s))by simp]; exact qrj (by simp; omega))]at hl; exact hl) (fun y hy x hx=>by
    obtain⟨v3,rfl⟩:=zvg hy;obtain⟨u3,rfl⟩:=zfe hx;simp only[List.length_append,List.length_cons,List.length_nil]at h8 hv hu1;rcases hr with hr | hr | hr
    · omega
    · omega
    · rw[qhj (a:=y) (b:=x) (by rw[show P++(u1++x::u3++(v3++[y]++v2++s))=(P++(u1++x::u3++v3))++y::(v2++s)by simp]; exact qrj (by simp; omega)) (by rw[show P++(u1++x::u3++(v3++[y]++v2++s))=(P++u1)++x::(u3++(v3++[y]++v2++s))by simp]; exact qrj (by simp; omega))]at hr; exact hr)
  have r':rot (P++(u1++u2++(v1++v2++s))) st m en=P++(u1++(v1++(u2++(v2++s)))):=by rw[r]; simp
  constructor
  · rw[r',qae P u1 _ hp (by omega)]; exact pa.1
  · rw[r',←List.append_assoc,qae (P++u1) v1 _ (by simp; omega) (by omega)]; exact pb.1
  · rw[r',g,←List.append_assoc,qae (P++mrg lt u1 v1) u2 _ (by simp[qta]; omega) (by omega)]; exact pa.2.1
  · rw[r',g,show P++(mrg lt u1 v1++(u2++(v2++s)))=(P++mrg lt u1 v1++u2)++(v2++s)by simp,qae (P++mrg lt u1 v1++u2) v2 _ (by simp[qta]; omega) (by omega)]; exact pb.2.1
  · rw[r',g,qkb P (u1++u2) (v1++v2) s hp (by simp; omega) (by simp; omega),e,←List.append_assoc,qkb (P++mrg lt u1 v1) u2 v2 s (by simp[qta]; omega) (by omega) (by omega)]; simp
def srt(lt:α→α→Bool)(k:Nat)(l:List α):List α:=
  if _h:k=0∨l.length≤k then jd lt l else jd lt (l.take k)++srt lt k (l.drop k)
termination_by l.length
decreasing_by simp; omega
theorem qdd{k:Nat}{l:List α}(h:l.length≤k):srt lt k l=jd lt l:=by rw[srt,dif_pos (.inr h)]
theorem qwe{k:Nat}{l:List α}(hk:0<k)(_h:k≤l.length):srt lt k l=jd lt (l.take k)++srt lt k (l.drop k):=by
  rcases Nat.lt_or_ge k l.length with h2 | h2
  · rw[srt,dif_neg (by omega)]
  · rw[qdd h2,List.take_of_length_le h2,List.drop_of_length_le h2,qdd (Nat.zero_le _)]; simp[jd]
theorem zjh{k:Nat}(n:Nat):∀l:List α,l.length≤n→(srt lt k l).Perm l:=by
  induction n with
  | zero => intro l h; rw [srt, dif_pos (by omega)]; exact xp l
  | succ n ih =>
    intro l h;rw[srt]; split
    · exact xp l
    · refine((xp _).append (ih _ (by rw[List.length_drop]; omega))).trans ?_;rw[List.take_append_drop]
theorem zff{k:Nat}(l:List α):(srt lt k l).length=l.length:=(zjh _ l (Nat.le_refl _)).length_eq
theorem jlg(H:Swo lt){k a:Nat}{x l:List α}(hk:0<k)(hx:x.length=a)(h:a+k≤l.length)(hX:x++srt lt k (l.drop a)=srt lt k l):∃y:List α,y.length=a+k∧qke lt a (a+k-(a+1)) (a+1) (x++l.drop a)=y++l.drop (a+k)∧y++srt lt k (l.drop (a+k))=srt lt k l:=by
  refine⟨x++jd lt ((l.drop a).take k),by simp[vd]; omega,?_,?_⟩
  · have:=zjf H x ((l.drop a).take k) (l.drop (a+k)) (a:=a) (b:=a+k) hx (by simp; omega);rw[←List.drop_drop,List.take_append_drop]at this;rw[this,List.append_assoc,List.drop_drop]
  · rw[←hX,qwe (l:=l.drop a) hk (by simp; omega),List.drop_drop,List.append_assoc]
theorem jea(H:Swo lt){k a:Nat}{x l:List α}(hx:x.length=a)(h:a≤l.length)(h2:l.length≤a+k)(hX:x++srt lt k (l.drop a)=srt lt k l):qke lt a (l.length-(a+1)) (a+1) (x++l.drop a)=srt lt k l:=by
  have:=zjf H x (l.drop a) [] (a:=a) (b:=l.length) hx (by simp; omega);rw[List.append_nil,List.append_nil]at this;rw[this,←hX,qdd (l:=l.drop a) (by simp; omega)]
theorem jlh(H:Swo lt){k a:Nat}{x l:List α}(hk:0<k)(hx:x.length=a)(h:a+2*k≤l.length)(hX:x++srt lt (2*k) (l.drop a)=srt lt (2*k) l):UpS lt (x++srt lt k (l.drop a)) a (a+k)∧UpS lt (x++srt lt k (l.drop a)) (a+k) (a+2*k)∧∃y:List α,y.length=a+2*k∧mg lt (x++srt lt k (l.drop a)) a (a+k) (a+2*k)=y++srt lt k (l.drop (a+2*k))∧y++srt lt (2*k) (l.drop (a+2*k))=srt lt (2*k) l:=by
  have e1:srt lt k (l.drop a)=jd lt ((l.drop a).take k)++(jd lt ((l.drop (a+k)).take k)++srt lt k (l.drop (a+2*k))):=by
    rw[qwe hk (by simp; omega),List.drop_drop,qwe (l:=l.drop (a+k)) hk (by simp; omega),List.drop_drop,show a+k+k=a+2*k by omega]
  have e2:jd lt ((l.drop a).take (2*k))=mrg lt (jd lt ((l.drop a).take k)) (jd lt ((l.drop (a+k)).take k)):=by
    rw[←qfa H]; congr 1;rw[show 2*k=k+k by omega,List.take_add,List.drop_drop]
  have l1:(jd lt ((l.drop a).take k)).length=k:=by simp[vd]; omega
  have l2:(jd lt ((l.drop (a+k)).take k)).length=k:=by simp[vd]; omega
  refine⟨?_,?_,x++jd lt ((l.drop a).take (2*k)),by simp[vd]; omega,?_,?_⟩
  · rw[e1,qae x _ _ hx (by omega)]; exact qfb H _
  · rw[e1,←List.append_assoc,qae (x++_) _ _ (by simp only[List.length_append]; omega) (by omega)]; exact qfb H _
  · rw[e1,qkb x _ _ _ hx (by omega) (by omega),e2,List.append_assoc]
  · rw[←hX,qwe (k:=2*k) (l:=l.drop a) (by omega) (by simp; omega),List.drop_drop,List.append_assoc]
theorem jeb(H:Swo lt){k a:Nat}{x l:List α}(hk:0<k)(hx:x.length=a)(h:a+k<l.length)(h2:l.length<a+2*k)(hX:x++srt lt (2*k) (l.drop a)=srt lt (2*k) l):UpS lt (x++srt lt k (l.drop a)) a (a+k)∧UpS lt (x++srt lt k (l.drop a)) (a+k) l.length∧mg lt (x++srt lt k (l.drop a)) a (a+k) l.length=srt lt (2*k) l:=by
  have e1:srt lt k (l.drop a)=jd lt ((l.drop a).take k)++(jd lt (l.drop (a+k))++[]):=by
    rw[qwe hk (by simp; omega),List.drop_drop,qdd (l:=l.drop (a+k)) (by simp; omega),List.append_nil]
  have e2:jd lt (l.drop a)=mrg lt (jd lt ((l.drop a).take k)) (jd lt (l.drop (a+k))):=by
    rw[←qfa H]; congr 1;rw[←List.drop_drop,List.take_append_drop]
  have l1:(jd lt ((l.drop a).take k)).length=k:=by simp[vd]; omega
  have l2:(jd lt (l.drop (a+k))).length=l.length-(a+k):=by simp[vd]
  refine⟨?_,?_,?_⟩
  · rw[e1,qae x _ _ hx (by omega)]; exact qfb H _
  · rw[e1,←List.append_assoc,qae (x++_) _ _ (by simp only[List.length_append]; omega) (by omega)]; exact qfb H _
  · rw[e1,qkb x _ _ _ hx (by omega) (by omega),←e2,List.append_nil,←hX,qdd (k:=2*k) (l:=l.drop a) (by simp; omega)]
theorem jec{k a:Nat}{x l:List α}(h:l.length≤a+k)(hX:x++srt lt (2*k) (l.drop a)=srt lt (2*k) l):x++srt lt k (l.drop a)=srt lt (2*k) l:=by
  rw[←hX,qdd (k:=k) (by simp; omega),qdd (k:=2*k) (by simp; omega)]
end
theorem zfg{a:Int}(h0:0≤a)(h1:a≤18446744073709551615):IntKind.u64.wrap a=a:=by rw[IntKind.wrap_u64]; omega
theorem qtc{P:Program}{k:IntKind}{t:TypeId}{x y:Operand}{a b z:Int}(h:k.wrap (a*b)=z):∀w,(do eqGuard .mul t x y (.int k a) (.int k b); binOp .mul t (.int k a) (.int k b):Sem Value).run P w=.ok (.int k z) w:=fun w=>by simp[go_sem,h]
structure Cmps(P:Program)(f:FuncId)(cs:List Value)(w0:World)(T:List Ck)(ts:List Dt)(c:Dt→Dt→Int):Prop where
  inv:∀(us:Array Value) (w:World),(callFunc f us).run P w=.ok (.enter f us) w
  run:∀(t u:Dt) (w:World),t∈ts→u∈ts→Mg w0 w T→Calls P f ([Value.agg (t.d.cells t.ts.length).toArray,Value.agg (u.d.cells u.ts.length).toArray]++cs).toArray w fun e w'=>e=.returned (.int .i64 (c t u))∧Below w.heap.size w w'
def ltC(c:Dt→Dt→Int)(t u:Dt):Bool:=decide (c t u<0)
theorem qgh{c:Dt→Dt→Int}{l:List Dt}{i j:Nat}{a b:Dt}{z:Bool}(ha:l[i]?=some a)(hb:l[j]?=some b)(h:decide (c a b<0)=z):ltA (ltC c) l i j=z:=(qhj ha hb).trans h
theorem zfh{α:Type}{l:List α}{i j:Nat}{x:α}(hx:x∈swp l i j):x∈l:=by
  unfold swp at hx
  split at hx
  · rename_i a b ha hb;rcases List.mem_or_eq_of_mem_set hx with hx | rfl
    · rcases List.mem_or_eq_of_mem_set hx with hx | rfl
      · exact hx
      · exact List.mem_of_getElem? hb
    · exact List.mem_of_getElem? ha
  · exact hx
theorem zji{α:Type}{lt:α→α→Bool}{a:Nat}{x:α}:∀(j:Nat) (l:List α),x∈qka lt a l j→x∈l
  | 0, l, h => h
  | j + 1, l, h => by
    rw[qka]at h; split at h
    · exact zfh (zji j _ h)
    · exact h
theorem zjj{α:Type}{lt:α→α→Bool}{a:Nat}{x:α}:∀(n i:Nat) (l:List α),x∈qke lt a n i l→x∈l
  | 0, _, _, h => h
  | n + 1, i, l, h => by rw [qke] at h; exact zji _ _ (zjj n _ _ h)
theorem zfi{w0 w:World}{g9 c9 n9:Nat}{zs:List Dt}{T:List Ck}(hl:n9≤1000000000)(hzl:zs.length=n9){la lb n:Nat}{fv:Value}(ha:la+n≤n9)(hb:lb+n≤n9)(hM0:Mg w0 w (.row 30 11 (.slice (aO g9) n9 c9) n9 (cellsOf zs)::T)):Calls Tryz.prog 90 #[.slice (aO g9) n9 c9,iV ((la:Nat):Int),iV ((lb:Nat):Int),iV ((n:Nat):Int),fv] w fun e w'=>e=.returned (.tuple #[])∧Mg w0 w' (.row 30 11 (.slice (aO g9) n9 c9) n9 (cellsOf (swR zs la lb n))::T):=by
 have M:Mg w0 w (.row 30 11 (.slice (aO g9) n9 c9) n9 (cellsOf zs)::T):=hM0;refine qn (l:=[(0,.slice (aO g9) n9 c9),(1,iV (((la:Nat):Int))),(2,iV (((lb:Nat):Int))),(3,iV (((n:Nat):Int))),(4,fv)]) Tryz.func90 rfl Tryz.ntmps90 rfl rfl ?_;intro Q hret hnorm hP a A;refine wsk fun K1 hK1=>wrl (sda A λa A=>?_);refine qa (hK1 _ _ (wp_block (zw (fun m_ a w1=>∃(i:Nat) (xs:List Dt),m_=1+(n-i)∧(i≤n∧xs.length=n9∧swR xs (la+i) (lb+i) (n-i)=swR zs la lb n)∧Sl a 38 [(0,.slice (aO g9) n9 c9),(1,iV (((la:Nat):Int))),(2,iV (((lb:Nat):Int))),(3,iV (((n:Nat):Int))),(4,fv),(10,iV (((i:Nat):Int)))]∧Mg w0 w1 (.row 30 11 (.slice (aO g9) n9 c9) n9 (cellsOf xs)::T)) _ ⟨0,zs,rfl,⟨Nat.zero_le _,hzl,rfl⟩,A.keep _ (by repeat' constructor),M⟩ ?_)));clear M A;rintro m_ a w2 ⟨i,xs,rfl,hinv4,A,M⟩ K3 hK3;obtain⟨hi0,hxl,hin⟩:=hinv4;refine wsk fun K5 hK5=>wsk fun K6 hK6=>wrl ?_;iterate 2 refine sdm A λa A=>?_
 rcases tf (decide (((i:Nat):Int)<((n:Nat):Int)))with hb7 | hb7
 ·have hb7':=of_decide_eq_true hb7;refine sdc A qs hb7 λa A=>?_;refine qa (hK6 _ _ (ct A ?_));refine wp_skip (hK5 _ _ (wsk fun K8 hK8=>wp_block (zu (S:=fun w1=>Mg w0 w1 ([])) (by kernel_rfl) ?_)));replace M:=M.drew;refine amv A 0 rfl hP (M.sub (cN ns)) λa A=>?_;refine amv A 1 rfl hP (M.sub (cN ns)) λa A=>?_;refine amv A 2 rfl hP (M.sub (cN ns)) λa A=>?_;refine atk (v:=iV (((la+i:Nat):Int))) A 3 rfl hP (M.sub (cN ns)) (λ_ M=>qe rfl rfl (ar_add ((in_i64 (by omega) (by omega)).trans (by omega)))) λa A=>?_;refine amv A 4 rfl hP (M.sub (cN ns)) λa A=>?_;refine amv A 5 rfl hP (M.sub (cN ns)) λa A=>?_;refine amv A 6 rfl hP (M.sub (cN ns)) λa A=>?_;refine atk (v:=iV (((lb+i:Nat):Int))) A 7 rfl hP (M.sub (cN ns)) (λ_ M=>qe rfl rfl (ar_add ((in_i64 (by omega) (by omega)).trans (by omega)))) λa A=>?_;refine amv A 8 rfl hP (M.sub (cN ns)) λa A=>?_;refine amv A 9 rfl hP (M.sub (cN ns)) λa A=>?_;refine amv A 10 rfl hP (M.sub (cN ns)) λa A=>?_;refine atk (v:=iV (((lb+i:Nat):Int))) A 11 rfl hP (M.sub (cN ns)) (λ_ M=>qe rfl rfl (ar_add ((in_i64 (by omega) (by omega)).trans (by omega)))) λa A=>?_;refine atk (v:=pA g9 ((lb+i)*11)) A 12 rfl hP (M.sub (cN ns)) (λ_ M=>zd (k:=(lb+i)) Tryz.underlying28 (by kernel_rfl) rfl rfl rfl (by omega)) λa A=>?_;refine amv A 14 rfl hP (M.sub (cN ns)) λa A=>?_;refine amv A 15 rfl hP (M.sub (cN ns)) λa A=>?_;refine amv A 16 rfl hP (M.sub (cN ns)) λa A=>?_;refine atk (v:=iV (((la+i:Nat):Int))) A 17 rfl hP (M.sub (cN ns)) (λ_ M=>qe rfl rfl (ar_add ((in_i64 (by omega) (by omega)).trans (by omega)))) λa A=>?_;refine atk (v:=pA g9 ((la+i)*11)) A 18 rfl hP (M.sub (cN ns)) (λ_ M=>zd (k:=(la+i)) Tryz.underlying28 (by kernel_rfl) rfl rfl rfl (by omega)) λa A=>?_;refine jx (rs:=[13,19]) (by kernel_rfl) (by simp) ⟨?_,?_,trivial⟩
  ·obtain⟨e9,he9⟩:∃z,xs[(lb+i)]?=some z:=⟨_,List.getElem?_eq_getElem (by omega)⟩;refine ve A 13 rfl rfl rfl rfl (jo (o:=(lb+i)*11) (cs:=e9.d.cells e9.ts.length) M 0 rfl zr (jb he9) rfl rfl) (M.sub (cN ns)) λa A=>?_;obtain⟨e10,he10⟩:∃z,xs[(la+i)]?=some z:=⟨_,List.getElem?_eq_getElem (by omega)⟩;refine qf (by kernel_rfl) (ve A 19 rfl rfl rfl rfl (jo (o:=(la+i)*11) (cs:=e10.d.cells e10.ts.length) M 0 rfl zr (jb he10) rfl rfl) (M.sub (cN ns)) ?_);intro a A;refine atk (v:=pA g9 ((la+i)*11)) A 20 rfl hP (M.sub (cN ns)) (λ_ M=>zd (k:=(la+i)) Tryz.underlying28 (by kernel_rfl) rfl rfl rfl (by omega)) λa A=>?_;refine qf (by kernel_rfl) (jt (L':=(.row 30 11 (.slice (aO g9) n9 c9) n9 (cellsOf (xs.set (la+i) e9))::T)) A M 21 rfl rfl rfl (jy (cs:=e9.d.cells e9.ts.length) rfl rfl rfl (by kernel_rfl) M 0 rfl (by show _+11≤_; omega) (jn e9)) 0 rfl (jz (by omega) rfl) rfl ?_);intro w11 M;refine⟨(M.sub (cN ns)),?_⟩;refine atk (v:=pA g9 ((lb+i)*11)) A 22 rfl hP (M.sub (cN ns)) (λ_ M=>zd (k:=(lb+i)) Tryz.underlying28 (by kernel_rfl) rfl rfl rfl (by omega)) λa A=>?_;refine qf (by kernel_rfl) (jt (L':=(.row 30 11 (.slice (aO g9) n9 c9) n9 (cellsOf ((xs.set (la+i) e9).set (lb+i) e10))::T)) A M 23 rfl rfl rfl (jy (cs:=e10.d.cells e10.ts.length) rfl rfl rfl (by kernel_rfl) M 0 rfl (by show _+11≤_; omega) (jn e10)) 0 rfl (jz (by rw[List.length_set]; omega) rfl) rfl ?_);intro w12 M;rw[qdj he10 he9]at M;refine⟨(M.sub (cN ns)),?_⟩;refine qz (by kernel_rfl) ?_;refine hK8 _ _ (wrl (sdm A λa A=>?_));refine sdo (v:=iV (((i+1:Nat):Int))) A (qe rfl rfl (ar_add ((in_i64 (by omega) (by omega)).trans (by omega)))) λa A=>?_;refine sda A λa A=>?_;refine qa ?_;refine hK3 _ _ _ (by omega) ⟨i+1,(swp xs (la+i) (lb+i)),rfl,⟨by omega,by rw[qbc]; exact hxl,by rw[←hin,show n-i=n-(i+1)+1 by omega]; rfl⟩,A.keep _ (by repeat' constructor),M⟩
  ·obtain⟨e13,he13⟩:∃z,xs[(la+i)]?=some z:=⟨_,List.getElem?_eq_getElem (by omega)⟩;refine ve A 19 rfl rfl rfl rfl (jo (o:=(la+i)*11) (cs:=e13.d.cells e13.ts.length) M 0 rfl zr (jb he13) rfl rfl) (M.sub (cN ns)) λa A=>?_;obtain⟨e14,he14⟩:∃z,xs[(lb+i)]?=some z:=⟨_,List.getElem?_eq_getElem (by omega)⟩;refine qf (by kernel_rfl) (ve A 13 rfl rfl rfl rfl (jo (o:=(lb+i)*11) (cs:=e14.d.cells e14.ts.length) M 0 rfl zr (jb he14) rfl rfl) (M.sub (cN ns)) ?_);intro a A;refine atk (v:=pA g9 ((la+i)*11)) A 20 rfl hP (M.sub (cN ns)) (λ_ M=>zd (k:=(la+i)) Tryz.underlying28 (by kernel_rfl) rfl rfl rfl (by omega)) λa A=>?_;refine qf (by kernel_rfl) (jt (L':=(.row 30 11 (.slice (aO g9) n9 c9) n9 (cellsOf (xs.set (la+i) e14))::T)) A M 21 rfl rfl rfl (jy (cs:=e14.d.cells e14.ts.length) rfl rfl rfl (by kernel_rfl) M 0 rfl (by show _+11≤_; omega) (jn e14)) 0 rfl (jz (by omega) rfl) rfl ?_);intro w15 M;refine⟨(M.sub (cN ns)),?_⟩;refine atk (v:=pA g9 ((lb+i)*11)) A 22 rfl hP (M.sub (cN ns)) (λ_ M=>zd (k:=(lb+i)) Tryz.underlying28 (by kernel_rfl) rfl rfl rfl (by omega)) λa A=>?_;refine qf (by kernel_rfl) (jt (L':=(.row 30 11 (.slice (aO g9) n9 c9) n9 (cellsOf ((xs.set (la+i) e14).set (lb+i) e13))::T)) A M 23 rfl rfl rfl (jy (cs:=e13.d.cells e13.ts.length) rfl rfl rfl (by kernel_rfl) M 0 rfl (by show _+11≤_; omega) (jn e13)) 0 rfl (jz (by rw[List.length_set]; omega) rfl) rfl ?_);intro w16 M;rw[qdj he13 he14]at M;refine⟨(M.sub (cN ns)),?_⟩;refine qz (by kernel_rfl) ?_;refine hK8 _ _ (wrl (sdm A λa A=>?_));refine sdo (v:=iV (((i+1:Nat):Int))) A (qe rfl rfl (ar_add ((in_i64 (by omega) (by omega)).trans (by omega)))) λa A=>?_;refine sda A λa A=>?_;refine qa ?_;refine hK3 _ _ _ (by omega) ⟨i+1,(swp xs (la+i) (lb+i)),rfl,⟨by omega,by rw[qbc]; exact hxl,by rw[←hin,show n-i=n-(i+1)+1 by omega]; rfl⟩,A.keep _ (by repeat' constructor),M⟩
 ·have hb7':=of_decide_eq_false hb7;refine sdc A qs hb7 λa A=>?_;refine qa (hK6 _ _ (cf A ?_));refine wp_exit (hnorm _ _ (yq (v:=.tuple #[]) A rfl .nil rfl ?_));rw[show n-i=0 by omega]at hin;replace hin:xs=swR zs la lb n:=hin;rw[hin]at M;exact⟨rfl,M⟩
theorem jli{w0 w:World}{g9 c9 n9:Nat}{zs:List Dt}{T:List Ck}(hl:n9≤1000000000)(hzl:zs.length=n9){la lm lb:Nat}{fv:Value}(ha:la<lm)(hm:lm<lb)(hb:lb≤n9)(hM0:Mg w0 w (.row 30 11 (.slice (aO g9) n9 c9) n9 (cellsOf zs)::T)):Calls Tryz.prog 71 #[.slice (aO g9) n9 c9,iV ((la:Nat):Int),iV ((lm:Nat):Int),iV ((lb:Nat):Int),fv] w fun e w'=>e=.returned (.tuple #[])∧Mg w0 w' (.row 30 11 (.slice (aO g9) n9 c9) n9 (cellsOf (rot zs la lm lb))::T):=by
 have M:Mg w0 w (.row 30 11 (.slice (aO g9) n9 c9) n9 (cellsOf zs)::T):=hM0;refine qn (l:=[(0,.slice (aO g9) n9 c9),(1,iV (((la:Nat):Int))),(2,iV (((lm:Nat):Int))),(3,iV (((lb:Nat):Int))),(4,fv)]) Tryz.func71 rfl Tryz.ntmps71 rfl rfl ?_;intro Q hret hnorm hP a A;refine wsk fun K1 hK1=>wrl ?_;iterate 2 refine sdm A λa A=>?_
 refine sdo (v:=iV (((lm-la:Nat):Int))) A (qe rfl rfl (ar_sub ((in_i64 (by omega) (by omega)).trans (by omega)))) λa A=>?_;refine sda A λa A=>?_;refine qa (hK1 _ _ (wsk fun K2 hK2=>wrl ?_));iterate 2 refine sdm A λa A=>?_
 refine sdo (v:=iV (((lb-lm:Nat):Int))) A (qe rfl rfl (ar_sub ((in_i64 (by omega) (by omega)).trans (by omega)))) λa A=>?_;refine sda A λa A=>?_;refine qa (hK2 _ _ (wsk fun K3 hK3=>wp_block (zw (fun m_ a w1=>∃(i:Nat) (j:Nat) (xs:List Dt),m_=1+(i+j)∧(0<i∧0<j∧la+i≤lm∧lm+j≤lb∧xs.length=n9∧rot xs (lm-i) lm (lm+j)=rot zs la lm lb)∧Sl a 58 [(0,.slice (aO g9) n9 c9),(1,iV (((la:Nat):Int))),(2,iV (((lm:Nat):Int))),(3,iV (((lb:Nat):Int))),(4,fv),(10,iV (((i:Nat):Int))),(11,iV (((j:Nat):Int))),(12,iV (((lm:Nat):Int))),(13,iV (((la:Nat):Int))),(14,iV (((lm-la:Nat):Int))),(15,iV (((lb:Nat):Int))),(16,iV (((lm:Nat):Int))),(17,iV (((lb-lm:Nat):Int)))]∧Mg w0 w1 (.row 30 11 (.slice (aO g9) n9 c9) n9 (cellsOf xs)::T)) _ ⟨lm-la,lb-lm,zs,rfl,⟨by omega,by omega,by omega,by omega,hzl,by rw[show lm-(lm-la)=la by omega,show lm+(lb-lm)=lb by omega]⟩,A.keep _ (by repeat' constructor),M⟩ ?_)));clear M A;rintro m_ a w4 ⟨i,j,xs,rfl,hinv6,A,M⟩ K5 hK5;obtain⟨hi0,hj0,hi1,hj1,hxl,hin⟩:=hinv6;refine wsk fun K7 hK7=>wsk fun K8 hK8=>wrl ?_;iterate 2 refine sdm A λa A=>?_
 rcases tf ((((i:Nat):Int) != ((j:Nat):Int)))with hb9 | hb9
 ·have hb9':=bne_iff_ne.1 hb9;refine sdc A zh hb9 λa A=>?_;refine qa (hK8 _ _ (ct A ?_));refine wp_skip (hK7 _ _ (wp_block (wsk fun K10 hK10=>wrl ?_)));iterate 2 refine sdm A λa A=>?_
  rcases tf (decide (((j:Nat):Int)<((i:Nat):Int)))with hb11 | hb11
  ·have hb11':=of_decide_eq_true hb11;refine sdc A jm hb11 λa A=>?_;refine qa (hK10 _ _ (ct A ?_));refine wsk fun K12 hK12=>wrl ?_;iterate 3 refine sdm A λa A=>?_
   refine sdo (v:=iV (((lm-i:Nat):Int))) A (qe rfl rfl (ar_sub ((in_i64 (by omega) (by omega)).trans (by omega)))) λa A=>?_;iterate 3 refine sdm A λa A=>?_
   refine sct A (ef rfl rfl) (zfi (zs:=xs) (la:=lm-i) (lb:=lm) (n:=j) hl (by omega) (by omega) (by omega) M) ?_;rintro _ w14 ⟨rfl,hM13⟩;replace M:Mg w0 w14 (.row 30 11 (.slice (aO g9) n9 c9) n9 (cellsOf (swR xs (lm-i) lm j))::T):=hM13;refine⟨_,rfl,?_⟩;intro a A;refine qa (hK12 _ _ (wrl ?_));iterate 2 refine sdm A λa A=>?_
   refine sdo (v:=iV (((i-j:Nat):Int))) A (qe rfl rfl (ar_sub ((in_i64 (by omega) (by omega)).trans (by omega)))) λa A=>?_;refine sda A λa A=>?_;refine qa ?_;refine hK5 _ _ _ (by omega) ⟨i-j,j,(swR xs (lm-i) lm j),rfl,⟨by omega,by omega,by omega,by omega,by rw[zvd]; exact hxl,by rw[←hin]; exact jqh (by omega) (by omega) (by omega)⟩,A.keep _ (by repeat' constructor),M⟩
  ·have hb11':=of_decide_eq_false hb11;refine sdc A jm hb11 λa A=>?_;refine qa (hK10 _ _ (cf A ?_));refine wsk fun K15 hK15=>wrl ?_;iterate 3 refine sdm A λa A=>?_
   refine sdo (v:=iV (((lm-i:Nat):Int))) A (qe rfl rfl (ar_sub ((in_i64 (by omega) (by omega)).trans (by omega)))) λa A=>?_;iterate 2 refine sdm A λa A=>?_
   refine sdo (v:=iV (((lm+j:Nat):Int))) A (qe rfl rfl (ar_add ((in_i64 (by omega) (by omega)).trans (by omega)))) λa A=>?_;refine sdm A λa A=>?_;refine sdo (v:=iV ((((lm+j)-i:Nat):Int))) A (qe rfl rfl (ar_sub ((in_i64 (by omega) (by omega)).trans (by omega)))) λa A=>?_;iterate 2 refine sdm A λa A=>?_
   refine sct A (ef rfl rfl) (zfi (zs:=xs) (la:=lm-i) (lb:=(lm+j)-i) (n:=i) hl (by omega) (by omega) (by omega) M) ?_;rintro _ w17 ⟨rfl,hM16⟩;replace M:Mg w0 w17 (.row 30 11 (.slice (aO g9) n9 c9) n9 (cellsOf (swR xs (lm-i) ((lm+j)-i) i))::T):=hM16;refine⟨_,rfl,?_⟩;intro a A;refine qa (hK15 _ _ (wrl ?_));iterate 2 refine sdm A λa A=>?_
   refine sdo (v:=iV (((j-i:Nat):Int))) A (qe rfl rfl (ar_sub ((in_i64 (by omega) (by omega)).trans (by omega)))) λa A=>?_;refine sda A λa A=>?_;refine qa ?_;refine hK5 _ _ _ (by omega) ⟨i,j-i,(swR xs (lm-i) ((lm+j)-i) i),rfl,⟨by omega,by omega,by omega,by omega,by rw[zvd]; exact hxl,by rw[←hin]; exact jqi (by omega) (by omega) (by omega)⟩,A.keep _ (by repeat' constructor),M⟩
 ·have hb9':=bne_eq_false_iff_eq.1 hb9;refine sdc A zh hb9 λa A=>?_;refine qa (hK8 _ _ (cf A ?_));refine wp_exit (hK3 _ _ (wrl ?_));iterate 3 refine sdm A λa A=>?_
  refine sdo (v:=iV (((lm-i:Nat):Int))) A (qe rfl rfl (ar_sub ((in_i64 (by omega) (by omega)).trans (by omega)))) λa A=>?_;iterate 3 refine sdm A λa A=>?_
  refine sct A (ef rfl rfl) (zfi (zs:=xs) (la:=lm-i) (lb:=lm) (n:=i) hl (by omega) (by omega) (by omega) M) ?_;rintro _ w19 ⟨rfl,hM18⟩;replace M:Mg w0 w19 (.row 30 11 (.slice (aO g9) n9 c9) n9 (cellsOf (swR xs (lm-i) lm i))::T):=hM18;refine⟨_,rfl,?_⟩;intro a A;refine qa (hnorm _ _ (yq (v:=.tuple #[]) A rfl .nil rfl ?_));obtain rfl:i=j:=by omega
  rw[jld (by omega) (by omega),hin]at M;exact⟨rfl,M⟩
theorem zvh{w0 w:World}{g9 c9 n9:Nat}{zs:List Dt}{T:List Ck}(hl:n9≤1000000000)(hzl:zs.length=n9){f:FuncId}{cs:List Value}{c:Dt→Dt→Int}{ts:List Dt}(hF:Cmps Tryz.prog f cs w0 T ts c)(hsub:∀t∈zs,t∈ts){la lb:Nat}(hab:la≤n9)(hb:lb≤n9)(hM0:Mg w0 w (.row 30 11 (.slice (aO g9) n9 c9) n9 (cellsOf zs)::T)):Calls Tryz.prog 56 #[.slice (aO g9) n9 c9,iV ((la:Nat):Int),iV ((lb:Nat):Int),.func (.func f) #[] cs.toArray] w fun e w'=>e=.returned (.tuple #[])∧Mg w0 w' (.row 30 11 (.slice (aO g9) n9 c9) n9 (cellsOf (qke (ltC c) la (lb-(la+1)) (la+1) zs))::T):=by
 have M:Mg w0 w (.row 30 11 (.slice (aO g9) n9 c9) n9 (cellsOf zs)::T):=hM0;refine qn (l:=[(0,.slice (aO g9) n9 c9),(1,iV (((la:Nat):Int))),(2,iV (((lb:Nat):Int))),(3,.func (.func f) #[] cs.toArray)]) Tryz.func56 rfl Tryz.ntmps56 rfl rfl ?_;intro Q hret hnorm hP a A;refine wsk fun K1 hK1=>wrl (sdm A λa A=>?_);refine sdo (v:=iV (((la+1:Nat):Int))) A (qe rfl rfl (ar_add ((in_i64 (by omega) (by omega)).trans (by omega)))) λa A=>?_;refine sda A λa A=>?_;refine qa (hK1 _ _ (wp_block (zw (fun m_ a w1=>∃(i:Nat) (zs1:List Dt),m_=1+(lb-i)∧(la<i∧i≤max lb (la+1)∧zs1.length=n9∧(∀t∈zs1,t∈ts)∧qke (ltC c) la (lb-i) i zs1=qke (ltC c) la (lb-(la+1)) (la+1) zs)∧Sl a 53 [(0,.slice (aO g9) n9 c9),(1,iV (((la:Nat):Int))),(2,iV (((lb:Nat):Int))),(3,.func (.func f) #[] cs.toArray),(8,iV (((i:Nat):Int))),(10,iV (((la:Nat):Int))),(11,iV (((la+1:Nat):Int)))]∧Mg w0 w1 (.row 30 11 (.slice (aO g9) n9 c9) n9 (cellsOf zs1)::T)) _ ⟨la+1,zs,rfl,⟨by omega,by omega,hzl,hsub,rfl⟩,A.keep _ (by repeat' constructor),M⟩ ?_)));clear M A;rintro m_ a w2 ⟨i,zs1,rfl,hinv4,A,M⟩ K3 hK3;obtain⟨hi0,hi1,hzl1,hzs1,hin⟩:=hinv4;refine wsk fun K5 hK5=>wsk fun K6 hK6=>wrl ?_;iterate 2 refine sdm A λa A=>?_
 rcases tf (decide (((i:Nat):Int)<((lb:Nat):Int)))with hb7 | hb7
 ·have hb7':=of_decide_eq_true hb7;refine sdc A qs hb7 λa A=>?_;refine qa (hK6 _ _ (ct A ?_));refine wp_skip (hK5 _ _ (wsk fun K8 hK8=>wp_block (wsk fun K9 hK9=>wrl (sdm A λa A=>?_))));refine sda A λa A=>?_;refine qa (hK9 _ _ (wp_block (zw (fun m_ a w1=>∃(j:Nat) (xs:List Dt),m_=1+j∧(la≤j∧j≤i∧xs.length=n9∧(∀t∈xs,t∈ts)∧qka (ltC c) la xs j=qka (ltC c) la zs1 i)∧Sl a 53 [(0,.slice (aO g9) n9 c9),(1,iV (((la:Nat):Int))),(2,iV (((lb:Nat):Int))),(3,.func (.func f) #[] cs.toArray),(8,iV (((i:Nat):Int))),(9,iV (((j:Nat):Int))),(10,iV (((la:Nat):Int))),(11,iV (((la+1:Nat):Int))),(12,iV (((i:Nat):Int))),(13,iV (((lb:Nat):Int))),(14,bV true),(17,iV (((i:Nat):Int)))]∧Mg w0 w1 (.row 30 11 (.slice (aO g9) n9 c9) n9 (cellsOf xs)::T)) _ ⟨i,zs1,rfl,⟨by omega,Nat.le_refl _,hzl1,hzs1,rfl⟩,A.keep _ (by repeat' constructor),M⟩ ?_)));clear M A;rintro m_ a w10 ⟨j,xs,rfl,hinv12,A,M⟩ K11 hK11;obtain⟨hj0,hj1,hxl,hxs,hjn⟩:=hinv12;refine wsk fun K13 hK13=>wsk fun K14 hK14=>zu (S:=fun w1=>Mg w0 w1 (.row 30 11 (.slice (aO g9) n9 c9) n9 (cellsOf xs)::[])) (by kernel_rfl) ?_;replace M:=M.drew;refine amv A 0 rfl hP (M.sub (cC ns)) λa A=>?_;refine amv A 1 rfl hP (M.sub (cC ns)) λa A=>?_;rcases tf (decide (((la:Nat):Int)<((j:Nat):Int)))with hb15 | hb15
  ·have hb15':=of_decide_eq_true hb15;refine atk (v:=bV true) A 2 rfl hP (M.sub (cC ns)) (λ_ M=>qe rfl rfl (fun w=>(jm w).trans (by rw[hb15]))) λa A=>?_;refine amv A 3 rfl hP (M.sub (cC ns)) λa A=>?_;refine amv A 4 rfl hP (M.sub (cC ns)) λa A=>?_;refine amv A 5 rfl hP (M.sub (cC ns)) λa A=>?_;refine amv A 6 rfl hP (M.sub (cC ns)) λa A=>?_;refine atk (v:=pA g9 (j*11)) A 7 rfl hP (M.sub (cC ns)) (λ_ M=>zd (k:=j) Tryz.underlying28 (by kernel_rfl) rfl rfl rfl (by omega)) λa A=>?_;obtain⟨e16,he16⟩:∃z,xs[j]?=some z:=⟨_,List.getElem?_eq_getElem (by omega)⟩;refine atk A 8 rfl hP (M.sub (cC ns)) (λ_ M=>jo (o:=j*11) (cs:=e16.d.cells e16.ts.length) M 0 rfl zr (jb he16) rfl rfl) λa A=>?_;refine amv A 9 rfl hP (M.sub (cC ns)) λa A=>?_;refine amv A 10 rfl hP (M.sub (cC ns)) λa A=>?_;refine atk (v:=iV (((j-1:Nat):Int))) A 11 rfl hP (M.sub (cC ns)) (λ_ M=>qe rfl rfl (ar_sub ((in_i64 (by omega) (by omega)).trans (by omega)))) λa A=>?_;refine atk (v:=pA g9 ((j-1)*11)) A 12 rfl hP (M.sub (cC ns)) (λ_ M=>zd (k:=(j-1)) Tryz.underlying28 (by kernel_rfl) rfl rfl rfl (by omega)) λa A=>?_;obtain⟨e17,he17⟩:∃z,xs[(j-1)]?=some z:=⟨_,List.getElem?_eq_getElem (by omega)⟩;refine atk A 13 rfl hP (M.sub (cC ns)) (λ_ M=>jo (o:=(j-1)*11) (cs:=e17.d.cells e17.ts.length) M 0 rfl zr (jb he17) rfl rfl) λa A=>?_;refine qf (by kernel_rfl) (qr A 14 rfl rfl rfl rfl (qbf rfl rfl hF.inv) (hF.run e16 e17 _ (hxs _ (List.mem_of_getElem? he16)) (hxs _ (List.mem_of_getElem? he17)) (M.sub (cN (List.Sublist.refl _)))) ?_);rintro _ w19 ⟨rfl,hb18⟩;replace M:=M.call hb18;refine⟨_,rfl,(M.sub (cC ns)),?_⟩;intro a A;rcases tf (decide ((c e16 e17)<0))with hb20 | hb20
   ·have hb20':=of_decide_eq_true hb20;refine atk (v:=bV true) A 15 rfl hP (M.sub (cC ns)) (λ_ M=>qe rfl rfl (fun w=>(qs w).trans (by rw[hb20]))) λa A=>?_;refine atk (v:=bV true) A 16 rfl hP (M.sub (cC ns)) (λ_ M=>vw rfl rfl rfl rfl) λa A=>?_;refine qz (by kernel_rfl) ?_;refine hK14 _ _ (ct A ?_);refine wp_skip (hK13 _ _ (wsk fun K21 hK21=>wp_block (zu (S:=fun w1=>Mg w0 w1 ([])) (by kernel_rfl) ?_)));replace M:=M.drew;refine amv A 0 rfl hP (M.sub (cN ns)) λa A=>?_;refine amv A 1 rfl hP (M.sub (cN ns)) λa A=>?_;refine amv A 2 rfl hP (M.sub (cN ns)) λa A=>?_;refine amv A 3 rfl hP (M.sub (cN ns)) λa A=>?_;refine atk (v:=iV (((j-1:Nat):Int))) A 4 rfl hP (M.sub (cN ns)) (λ_ M=>qe rfl rfl (ar_sub ((in_i64 (by omega) (by omega)).trans (by omega)))) λa A=>?_;refine amv A 5 rfl hP (M.sub (cN ns)) λa A=>?_;refine amv A 6 rfl hP (M.sub (cN ns)) λa A=>?_;refine atk (v:=iV (((j-1:Nat):Int))) A 7 rfl hP (M.sub (cN ns)) (λ_ M=>qe rfl rfl (ar_sub ((in_i64 (by omega) (by omega)).trans (by omega)))) λa A=>?_;refine atk (v:=pA g9 ((j-1)*11)) A 8 rfl hP (M.sub (cN ns)) (λ_ M=>zd (k:=(j-1)) Tryz.underlying28 (by kernel_rfl) rfl rfl rfl (by omega)) λa A=>?_;refine amv A 10 rfl hP (M.sub (cN ns)) λa A=>?_;refine amv A 11 rfl hP (M.sub (cN ns)) λa A=>?_;refine atk (v:=pA g9 (j*11)) A 12 rfl hP (M.sub (cN ns)) (λ_ M=>zd (k:=j) Tryz.underlying28 (by kernel_rfl) rfl rfl rfl (by omega)) λa A=>?_;refine jx (rs:=[9,13]) (by kernel_rfl) (by simp) ⟨?_,?_,trivial⟩
    ·refine ve A 9 rfl rfl rfl rfl (jo (o:=(j-1)*11) (cs:=e17.d.cells e17.ts.length) M 0 rfl zr (jb he17) rfl rfl) (M.sub (cN ns)) λa A=>?_;refine qf (by kernel_rfl) (ve A 13 rfl rfl rfl rfl (jo (o:=j*11) (cs:=e16.d.cells e16.ts.length) M 0 rfl zr (jb he16) rfl rfl) (M.sub (cN ns)) ?_);intro a A;refine atk (v:=pA g9 (j*11)) A 14 rfl hP (M.sub (cN ns)) (λ_ M=>zd (k:=j) Tryz.underlying28 (by kernel_rfl) rfl rfl rfl (by omega)) λa A=>?_;refine qf (by kernel_rfl) (jt (L':=(.row 30 11 (.slice (aO g9) n9 c9) n9 (cellsOf (xs.set j e17))::T)) A M 15 rfl rfl rfl (jy (cs:=e17.d.cells e17.ts.length) rfl rfl rfl (by kernel_rfl) M 0 rfl (by show _+11≤_; omega) (jn e17)) 0 rfl (jz (by omega) rfl) rfl ?_);intro w22 M;refine⟨(M.sub (cN ns)),?_⟩;refine atk (v:=pA g9 ((j-1)*11)) A 16 rfl hP (M.sub (cN ns)) (λ_ M=>zd (k:=(j-1)) Tryz.underlying28 (by kernel_rfl) rfl rfl rfl (by omega)) λa A=>?_;refine qf (by kernel_rfl) (jt (L':=(.row 30 11 (.slice (aO g9) n9 c9) n9 (cellsOf ((xs.set j e17).set (j-1) e16))::T)) A M 17 rfl rfl rfl (jy (cs:=e16.d.cells e16.ts.length) rfl rfl rfl (by kernel_rfl) M 0 rfl (by show _+11≤_; omega) (jn e16)) 0 rfl (jz (by rw[List.length_set]; omega) rfl) rfl ?_);intro w23 M;rw[qdj he16 he17]at M;refine⟨(M.sub (cN ns)),?_⟩;refine qz (by kernel_rfl) ?_;refine hK21 _ _ (wrl (sdm A λa A=>?_));refine sdo (v:=iV (((j-1:Nat):Int))) A (qe rfl rfl (ar_sub ((in_i64 (by omega) (by omega)).trans (by omega)))) λa A=>?_;refine sda A λa A=>?_;refine qa ?_;refine hK11 _ _ _ (by omega) ⟨j-1,(swp xs j (j-1)),rfl,⟨by omega,by omega,by rw[qbc]; exact hxl,fun t ht=>hxs t (zfh ht),by rw[←hjn]; exact zfd (by omega) (qgh he16 he17 hb20)⟩,A.keep _ (by repeat' constructor),M⟩
    ·refine ve A 13 rfl rfl rfl rfl (jo (o:=j*11) (cs:=e16.d.cells e16.ts.length) M 0 rfl zr (jb he16) rfl rfl) (M.sub (cN ns)) λa A=>?_;refine qf (by kernel_rfl) (ve A 9 rfl rfl rfl rfl (jo (o:=(j-1)*11) (cs:=e17.d.cells e17.ts.length) M 0 rfl zr (jb he17) rfl rfl) (M.sub (cN ns)) ?_);intro a A;refine atk (v:=pA g9 (j*11)) A 14 rfl hP (M.sub (cN ns)) (λ_ M=>zd (k:=j) Tryz.underlying28 (by kernel_rfl) rfl rfl rfl (by omega)) λa A=>?_;refine qf (by kernel_rfl) (jt (L':=(.row 30 11 (.slice (aO g9) n9 c9) n9 (cellsOf (xs.set j e17))::T)) A M 15 rfl rfl rfl (jy (cs:=e17.d.cells e17.ts.length) rfl rfl rfl (by kernel_rfl) M 0 rfl (by show _+11≤_; omega) (jn e17)) 0 rfl (jz (by omega) rfl) rfl ?_);intro w24 M;refine⟨(M.sub (cN ns)),?_⟩;refine atk (v:=pA g9 ((j-1)*11)) A 16 rfl hP (M.sub (cN ns)) (λ_ M=>zd (k:=(j-1)) Tryz.underlying28 (by kernel_rfl) rfl rfl rfl (by omega)) λa A=>?_;refine qf (by kernel_rfl) (jt (L':=(.row 30 11 (.slice (aO g9) n9 c9) n9 (cellsOf ((xs.set j e17).set (j-1) e16))::T)) A M 17 rfl rfl rfl (jy (cs:=e16.d.cells e16.ts.length) rfl rfl rfl (by kernel_rfl) M 0 rfl (by show _+11≤_; omega) (jn e16)) 0 rfl (jz (by rw[List.length_set]; omega) rfl) rfl ?_);intro w25 M;rw[qdj he16 he17]at M;refine⟨(M.sub (cN ns)),?_⟩;refine qz (by kernel_rfl) ?_;refine hK21 _ _ (wrl (sdm A λa A=>?_));refine sdo (v:=iV (((j-1:Nat):Int))) A (qe rfl rfl (ar_sub ((in_i64 (by omega) (by omega)).trans (by omega)))) λa A=>?_;refine sda A λa A=>?_;refine qa ?_;refine hK11 _ _ _ (by omega) ⟨j-1,(swp xs j (j-1)),rfl,⟨by omega,by omega,by rw[qbc]; exact hxl,fun t ht=>hxs t (zfh ht),by rw[←hjn]; exact zfd (by omega) (qgh he16 he17 hb20)⟩,A.keep _ (by repeat' constructor),M⟩
   ·have hb20':=of_decide_eq_false hb20;refine atk (v:=bV false) A 15 rfl hP (M.sub (cC ns)) (λ_ M=>qe rfl rfl (fun w=>(qs w).trans (by rw[hb20]))) λa A=>?_;refine atk (v:=bV false) A 16 rfl hP (M.sub (cC ns)) (λ_ M=>vw rfl rfl rfl rfl) λa A=>?_;refine qz (by kernel_rfl) ?_;refine hK14 _ _ (cf A ?_);refine wp_exit (hK8 _ _ (wrl (sdm A λa A=>?_)));refine sdo (v:=iV (((i+1:Nat):Int))) A (qe rfl rfl (ar_add ((in_i64 (by omega) (by omega)).trans (by omega)))) λa A=>?_;refine sda A λa A=>?_;refine qa ?_;rw[zba (qgh he16 he17 hb20)]at hjn;refine hK3 _ _ _ (by omega) ⟨i+1,xs,rfl,⟨by omega,by omega,hxl,hxs,by rw[←hin,hjn,show lb-i=lb-(i+1)+1 by omega]; rfl⟩,A.keep _ (by repeat' constructor),M⟩
  ·have hb15':=of_decide_eq_false hb15;refine atk (v:=bV false) A 2 rfl hP (M.sub (cC ns)) (λ_ M=>qe rfl rfl (fun w=>(jm w).trans (by rw[hb15]))) λa A=>?_;refine amv A 3 rfl hP (M.sub (cC ns)) λa A=>?_;refine xu A 4 rfl rfl rfl rfl hP (M.sub (cC ns)) λa A=>?_;refine xu A 5 rfl rfl rfl rfl hP (M.sub (cC ns)) λa A=>?_;refine xu A 6 rfl rfl rfl rfl hP (M.sub (cC ns)) λa A=>?_;refine xu A 7 rfl rfl rfl rfl hP (M.sub (cC ns)) λa A=>?_;refine xu A 8 rfl rfl rfl rfl hP (M.sub (cC ns)) λa A=>?_;refine xu A 9 rfl rfl rfl rfl hP (M.sub (cC ns)) λa A=>?_;refine xu A 10 rfl rfl rfl rfl hP (M.sub (cC ns)) λa A=>?_;refine xu A 11 rfl rfl rfl rfl hP (M.sub (cC ns)) λa A=>?_;refine xu A 12 rfl rfl rfl rfl hP (M.sub (cC ns)) λa A=>?_;refine xu A 13 rfl rfl rfl rfl hP (M.sub (cC ns)) λa A=>?_;refine xu A 14 rfl rfl rfl rfl hP (M.sub (cC ns)) λa A=>?_;refine xu A 15 rfl rfl rfl rfl hP (M.sub (cC ns)) λa A=>?_;refine atk (v:=bV false) A 16 rfl hP (M.sub (cC ns)) (λ_ M=>vw rfl rfl rfl rfl) λa A=>?_;refine qz (by kernel_rfl) ?_;refine hK14 _ _ (cf A ?_);refine wp_exit (hK8 _ _ (wrl (sdm A λa A=>?_)));refine sdo (v:=iV (((i+1:Nat):Int))) A (qe rfl rfl (ar_add ((in_i64 (by omega) (by omega)).trans (by omega)))) λa A=>?_;refine sda A λa A=>?_;refine qa ?_;rw[zje (by omega)]at hjn;refine hK3 _ _ _ (by omega) ⟨i+1,xs,rfl,⟨by omega,by omega,hxl,hxs,by rw[←hin,hjn,show lb-i=lb-(i+1)+1 by omega]; rfl⟩,A.keep _ (by repeat' constructor),M⟩
 ·have hb7':=of_decide_eq_false hb7;refine sdc A qs hb7 λa A=>?_;refine qa (hK6 _ _ (cf A ?_));refine wp_exit (hnorm _ _ (yq (v:=.tuple #[]) A rfl .nil rfl ?_));replace hin:qke (ltC c) la (lb-i) i zs1=qke (ltC c) la (lb-(la+1)) (la+1) zs:=hin;rw[show lb-i=0 by omega]at hin;replace hin:zs1=_:=hin;rw[hin]at M;exact⟨rfl,M⟩
def SymC(f:FuncId)(cs:List Value)(c:Dt→Dt→Int)(ts:List Dt)(w0:World)(g9 c9 n9:Nat)(T:List Ck)(d:Nat):Prop:=∀{w:World} {zs:List Dt} {la lm lb:Nat},lb-la≤d→zs.length=n9→(∀t∈zs,t∈ts)→la<lm→lm<lb→lb≤n9→UpS (ltC c) zs la lm→UpS (ltC c) zs lm lb→Mg w0 w (.row 30 11 (.slice (aO g9) n9 c9) n9 (cellsOf zs)::T)→Calls Tryz.prog 57 #[.slice (aO g9) n9 c9,iV ((la:Nat):Int),iV ((lm:Nat):Int),iV ((lb:Nat):Int),.func (.func f) #[] cs.toArray] w fun e w'=>e=.returned (.tuple #[])∧Mg w0 w' (.row 30 11 (.slice (aO g9) n9 c9) n9 (cellsOf (mg (ltC c) zs la lm lb))::T)
theorem jed{f:FuncId}{cs:List Value}{c:Dt→Dt→Int}{ts:List Dt}{w0:World}{g9 c9 n9:Nat}{T:List Ck}(hl:n9≤1000000000)(hF:Cmps Tryz.prog f cs w0 T ts c)(H:Swo (ltC c)){d:Nat}(ih:SymC f cs c ts w0 g9 c9 n9 T d):SymC f cs c ts w0 g9 c9 n9 T (d+1):=by
 intro w zs la lm lb hd hzl hsub ham hmb hbn hu1 hu2 hM0;have M:Mg w0 w (.row 30 11 (.slice (aO g9) n9 c9) n9 (cellsOf zs)::T):=hM0;refine qn (l:=[(0,.slice (aO g9) n9 c9),(1,iV (((la:Nat):Int))),(2,iV (((lm:Nat):Int))),(3,iV (((lb:Nat):Int))),(4,.func (.func f) #[] cs.toArray)]) Tryz.func57 rfl Tryz.ntmps57 rfl rfl ?_;intro Q hret hnorm hP a A;refine wsk fun K1 hK1=>wsk fun K2 hK2=>wrl ?_;iterate 2 refine sdm A λa A=>?_
 refine sdo (v:=iV (((lm-la:Nat):Int))) A (qe rfl rfl (ar_sub ((in_i64 (by omega) (by omega)).trans (by omega)))) λa A=>?_;rcases tf ((((lm-la:Nat):Int)==1))with hb3 | hb3
 ·have hb3':=eq_of_beq hb3;refine sdc A qi hb3 λa A=>?_;refine qa (hK2 _ _ (ct A ?_));refine wsk fun K4 hK4=>wrl (sdm A λa A=>?_);refine sda A λa A=>?_;refine qa (hK4 _ _ (wsk fun K5 hK5=>wrl (sdm A λa A=>?_)));refine sda A λa A=>?_;refine qa (hK5 _ _ (wsk fun K6 hK6=>wp_block (zw (fun m_ a w1=>∃(i:Nat) (j:Nat),m_=1+(j-i)∧(lm≤i∧i≤j∧j≤lb∧(i=lm∨ltA (ltC c) zs (i-1) la=true)∧(j=lb∨ltA (ltC c) zs j la=false))∧Sl a 220 [(0,.slice (aO g9) n9 c9),(1,iV (((la:Nat):Int))),(2,iV (((lm:Nat):Int))),(3,iV (((lb:Nat):Int))),(4,.func (.func f) #[] cs.toArray),(10,iV (((i:Nat):Int))),(11,iV (((j:Nat):Int))),(25,iV (((lm:Nat):Int))),(26,iV (((la:Nat):Int))),(27,iV (((lm-la:Nat):Int))),(28,bV true),(29,iV (((lm:Nat):Int))),(30,iV (((lb:Nat):Int)))]∧Mg w0 w1 (.row 30 11 (.slice (aO g9) n9 c9) n9 (cellsOf zs)::T)) _ ⟨lm,lb,rfl,⟨Nat.le_refl _,by omega,Nat.le_refl _,.inl rfl,.inl rfl⟩,A.keep _ (by repeat' constructor),M⟩ ?_)));clear M A;rintro m_ a w7 ⟨i,j,rfl,hinv9,A,M⟩ K8 hK8;obtain⟨hi0,hi1,hi2,hil,hjr⟩:=hinv9;refine wsk fun K10 hK10=>wsk fun K11 hK11=>wrl ?_;iterate 2 refine sdm A λa A=>?_
  rcases tf (decide (((i:Nat):Int)<((j:Nat):Int)))with hb12 | hb12
  ·have hb12':=of_decide_eq_true hb12;refine sdc A qs hb12 λa A=>?_;refine qa (hK11 _ _ (ct A ?_));refine wp_skip (hK10 _ _ (wp_block (wsk fun K13 hK13=>wrl ?_)));iterate 2 refine sdm A λa A=>?_
   refine sdo (v:=iV (((i+j:Nat):Int))) A (qe rfl rfl (ar_add ((in_i64 (by omega) (by omega)).trans (by omega)))) λa A=>?_;refine sdo (v:=.int .u64 (((i+j:Nat):Int))) A (jj rfl (ar_conv Tryz.underlying3 Tryz.underlying83 (zfg (by omega) (by omega)))) λa A=>?_;refine sdo (v:=.int .u64 ((((i+j) / 2:Nat):Int))) A (qe rfl rfl (ar_shr (n:=1) rfl rfl (show((i+j:Nat):Int) / 2^1=(((i+j) / 2:Nat):Int)from by rw[show((2:Int)^1)=2 from rfl]; omega))) λa A=>?_;refine sdo (v:=iV ((((i+j) / 2:Nat):Int))) A (jj rfl (ar_conv Tryz.underlying83 Tryz.underlying3 (in_i64 (by omega) (by omega)))) λa A=>?_;refine sda A λa A=>?_;refine qa (hK13 _ _ (wsk fun K14 hK14=>zu (S:=fun w1=>Mg w0 w1 (.row 30 11 (.slice (aO g9) n9 c9) n9 (cellsOf zs)::[])) (by kernel_rfl) ?_));replace M:=M.drew;refine amv A 0 rfl hP (M.sub (cC ns)) λa A=>?_;refine amv A 1 rfl hP (M.sub (cC ns)) λa A=>?_;refine amv A 2 rfl hP (M.sub (cC ns)) λa A=>?_;refine atk (v:=pA g9 (((i+j) / 2)*11)) A 3 rfl hP (M.sub (cC ns)) (λ_ M=>zd (k:=((i+j) / 2)) Tryz.underlying28 (by kernel_rfl) rfl rfl rfl (by omega)) λa A=>?_;obtain⟨e15,he15⟩:∃z,zs[((i+j) / 2)]?=some z:=⟨_,List.getElem?_eq_getElem (by omega)⟩;refine atk A 4 rfl hP (M.sub (cC ns)) (λ_ M=>jo (o:=((i+j) / 2)*11) (cs:=e15.d.cells e15.ts.length) M 0 rfl zr (jb he15) rfl rfl) λa A=>?_;refine amv A 5 rfl hP (M.sub (cC ns)) λa A=>?_;refine amv A 6 rfl hP (M.sub (cC ns)) λa A=>?_;refine atk (v:=pA g9 (la*11)) A 7 rfl hP (M.sub (cC ns)) (λ_ M=>zd (k:=la) Tryz.underlying28 (by kernel_rfl) rfl rfl rfl (by omega)) λa A=>?_;obtain⟨e16,he16⟩:∃z,zs[la]?=some z:=⟨_,List.getElem?_eq_getElem (by omega)⟩;refine atk A 8 rfl hP (M.sub (cC ns)) (λ_ M=>jo (o:=la*11) (cs:=e16.d.cells e16.ts.length) M 0 rfl zr (jb he16) rfl rfl) λa A=>?_
   refine qf (by kernel_rfl) (qr A 9 rfl rfl rfl rfl (qbf rfl rfl hF.inv) (hF.run e15 e16 _ (hsub _ (List.mem_of_getElem? he15)) (hsub _ (List.mem_of_getElem? he16)) (M.sub (cN (List.Sublist.refl _)))) ?_);rintro _ w18 ⟨rfl,hb17⟩;replace M:=M.call hb17;refine⟨_,rfl,(M.sub (cC ns)),?_⟩;intro a A;rcases tf (decide ((c e15 e16)<0))with hb19 | hb19
   ·have hb19':=of_decide_eq_true hb19;refine atk (v:=bV true) A 10 rfl hP (M.sub (cC ns)) (λ_ M=>qe rfl rfl (fun w=>(qs w).trans (by rw[hb19]))) λa A=>?_;refine qz (by kernel_rfl) ?_;refine hK14 _ _ (ct A ?_);refine wrl (sdm A λa A=>?_);refine sdo (v:=iV (((((i+j) / 2)+1:Nat):Int))) A (qe rfl rfl (ar_add ((in_i64 (by omega) (by omega)).trans (by omega)))) λa A=>?_;refine sda A λa A=>?_;refine qa ?_;refine hK8 _ _ _ (by omega) ⟨(i+j) / 2+1,j,rfl,⟨by omega,by omega,by omega,.inr (by rw[Nat.add_sub_cancel]; exact qgh he15 he16 hb19),hjr⟩,A.keep _ (by repeat' constructor),M⟩
   ·have hb19':=of_decide_eq_false hb19;refine atk (v:=bV false) A 10 rfl hP (M.sub (cC ns)) (λ_ M=>qe rfl rfl (fun w=>(qs w).trans (by rw[hb19]))) λa A=>?_;refine qz (by kernel_rfl) ?_;refine hK14 _ _ (cf A ?_);refine wrl (sdm A λa A=>?_);refine sda A λa A=>?_;refine qa ?_;refine hK8 _ _ _ (by omega) ⟨i,(i+j) / 2,rfl,⟨by omega,by omega,by omega,hil,.inr (qgh he15 he16 hb19)⟩,A.keep _ (by repeat' constructor),M⟩
  ·have hb12':=of_decide_eq_false hb12;refine sdc A qs hb12 λa A=>?_;refine qa (hK11 _ _ (cf A ?_));refine wp_exit (hK6 _ _ (wsk fun K20 hK20=>wsk fun K21 hK21=>wrl (sdm A λa A=>?_)));refine sda A λa A=>?_;refine qa (hK21 _ _ (wp_block (zw (fun m_ a w1=>∃(k:Nat) (xs:List Dt),m_=1+(i-k)∧(la≤k∧k+1≤i∧xs.length=n9∧mvU xs k (i-1-k)=mvU zs la (i-1-la))∧Sl a 220 [(0,.slice (aO g9) n9 c9),(1,iV (((la:Nat):Int))),(2,iV (((lm:Nat):Int))),(3,iV (((lb:Nat):Int))),(4,.func (.func f) #[] cs.toArray),(10,iV (((i:Nat):Int))),(11,iV (((j:Nat):Int))),(13,iV (((k:Nat):Int))),(25,iV (((lm:Nat):Int))),(26,iV (((la:Nat):Int))),(27,iV (((lm-la:Nat):Int))),(28,bV true),(29,iV (((lm:Nat):Int))),(30,iV (((lb:Nat):Int))),(31,iV (((i:Nat):Int))),(32,iV (((j:Nat):Int))),(33,bV false),(54,iV (((la:Nat):Int)))]∧Mg w0 w1 (.row 30 11 (.slice (aO g9) n9 c9) n9 (cellsOf xs)::T)) _ ⟨la,zs,rfl,⟨Nat.le_refl _,by omega,hzl,rfl⟩,A.keep _ (by repeat' constructor),M⟩ ?_)));clear M A;rintro m_ a w22 ⟨k,xs,rfl,hinv24,A,M⟩ K23 hK23;obtain⟨hk0,hk1,hxl,hin⟩:=hinv24;refine wsk fun K25 hK25=>wsk fun K26 hK26=>wrl ?_;iterate 2 refine sdm A λa A=>?_
   refine sdo (v:=iV (((i-1:Nat):Int))) A (qe rfl rfl (ar_sub ((in_i64 (by omega) (by omega)).trans (by omega)))) λa A=>?_;rcases tf (decide (((k:Nat):Int)<((i-1:Nat):Int)))with hb27 | hb27
   ·have hb27':=of_decide_eq_true hb27;refine sdc A qs hb27 λa A=>?_;refine qa (hK26 _ _ (ct A ?_));refine wp_skip (hK25 _ _ (wsk fun K28 hK28=>wp_block (zu (S:=fun w1=>Mg w0 w1 ([])) (by kernel_rfl) ?_)));replace M:=M.drew;refine amv A 0 rfl hP (M.sub (cN ns)) λa A=>?_;refine amv A 1 rfl hP (M.sub (cN ns)) λa A=>?_;refine amv A 2 rfl hP (M.sub (cN ns)) λa A=>?_;refine amv A 3 rfl hP (M.sub (cN ns)) λa A=>?_;refine atk (v:=iV (((k+1:Nat):Int))) A 4 rfl hP (M.sub (cN ns)) (λ_ M=>qe rfl rfl (ar_add ((in_i64 (by omega) (by omega)).trans (by omega)))) λa A=>?_;refine amv A 5 rfl hP (M.sub (cN ns)) λa A=>?_;refine amv A 6 rfl hP (M.sub (cN ns)) λa A=>?_;refine atk (v:=iV (((k+1:Nat):Int))) A 7 rfl hP (M.sub (cN ns)) (λ_ M=>qe rfl rfl (ar_add ((in_i64 (by omega) (by omega)).trans (by omega)))) λa A=>?_;refine atk (v:=pA g9 ((k+1)*11)) A 8 rfl hP (M.sub (cN ns)) (λ_ M=>zd (k:=(k+1)) Tryz.underlying28 (by kernel_rfl) rfl rfl rfl (by omega)) λa A=>?_;refine amv A 10 rfl hP (M.sub (cN ns)) λa A=>?_;refine amv A 11 rfl hP (M.sub (cN ns)) λa A=>?_;refine atk (v:=pA g9 (k*11)) A 12 rfl hP (M.sub (cN ns)) (λ_ M=>zd (k:=k) Tryz.underlying28 (by kernel_rfl) rfl rfl rfl (by omega)) λa A=>?_;refine jx (rs:=[9,13]) (by kernel_rfl) (by simp) ⟨?_,?_,trivial⟩
    ·obtain⟨e29,he29⟩:∃z,xs[(k+1)]?=some z:=⟨_,List.getElem?_eq_getElem (by omega)⟩;refine ve A 9 rfl rfl rfl rfl (jo (o:=(k+1)*11) (cs:=e29.d.cells e29.ts.length) M 0 rfl zr (jb he29) rfl rfl) (M.sub (cN ns)) λa A=>?_;obtain⟨e30,he30⟩:∃z,xs[k]?=some z:=⟨_,List.getElem?_eq_getElem (by omega)⟩;refine qf (by kernel_rfl) (ve A 13 rfl rfl rfl rfl (jo (o:=k*11) (cs:=e30.d.cells e30.ts.length) M 0 rfl zr (jb he30) rfl rfl) (M.sub (cN ns)) ?_);intro a A;refine atk (v:=pA g9 (k*11)) A 14 rfl hP (M.sub (cN ns)) (λ_ M=>zd (k:=k) Tryz.underlying28 (by kernel_rfl) rfl rfl rfl (by omega)) λa A=>?_;refine qf (by kernel_rfl) (jt (L':=(.row 30 11 (.slice (aO g9) n9 c9) n9 (cellsOf (xs.set k e29))::T)) A M 15 rfl rfl rfl (jy (cs:=e29.d.cells e29.ts.length) rfl rfl rfl (by kernel_rfl) M 0 rfl (by show _+11≤_; omega) (jn e29)) 0 rfl (jz (by omega) rfl) rfl ?_);intro w31 M;refine⟨(M.sub (cN ns)),?_⟩;refine atk (v:=pA g9 ((k+1)*11)) A 16 rfl hP (M.sub (cN ns)) (λ_ M=>zd (k:=(k+1)) Tryz.underlying28 (by kernel_rfl) rfl rfl rfl (by omega)) λa A=>?_;refine qf (by kernel_rfl) (jt (L':=(.row 30 11 (.slice (aO g9) n9 c9) n9 (cellsOf ((xs.set k e29).set (k+1) e30))::T)) A M 17 rfl rfl rfl (jy (cs:=e30.d.cells e30.ts.length) rfl rfl rfl (by kernel_rfl) M 0 rfl (by show _+11≤_; omega) (jn e30)) 0 rfl (jz (by rw[List.length_set]; omega) rfl) rfl ?_);intro w32 M;rw[qdj he30 he29]at M;refine⟨(M.sub (cN ns)),?_⟩;refine qz (by kernel_rfl) ?_;refine hK28 _ _ (wrl (sdm A λa A=>?_));refine sdo (v:=iV (((k+1:Nat):Int))) A (qe rfl rfl (ar_add ((in_i64 (by omega) (by omega)).trans (by omega)))) λa A=>?_;refine sda A λa A=>?_;refine qa ?_;refine hK23 _ _ _ (by omega) ⟨k+1,(swp xs k (k+1)),rfl,⟨by omega,by omega,by rw[qbc]; exact hxl,by rw[←hin,show i-1-k=i-1-(k+1)+1 by omega]; rfl⟩,A.keep _ (by repeat' constructor),M⟩
    ·obtain⟨e33,he33⟩:∃z,xs[k]?=some z:=⟨_,List.getElem?_eq_getElem (by omega)⟩;refine ve A 13 rfl rfl rfl rfl (jo (o:=k*11) (cs:=e33.d.cells e33.ts.length) M 0 rfl zr (jb he33) rfl rfl) (M.sub (cN ns)) λa A=>?_;obtain⟨e34,he34⟩:∃z,xs[(k+1)]?=some z:=⟨_,List.getElem?_eq_getElem (by omega)⟩;refine qf (by kernel_rfl) (ve A 9 rfl rfl rfl rfl (jo (o:=(k+1)*11) (cs:=e34.d.cells e34.ts.length) M 0 rfl zr (jb he34) rfl rfl) (M.sub (cN ns)) ?_);intro a A;refine atk (v:=pA g9 (k*11)) A 14 rfl hP (M.sub (cN ns)) (λ_ M=>zd (k:=k) Tryz.underlying28 (by kernel_rfl) rfl rfl rfl (by omega)) λa A=>?_;refine qf (by kernel_rfl) (jt (L':=(.row 30 11 (.slice (aO g9) n9 c9) n9 (cellsOf (xs.set k e34))::T)) A M 15 rfl rfl rfl (jy (cs:=e34.d.cells e34.ts.length) rfl rfl rfl (by kernel_rfl) M 0 rfl (by show _+11≤_; omega) (jn e34)) 0 rfl (jz (by omega) rfl) rfl ?_);intro w35 M;refine⟨(M.sub (cN ns)),?_⟩;refine atk (v:=pA g9 ((k+1)*11)) A 16 rfl hP (M.sub (cN ns)) (λ_ M=>zd (k:=(k+1)) Tryz.underlying28 (by kernel_rfl) rfl rfl rfl (by omega)) λa A=>?_;refine qf (by kernel_rfl) (jt (L':=(.row 30 11 (.slice (aO g9) n9 c9) n9 (cellsOf ((xs.set k e34).set (k+1) e33))::T)) A M 17 rfl rfl rfl (jy (cs:=e33.d.cells e33.ts.length) rfl rfl rfl (by kernel_rfl) M 0 rfl (by show _+11≤_; omega) (jn e33)) 0 rfl (jz (by rw[List.length_set]; omega) rfl) rfl ?_);intro w36 M;rw[qdj he33 he34]at M;refine⟨(M.sub (cN ns)),?_⟩;refine qz (by kernel_rfl) ?_;refine hK28 _ _ (wrl (sdm A λa A=>?_));refine sdo (v:=iV (((k+1:Nat):Int))) A (qe rfl rfl (ar_add ((in_i64 (by omega) (by omega)).trans (by omega)))) λa A=>?_;refine sda A λa A=>?_;refine qa ?_;refine hK23 _ _ _ (by omega) ⟨k+1,(swp xs k (k+1)),rfl,⟨by omega,by omega,by rw[qbc]; exact hxl,by rw[←hin,show i-1-k=i-1-(k+1)+1 by omega]; rfl⟩,A.keep _ (by repeat' constructor),M⟩
   ·have hb27':=of_decide_eq_false hb27;refine sdc A qs hb27 λa A=>?_;refine qa (hK26 _ _ (cf A ?_));refine wp_exit (hK20 _ _ (wp_ret (hret _ _ (yq (v:=.tuple #[]) A rfl .nil rfl ?_))));obtain rfl:i=j:=(by omega);rw[show i-1-k=0 by omega]at hin;replace hin:xs=mvU zs la (i-1-la):=hin;rw[hin,jsj H (by omega) (by omega) (by omega) (by omega) hu2 hil hjr]at M;exact⟨rfl,M⟩
 ·have hb3':=ne_of_beq_false hb3;refine sdc A qi hb3 λa A=>?_;refine qa (hK2 _ _ (cf A ?_));refine wp_skip (hK1 _ _ (wsk fun K37 hK37=>wsk fun K38 hK38=>wrl ?_));iterate 2 refine sdm A λa A=>?_
  refine sdo (v:=iV (((lb-lm:Nat):Int))) A (qe rfl rfl (ar_sub ((in_i64 (by omega) (by omega)).trans (by omega)))) λa A=>?_;rcases tf ((((lb-lm:Nat):Int)==1))with hb39 | hb39
  ·have hb39':=eq_of_beq hb39;refine sdc A qi hb39 λa A=>?_;refine qa (hK38 _ _ (ct A ?_));refine wsk fun K40 hK40=>wrl (sdm A λa A=>?_);refine sda A λa A=>?_;refine qa (hK40 _ _ (wsk fun K41 hK41=>wrl (sdm A λa A=>?_)));refine sda A λa A=>?_;refine qa (hK41 _ _ (wsk fun K42 hK42=>wp_block (zw (fun m_ a w1=>∃(i:Nat) (j:Nat),m_=1+(j-i)∧(la≤i∧i≤j∧j≤lm∧(i=la∨ltA (ltC c) zs lm (i-1)=false)∧(j=lm∨ltA (ltC c) zs lm j=true))∧Sl a 220 [(0,.slice (aO g9) n9 c9),(1,iV (((la:Nat):Int))),(2,iV (((lm:Nat):Int))),(3,iV (((lb:Nat):Int))),(4,.func (.func f) #[] cs.toArray),(14,iV (((i:Nat):Int))),(15,iV (((j:Nat):Int))),(25,iV (((lm:Nat):Int))),(26,iV (((la:Nat):Int))),(27,iV (((lm-la:Nat):Int))),(28,bV false),(77,iV (((lb:Nat):Int))),(78,iV (((lm:Nat):Int))),(79,iV (((lb-lm:Nat):Int))),(80,bV true),(81,iV (((la:Nat):Int))),(82,iV (((lm:Nat):Int)))]∧Mg w0 w1 (.row 30 11 (.slice (aO g9) n9 c9) n9 (cellsOf zs)::T)) _ ⟨la,lm,rfl,⟨Nat.le_refl _,by omega,Nat.le_refl _,.inl rfl,.inl rfl⟩,A.keep _ (by repeat' constructor),M⟩ ?_)));clear M A;rintro m_ a w43 ⟨i,j,rfl,hinv45,A,M⟩ K44 hK44;obtain⟨hi0,hi1,hi2,hil,hjr⟩:=hinv45;refine wsk fun K46 hK46=>wsk fun K47 hK47=>wrl ?_;iterate 2 refine sdm A λa A=>?_
   rcases tf (decide (((i:Nat):Int)<((j:Nat):Int)))with hb48 | hb48
   ·have hb48':=of_decide_eq_true hb48;refine sdc A qs hb48 λa A=>?_;refine qa (hK47 _ _ (ct A ?_));refine wp_skip (hK46 _ _ (wp_block (wsk fun K49 hK49=>wrl ?_)));iterate 2 refine sdm A λa A=>?_
    refine sdo (v:=iV (((i+j:Nat):Int))) A (qe rfl rfl (ar_add ((in_i64 (by omega) (by omega)).trans (by omega)))) λa A=>?_;refine sdo (v:=.int .u64 (((i+j:Nat):Int))) A (jj rfl (ar_conv Tryz.underlying3 Tryz.underlying83 (zfg (by omega) (by omega)))) λa A=>?_;refine sdo (v:=.int .u64 ((((i+j) / 2:Nat):Int))) A (qe rfl rfl (ar_shr (n:=1) rfl rfl (show((i+j:Nat):Int) / 2^1=(((i+j) / 2:Nat):Int)from by rw[show((2:Int)^1)=2 from rfl]; omega))) λa A=>?_;refine sdo (v:=iV ((((i+j) / 2:Nat):Int))) A (jj rfl (ar_conv Tryz.underlying83 Tryz.underlying3 (in_i64 (by omega) (by omega)))) λa A=>?_;refine sda A λa A=>?_;refine qa (hK49 _ _ (wsk fun K50 hK50=>zu (S:=fun w1=>Mg w0 w1 (.row 30 11 (.slice (aO g9) n9 c9) n9 (cellsOf zs)::[])) (by kernel_rfl) ?_));replace M:=M.drew;refine amv A 0 rfl hP (M.sub (cC ns)) λa A=>?_;refine amv A 1 rfl hP (M.sub (cC ns)) λa A=>?_;refine amv A 2 rfl hP (M.sub (cC ns)) λa A=>?_;refine atk (v:=pA g9 (lm*11)) A 3 rfl hP (M.sub (cC ns)) (λ_ M=>zd (k:=lm) Tryz.underlying28 (by kernel_rfl) rfl rfl rfl (by omega)) λa A=>?_;obtain⟨e51,he51⟩:∃z,zs[lm]?=some z:=⟨_,List.getElem?_eq_getElem (by omega)⟩;refine atk A 4 rfl hP (M.sub (cC ns)) (λ_ M=>jo (o:=lm*11) (cs:=e51.d.cells e51.ts.length) M 0 rfl zr (jb he51) rfl rfl) λa A=>?_;refine amv A 5 rfl hP (M.sub (cC ns)) λa A=>?_;refine amv A 6 rfl hP (M.sub (cC ns)) λa A=>?_;refine atk (v:=pA g9 (((i+j) / 2)*11)) A 7 rfl hP (M.sub (cC ns)) (λ_ M=>zd (k:=((i+j) / 2)) Tryz.underlying28 (by kernel_rfl) rfl rfl rfl (by omega)) λa A=>?_;obtain⟨e52,he52⟩:∃z,zs[((i+j) / 2)]?=some z:=⟨_,List.getElem?_eq_getElem (by omega)⟩;refine atk A 8 rfl hP (M.sub (cC ns)) (λ_ M=>jo (o:=((i+j) / 2)*11) (cs:=e52.d.cells e52.ts.length) M 0 rfl zr (jb he52) rfl rfl) λa A=>?_
    refine qf (by kernel_rfl) (qr A 9 rfl rfl rfl rfl (qbf rfl rfl hF.inv) (hF.run e51 e52 _ (hsub _ (List.mem_of_getElem? he51)) (hsub _ (List.mem_of_getElem? he52)) (M.sub (cN (List.Sublist.refl _)))) ?_);rintro _ w54 ⟨rfl,hb53⟩;replace M:=M.call hb53;refine⟨_,rfl,(M.sub (cC ns)),?_⟩;intro a A;rcases tf (decide ((c e51 e52)<0))with hb55 | hb55
    ·have hb55':=of_decide_eq_true hb55;refine atk (v:=bV true) A 10 rfl hP (M.sub (cC ns)) (λ_ M=>qe rfl rfl (fun w=>(qs w).trans (by rw[hb55]))) λa A=>?_;refine atk (v:=bV false) A 11 rfl hP (M.sub (cC ns)) (λ_ M=>zj rfl zx) λa A=>?_;refine qz (by kernel_rfl) ?_;refine hK50 _ _ (cf A ?_);refine wrl (sdm A λa A=>?_);refine sda A λa A=>?_;refine qa ?_;refine hK44 _ _ _ (by omega) ⟨i,(i+j) / 2,rfl,⟨by omega,by omega,by omega,hil,.inr (qgh he51 he52 hb55)⟩,A.keep _ (by repeat' constructor),M⟩
    ·have hb55':=of_decide_eq_false hb55;refine atk (v:=bV false) A 10 rfl hP (M.sub (cC ns)) (λ_ M=>qe rfl rfl (fun w=>(qs w).trans (by rw[hb55]))) λa A=>?_;refine atk (v:=bV true) A 11 rfl hP (M.sub (cC ns)) (λ_ M=>zj rfl zx) λa A=>?_;refine qz (by kernel_rfl) ?_;refine hK50 _ _ (ct A ?_);refine wrl (sdm A λa A=>?_);refine sdo (v:=iV (((((i+j) / 2)+1:Nat):Int))) A (qe rfl rfl (ar_add ((in_i64 (by omega) (by omega)).trans (by omega)))) λa A=>?_;refine sda A λa A=>?_;refine qa ?_;refine hK44 _ _ _ (by omega) ⟨(i+j) / 2+1,j,rfl,⟨by omega,by omega,by omega,.inr (by rw[Nat.add_sub_cancel]; exact qgh he51 he52 hb55),hjr⟩,A.keep _ (by repeat' constructor),M⟩
   ·have hb48':=of_decide_eq_false hb48;refine sdc A qs hb48 λa A=>?_;refine qa (hK47 _ _ (cf A ?_));refine wp_exit (hK42 _ _ (wsk fun K56 hK56=>wsk fun K57 hK57=>wrl (sdm A λa A=>?_)));refine sda A λa A=>?_;refine qa (hK57 _ _ (wp_block (zw (fun m_ a w1=>∃(k:Nat) (xs:List Dt),m_=1+k∧(i≤k∧k≤lm∧xs.length=n9∧mvD xs k (k-i)=mvD zs lm (lm-i))∧Sl a 220 [(0,.slice (aO g9) n9 c9),(1,iV (((la:Nat):Int))),(2,iV (((lm:Nat):Int))),(3,iV (((lb:Nat):Int))),(4,.func (.func f) #[] cs.toArray),(14,iV (((i:Nat):Int))),(15,iV (((j:Nat):Int))),(17,iV (((k:Nat):Int))),(25,iV (((lm:Nat):Int))),(26,iV (((la:Nat):Int))),(27,iV (((lm-la:Nat):Int))),(28,bV false),(77,iV (((lb:Nat):Int))),(78,iV (((lm:Nat):Int))),(79,iV (((lb-lm:Nat):Int))),(80,bV true),(81,iV (((la:Nat):Int))),(82,iV (((lm:Nat):Int))),(83,iV (((i:Nat):Int))),(84,iV (((j:Nat):Int))),(85,bV false),(107,iV (((lm:Nat):Int)))]∧Mg w0 w1 (.row 30 11 (.slice (aO g9) n9 c9) n9 (cellsOf xs)::T)) _ ⟨lm,zs,rfl,⟨by omega,Nat.le_refl _,hzl,rfl⟩,A.keep _ (by repeat' constructor),M⟩ ?_)));clear M A;rintro m_ a w58 ⟨k,xs,rfl,hinv60,A,M⟩ K59 hK59;obtain⟨hk0,hk1,hxl,hin⟩:=hinv60;refine wsk fun K61 hK61=>wsk fun K62 hK62=>wrl ?_;iterate 2 refine sdm A λa A=>?_
    rcases tf (decide (((i:Nat):Int)<((k:Nat):Int)))with hb63 | hb63
    ·have hb63':=of_decide_eq_true hb63;refine sdc A jm hb63 λa A=>?_;refine qa (hK62 _ _ (ct A ?_));refine wp_skip (hK61 _ _ (wsk fun K64 hK64=>wp_block (zu (S:=fun w1=>Mg w0 w1 ([])) (by kernel_rfl) ?_)));replace M:=M.drew;refine amv A 0 rfl hP (M.sub (cN ns)) λa A=>?_;refine amv A 1 rfl hP (M.sub (cN ns)) λa A=>?_;refine amv A 2 rfl hP (M.sub (cN ns)) λa A=>?_;refine amv A 3 rfl hP (M.sub (cN ns)) λa A=>?_;refine atk (v:=iV (((k-1:Nat):Int))) A 4 rfl hP (M.sub (cN ns)) (λ_ M=>qe rfl rfl (ar_sub ((in_i64 (by omega) (by omega)).trans (by omega)))) λa A=>?_;refine amv A 5 rfl hP (M.sub (cN ns)) λa A=>?_;refine amv A 6 rfl hP (M.sub (cN ns)) λa A=>?_;refine atk (v:=iV (((k-1:Nat):Int))) A 7 rfl hP (M.sub (cN ns)) (λ_ M=>qe rfl rfl (ar_sub ((in_i64 (by omega) (by omega)).trans (by omega)))) λa A=>?_;refine atk (v:=pA g9 ((k-1)*11)) A 8 rfl hP (M.sub (cN ns)) (λ_ M=>zd (k:=(k-1)) Tryz.underlying28 (by kernel_rfl) rfl rfl rfl (by omega)) λa A=>?_;refine amv A 10 rfl hP (M.sub (cN ns)) λa A=>?_;refine amv A 11 rfl hP (M.sub (cN ns)) λa A=>?_;refine atk (v:=pA g9 (k*11)) A 12 rfl hP (M.sub (cN ns)) (λ_ M=>zd (k:=k) Tryz.underlying28 (by kernel_rfl) rfl rfl rfl (by omega)) λa A=>?_;refine jx (rs:=[9,13]) (by kernel_rfl) (by simp) ⟨?_,?_,trivial⟩
     ·obtain⟨e65,he65⟩:∃z,xs[(k-1)]?=some z:=⟨_,List.getElem?_eq_getElem (by omega)⟩;refine ve A 9 rfl rfl rfl rfl (jo (o:=(k-1)*11) (cs:=e65.d.cells e65.ts.length) M 0 rfl zr (jb he65) rfl rfl) (M.sub (cN ns)) λa A=>?_;obtain⟨e66,he66⟩:∃z,xs[k]?=some z:=⟨_,List.getElem?_eq_getElem (by omega)⟩;refine qf (by kernel_rfl) (ve A 13 rfl rfl rfl rfl (jo (o:=k*11) (cs:=e66.d.cells e66.ts.length) M 0 rfl zr (jb he66) rfl rfl) (M.sub (cN ns)) ?_);intro a A;refine atk (v:=pA g9 (k*11)) A 14 rfl hP (M.sub (cN ns)) (λ_ M=>zd (k:=k) Tryz.underlying28 (by kernel_rfl) rfl rfl rfl (by omega)) λa A=>?_;refine qf (by kernel_rfl) (jt (L':=(.row 30 11 (.slice (aO g9) n9 c9) n9 (cellsOf (xs.set k e65))::T)) A M 15 rfl rfl rfl (jy (cs:=e65.d.cells e65.ts.length) rfl rfl rfl (by kernel_rfl) M 0 rfl (by show _+11≤_; omega) (jn e65)) 0 rfl (jz (by omega) rfl) rfl ?_);intro w67 M;refine⟨(M.sub (cN ns)),?_⟩;refine atk (v:=pA g9 ((k-1)*11)) A 16 rfl hP (M.sub (cN ns)) (λ_ M=>zd (k:=(k-1)) Tryz.underlying28 (by kernel_rfl) rfl rfl rfl (by omega)) λa A=>?_;refine qf (by kernel_rfl) (jt (L':=(.row 30 11 (.slice (aO g9) n9 c9) n9 (cellsOf ((xs.set k e65).set (k-1) e66))::T)) A M 17 rfl rfl rfl (jy (cs:=e66.d.cells e66.ts.length) rfl rfl rfl (by kernel_rfl) M 0 rfl (by show _+11≤_; omega) (jn e66)) 0 rfl (jz (by rw[List.length_set]; omega) rfl) rfl ?_);intro w68 M;rw[qdj he66 he65]at M;refine⟨(M.sub (cN ns)),?_⟩;refine qz (by kernel_rfl) ?_;refine hK64 _ _ (wrl (sdm A λa A=>?_));refine sdo (v:=iV (((k-1:Nat):Int))) A (qe rfl rfl (ar_sub ((in_i64 (by omega) (by omega)).trans (by omega)))) λa A=>?_;refine sda A λa A=>?_;refine qa ?_;refine hK59 _ _ _ (by omega) ⟨k-1,(swp xs k (k-1)),rfl,⟨by omega,by omega,by rw[qbc]; exact hxl,by rw[←hin,show k-i=k-1-i+1 by omega]; rfl⟩,A.keep _ (by repeat' constructor),M⟩
     ·obtain⟨e69,he69⟩:∃z,xs[k]?=some z:=⟨_,List.getElem?_eq_getElem (by omega)⟩;refine ve A 13 rfl rfl rfl rfl (jo (o:=k*11) (cs:=e69.d.cells e69.ts.length) M 0 rfl zr (jb he69) rfl rfl) (M.sub (cN ns)) λa A=>?_;obtain⟨e70,he70⟩:∃z,xs[(k-1)]?=some z:=⟨_,List.getElem?_eq_getElem (by omega)⟩;refine qf (by kernel_rfl) (ve A 9 rfl rfl rfl rfl (jo (o:=(k-1)*11) (cs:=e70.d.cells e70.ts.length) M 0 rfl zr (jb he70) rfl rfl) (M.sub (cN ns)) ?_);intro a A;refine atk (v:=pA g9 (k*11)) A 14 rfl hP (M.sub (cN ns)) (λ_ M=>zd (k:=k) Tryz.underlying28 (by kernel_rfl) rfl rfl rfl (by omega)) λa A=>?_;refine qf (by kernel_rfl) (jt (L':=(.row 30 11 (.slice (aO g9) n9 c9) n9 (cellsOf (xs.set k e70))::T)) A M 15 rfl rfl rfl (jy (cs:=e70.d.cells e70.ts.length) rfl rfl rfl (by kernel_rfl) M 0 rfl (by show _+11≤_; omega) (jn e70)) 0 rfl (jz (by omega) rfl) rfl ?_);intro w71 M;refine⟨(M.sub (cN ns)),?_⟩;refine atk (v:=pA g9 ((k-1)*11)) A 16 rfl hP (M.sub (cN ns)) (λ_ M=>zd (k:=(k-1)) Tryz.underlying28 (by kernel_rfl) rfl rfl rfl (by omega)) λa A=>?_;refine qf (by kernel_rfl) (jt (L':=(.row 30 11 (.slice (aO g9) n9 c9) n9 (cellsOf ((xs.set k e70).set (k-1) e69))::T)) A M 17 rfl rfl rfl (jy (cs:=e69.d.cells e69.ts.length) rfl rfl rfl (by kernel_rfl) M 0 rfl (by show _+11≤_; omega) (jn e69)) 0 rfl (jz (by rw[List.length_set]; omega) rfl) rfl ?_);intro w72 M;rw[qdj he69 he70]at M;refine⟨(M.sub (cN ns)),?_⟩;refine qz (by kernel_rfl) ?_;refine hK64 _ _ (wrl (sdm A λa A=>?_));refine sdo (v:=iV (((k-1:Nat):Int))) A (qe rfl rfl (ar_sub ((in_i64 (by omega) (by omega)).trans (by omega)))) λa A=>?_;refine sda A λa A=>?_;refine qa ?_;refine hK59 _ _ _ (by omega) ⟨k-1,(swp xs k (k-1)),rfl,⟨by omega,by omega,by rw[qbc]; exact hxl,by rw[←hin,show k-i=k-1-i+1 by omega]; rfl⟩,A.keep _ (by repeat' constructor),M⟩
    ·have hb63':=of_decide_eq_false hb63;refine sdc A jm hb63 λa A=>?_;refine qa (hK62 _ _ (cf A ?_));refine wp_exit (hK56 _ _ (wp_ret (hret _ _ (yq (v:=.tuple #[]) A rfl .nil rfl ?_))));obtain rfl:i=j:=(by omega);rw[show k-i=0 by omega]at hin;replace hin:xs=mvD zs lm (lm-i):=hin;have h9:mvD zs lm (lm-i)=mg (ltC c) zs la lm lb:=jta H (by omega) (by omega) (by omega) (by omega) hu1 hil hjr;rw[hin,h9]at M;exact⟨rfl,M⟩
  ·have hb39':=ne_of_beq_false hb39;refine sdc A qi hb39 λa A=>?_;refine qa (hK38 _ _ (cf A ?_));refine wp_skip (hK37 _ _ (wsk fun K73 hK73=>wrl ?_));iterate 2 refine sdm A λa A=>?_
   refine sdo (v:=iV (((la+lb:Nat):Int))) A (qe rfl rfl (ar_add ((in_i64 (by omega) (by omega)).trans (by omega)))) λa A=>?_;refine sdo (v:=.int .u64 (((la+lb:Nat):Int))) A (jj rfl (ar_conv Tryz.underlying3 Tryz.underlying83 (zfg (by omega) (by omega)))) λa A=>?_;refine sdo (v:=.int .u64 ((((la+lb) / 2:Nat):Int))) A (qe rfl rfl (ar_shr (n:=1) rfl rfl (show((la+lb:Nat):Int) / 2^1=(((la+lb) / 2:Nat):Int)from by rw[show((2:Int)^1)=2 from rfl]; omega))) λa A=>?_;refine sdo (v:=iV ((((la+lb) / 2:Nat):Int))) A (jj rfl (ar_conv Tryz.underlying83 Tryz.underlying3 (in_i64 (by omega) (by omega)))) λa A=>?_;refine sda A λa A=>?_;refine qa (hK73 _ _ (wsk fun K74 hK74=>wrl ?_));iterate 2 refine sdm A λa A=>?_
   refine sdo (v:=iV (((((la+lb) / 2)+lm:Nat):Int))) A (qe rfl rfl (ar_add ((in_i64 (by omega) (by omega)).trans (by omega)))) λa A=>?_;refine sda A λa A=>?_;refine qa (hK74 _ _ (wsk fun K75 hK75=>wrl ?_));iterate 2 refine sda A λa A=>?_
   refine qa (hK75 _ _ (wsk fun K76 hK76=>?_));have hJ77:∀a w1,(∃(i3:Nat) (j3:Nat),(la≤i3∧i3≤j3∧j3≤lm∧j3≤((la+lb) / 2)∧(((la+lb) / 2)+lm)≤i3+lb∧(i3=la∨(((la+lb) / 2)+lm)-i3=lb)∧(j3=lm∨(((la+lb) / 2)+lm)-j3=lm))∧Sl a 220 [(0,.slice (aO g9) n9 c9),(1,iV (((la:Nat):Int))),(2,iV (((lm:Nat):Int))),(3,iV (((lb:Nat):Int))),(4,.func (.func f) #[] cs.toArray),(18,iV ((((la+lb) / 2:Nat):Int))),(19,iV (((((la+lb) / 2)+lm:Nat):Int))),(20,iV (((i3:Nat):Int))),(21,iV (((j3:Nat):Int))),(25,iV (((lm:Nat):Int))),(26,iV (((la:Nat):Int))),(27,iV (((lm-la:Nat):Int))),(28,bV false),(77,iV (((lb:Nat):Int))),(78,iV (((lm:Nat):Int))),(79,iV (((lb-lm:Nat):Int))),(80,bV false),(129,iV (((la:Nat):Int))),(130,iV (((lb:Nat):Int))),(131,iV (((la+lb:Nat):Int))),(132,.int .u64 (((la+lb:Nat):Int))),(133,.int .u64 ((((la+lb) / 2:Nat):Int))),(134,iV ((((la+lb) / 2:Nat):Int))),(135,iV ((((la+lb) / 2:Nat):Int))),(136,iV (((lm:Nat):Int))),(137,iV (((((la+lb) / 2)+lm:Nat):Int)))]∧Mg w0 w1 (.row 30 11 (.slice (aO g9) n9 c9) n9 (cellsOf zs)::T))→K76 a w1:=by
    clear A M;rintro a w78 ⟨i3,j3,hf79,A,M⟩;obtain⟨q1,q2,q3,q4,q5,q6,q7⟩:=hf79;refine hK76 _ _ (wsk fun K80 hK80=>wrl (sdm A λa A=>?_));refine sdo (v:=iV ((((((la+lb) / 2)+lm)-1:Nat):Int))) A (qe rfl rfl (ar_sub ((in_i64 (by omega) (by omega)).trans (by omega)))) λa A=>?_;refine sda A λa A=>?_;refine qa (hK80 _ _ (wsk fun K81 hK81=>wp_block (zw (fun m_ a w1=>∃(i:Nat) (j:Nat),m_=1+(j-i)∧(i3≤i∧i≤j∧j≤j3∧(i=la∨(((la+lb) / 2)+lm)-i=lb∨ltA (ltC c) zs ((((la+lb) / 2)+lm)-i) (i-1)=false)∧(j=lm∨(((la+lb) / 2)+lm)-j=lm∨ltA (ltC c) zs ((((la+lb) / 2)+lm)-j-1) j=true))∧Sl a 220 [(0,.slice (aO g9) n9 c9),(1,iV (((la:Nat):Int))),(2,iV (((lm:Nat):Int))),(3,iV (((lb:Nat):Int))),(4,.func (.func f) #[] cs.toArray),(18,iV ((((la+lb) / 2:Nat):Int))),(19,iV (((((la+lb) / 2)+lm:Nat):Int))),(20,iV (((i:Nat):Int))),(21,iV (((j:Nat):Int))),(22,iV ((((((la+lb) / 2)+lm)-1:Nat):Int))),(25,iV (((lm:Nat):Int))),(26,iV (((la:Nat):Int))),(27,iV (((lm-la:Nat):Int))),(28,bV false),(77,iV (((lb:Nat):Int))),(78,iV (((lm:Nat):Int))),(79,iV (((lb-lm:Nat):Int))),(80,bV false),(129,iV (((la:Nat):Int))),(130,iV (((lb:Nat):Int))),(131,iV (((la+lb:Nat):Int))),(132,.int .u64 (((la+lb:Nat):Int))),(133,.int .u64 ((((la+lb) / 2:Nat):Int))),(134,iV ((((la+lb) / 2:Nat):Int))),(135,iV ((((la+lb) / 2:Nat):Int))),(136,iV (((lm:Nat):Int))),(137,iV (((((la+lb) / 2)+lm:Nat):Int))),(147,iV (((((la+lb) / 2)+lm:Nat):Int))),(148,iV ((((((la+lb) / 2)+lm)-1:Nat):Int)))]∧Mg w0 w1 (.row 30 11 (.slice (aO g9) n9 c9) n9 (cellsOf zs)::T)) _ ⟨i3,j3,rfl,⟨Nat.le_refl _,q2,Nat.le_refl _,q6.elim .inl fun h=>.inr (.inl h),q7.elim .inl fun h=>.inr (.inl h)⟩,A.keep _ (by repeat' constructor),M⟩ ?_)));clear M A
    rintro m_ a w82 ⟨i,j,rfl,hinv84,A,M⟩ K83 hK83;obtain⟨hi0,hi1,hi2,hil,hjr⟩:=hinv84;refine wsk fun K85 hK85=>wsk fun K86 hK86=>wrl ?_;iterate 2 refine sdm A λa A=>?_
    rcases tf (decide (((i:Nat):Int)<((j:Nat):Int)))with hb87 | hb87
    ·have hb87':=of_decide_eq_true hb87;refine sdc A qs hb87 λa A=>?_;refine qa (hK86 _ _ (ct A ?_));refine wp_skip (hK85 _ _ (wp_block (wsk fun K88 hK88=>wrl ?_)));iterate 2 refine sdm A λa A=>?_
     refine sdo (v:=iV (((i+j:Nat):Int))) A (qe rfl rfl (ar_add ((in_i64 (by omega) (by omega)).trans (by omega)))) λa A=>?_;refine sdo (v:=.int .u64 (((i+j:Nat):Int))) A (jj rfl (ar_conv Tryz.underlying3 Tryz.underlying83 (zfg (by omega) (by omega)))) λa A=>?_;refine sdo (v:=.int .u64 ((((i+j) / 2:Nat):Int))) A (qe rfl rfl (ar_shr (n:=1) rfl rfl (show((i+j:Nat):Int) / 2^1=(((i+j) / 2:Nat):Int)from by rw[show((2:Int)^1)=2 from rfl]; omega))) λa A=>?_;refine sdo (v:=iV ((((i+j) / 2:Nat):Int))) A (jj rfl (ar_conv Tryz.underlying83 Tryz.underlying3 (in_i64 (by omega) (by omega)))) λa A=>?_;refine sda A λa A=>?_;refine qa (hK88 _ _ (wsk fun K89 hK89=>zu (S:=fun w1=>Mg w0 w1 (.row 30 11 (.slice (aO g9) n9 c9) n9 (cellsOf zs)::[])) (by kernel_rfl) ?_));replace M:=M.drew;refine amv A 0 rfl hP (M.sub (cC ns)) λa A=>?_;refine amv A 1 rfl hP (M.sub (cC ns)) λa A=>?_;refine amv A 2 rfl hP (M.sub (cC ns)) λa A=>?_;refine amv A 3 rfl hP (M.sub (cC ns)) λa A=>?_;refine atk (v:=iV (((((((la+lb) / 2)+lm)-1)-((i+j) / 2):Nat):Int))) A 4 rfl hP (M.sub (cC ns)) (λ_ M=>qe rfl rfl (ar_sub ((in_i64 (by omega) (by omega)).trans (by omega)))) λa A=>?_;refine atk (v:=pA g9 ((((((la+lb) / 2)+lm)-1)-((i+j) / 2))*11)) A 5 rfl hP (M.sub (cC ns)) (λ_ M=>zd (k:=(((((la+lb) / 2)+lm)-1)-((i+j) / 2))) Tryz.underlying28 (by kernel_rfl) rfl rfl rfl (by omega)) λa A=>?_;obtain⟨e90,he90⟩:∃z,zs[(((((la+lb) / 2)+lm)-1)-((i+j) / 2))]?=some z:=⟨_,List.getElem?_eq_getElem (by omega)⟩;refine atk A 6 rfl hP (M.sub (cC ns)) (λ_ M=>jo (o:=(((((la+lb) / 2)+lm)-1)-((i+j) / 2))*11) (cs:=e90.d.cells e90.ts.length) M 0 rfl zr (jb he90) rfl rfl) λa A=>?_;refine amv A 7 rfl hP (M.sub (cC ns)) λa A=>?_;refine amv A 8 rfl hP (M.sub (cC ns)) λa A=>?_
     refine atk (v:=pA g9 (((i+j) / 2)*11)) A 9 rfl hP (M.sub (cC ns)) (λ_ M=>zd (k:=((i+j) / 2)) Tryz.underlying28 (by kernel_rfl) rfl rfl rfl (by omega)) λa A=>?_;obtain⟨e91,he91⟩:∃z,zs[((i+j) / 2)]?=some z:=⟨_,List.getElem?_eq_getElem (by omega)⟩;refine atk A 10 rfl hP (M.sub (cC ns)) (λ_ M=>jo (o:=((i+j) / 2)*11) (cs:=e91.d.cells e91.ts.length) M 0 rfl zr (jb he91) rfl rfl) λa A=>?_;refine qf (by kernel_rfl) (qr A 11 rfl rfl rfl rfl (qbf rfl rfl hF.inv) (hF.run e90 e91 _ (hsub _ (List.mem_of_getElem? he90)) (hsub _ (List.mem_of_getElem? he91)) (M.sub (cN (List.Sublist.refl _)))) ?_);rintro _ w93 ⟨rfl,hb92⟩;replace M:=M.call hb92;refine⟨_,rfl,(M.sub (cC ns)),?_⟩;intro a A;rcases tf (decide ((c e90 e91)<0))with hb94 | hb94
     ·have hb94':=of_decide_eq_true hb94;refine atk (v:=bV true) A 12 rfl hP (M.sub (cC ns)) (λ_ M=>qe rfl rfl (fun w=>(qs w).trans (by rw[hb94]))) λa A=>?_;refine atk (v:=bV false) A 13 rfl hP (M.sub (cC ns)) (λ_ M=>zj rfl zx) λa A=>?_;refine qz (by kernel_rfl) ?_;refine hK89 _ _ (cf A ?_);refine wrl (sdm A λa A=>?_);refine sda A λa A=>?_;refine qa ?_;refine hK83 _ _ _ (by omega) ⟨i,(i+j) / 2,rfl,⟨by omega,by omega,by omega,hil,.inr (.inr (by rw[show(((la+lb) / 2)+lm)-(i+j) / 2-1=(((la+lb) / 2)+lm)-1-(i+j) / 2 by omega]; exact qgh he90 he91 hb94))⟩,A.keep _ (by repeat' constructor),M⟩
     ·have hb94':=of_decide_eq_false hb94;refine atk (v:=bV false) A 12 rfl hP (M.sub (cC ns)) (λ_ M=>qe rfl rfl (fun w=>(qs w).trans (by rw[hb94]))) λa A=>?_;refine atk (v:=bV true) A 13 rfl hP (M.sub (cC ns)) (λ_ M=>zj rfl zx) λa A=>?_;refine qz (by kernel_rfl) ?_;refine hK89 _ _ (ct A ?_);refine wrl (sdm A λa A=>?_);refine sdo (v:=iV (((((i+j) / 2)+1:Nat):Int))) A (qe rfl rfl (ar_add ((in_i64 (by omega) (by omega)).trans (by omega)))) λa A=>?_;refine sda A λa A=>?_;refine qa ?_;refine hK83 _ _ _ (by omega) ⟨(i+j) / 2+1,j,rfl,⟨by omega,by omega,by omega,.inr (.inr (by rw[show(((la+lb) / 2)+lm)-((i+j) / 2+1)=(((la+lb) / 2)+lm)-1-(i+j) / 2 by omega,Nat.add_sub_cancel]; exact qgh he90 he91 hb94)),hjr⟩,A.keep _ (by repeat' constructor),M⟩
    ·have hb87':=of_decide_eq_false hb87;refine sdc A qs hb87 λa A=>?_;refine qa (hK86 _ _ (cf A ?_));refine wp_exit (hK81 _ _ (wsk fun K95 hK95=>wrl ?_));iterate 2 refine sdm A λa A=>?_
     refine sdo (v:=iV ((((((la+lb) / 2)+lm)-i:Nat):Int))) A (qe rfl rfl (ar_sub ((in_i64 (by omega) (by omega)).trans (by omega)))) λa A=>?_;refine sda A λa A=>?_;refine qa (hK95 _ _ (wsk fun K96 hK96=>?_));have hJ97:∀a w1,(∃(xs:List Dt),(xs=rot zs i lm ((((la+lb) / 2)+lm)-i))∧Sl a 220 [(0,.slice (aO g9) n9 c9),(1,iV (((la:Nat):Int))),(2,iV (((lm:Nat):Int))),(3,iV (((lb:Nat):Int))),(4,.func (.func f) #[] cs.toArray),(18,iV ((((la+lb) / 2:Nat):Int))),(19,iV (((((la+lb) / 2)+lm:Nat):Int))),(20,iV (((i:Nat):Int))),(21,iV (((j:Nat):Int))),(22,iV ((((((la+lb) / 2)+lm)-1:Nat):Int))),(24,iV ((((((la+lb) / 2)+lm)-i:Nat):Int))),(25,iV (((lm:Nat):Int))),(26,iV (((la:Nat):Int))),(27,iV (((lm-la:Nat):Int))),(28,bV false),(77,iV (((lb:Nat):Int))),(78,iV (((lm:Nat):Int))),(79,iV (((lb-lm:Nat):Int))),(80,bV false),(129,iV (((la:Nat):Int))),(130,iV (((lb:Nat):Int))),(131,iV (((la+lb:Nat):Int))),(132,.int .u64 (((la+lb:Nat):Int))),(133,.int .u64 ((((la+lb) / 2:Nat):Int))),(134,iV ((((la+lb) / 2:Nat):Int))),(135,iV ((((la+lb) / 2:Nat):Int))),(136,iV (((lm:Nat):Int))),(137,iV (((((la+lb) / 2)+lm:Nat):Int))),(147,iV (((((la+lb) / 2)+lm:Nat):Int))),(148,iV ((((((la+lb) / 2)+lm)-1:Nat):Int))),(149,iV (((i:Nat):Int))),(150,iV (((j:Nat):Int))),(151,bV false),(175,iV (((((la+lb) / 2)+lm:Nat):Int))),(176,iV (((i:Nat):Int))),(177,iV ((((((la+lb) / 2)+lm)-i:Nat):Int)))]∧Mg w0 w1 (.row 30 11 (.slice (aO g9) n9 c9) n9 (cellsOf xs)::T))→K96 a w1:=by
      clear A M;rintro a w98 ⟨xs,hf99,A,M⟩;have hxe:=hf99;have hij:i=j:=(by omega);rw[←hij]at hjr;have hcut:Cut (ltC c) zs la lm lb i ((la+lb) / 2) ((((la+lb) / 2)+lm)-i):=jra H (by omega) (by omega) (by omega) (by omega) (by omega) (by omega) hu1 hu2 hil hjr;have hxl:xs.length=n9:=(by rw[hxe,jlf (by omega) (by omega) (by omega)]; exact hzl);have hxs:∀t∈xs,t∈ts:=fun t ht=>hsub t (jle (by omega) (by omega) (by omega) (hxe▸ht));refine hK96 _ _ (wsk fun K100 hK100=>?_)
      have hJ101:∀a w1,(∃(ys:List Dt),(ys=mg (ltC c) xs la i ((la+lb) / 2))∧Sl a 220 [(0,.slice (aO g9) n9 c9),(1,iV (((la:Nat):Int))),(2,iV (((lm:Nat):Int))),(3,iV (((lb:Nat):Int))),(4,.func (.func f) #[] cs.toArray),(18,iV ((((la+lb) / 2:Nat):Int))),(19,iV (((((la+lb) / 2)+lm:Nat):Int))),(20,iV (((i:Nat):Int))),(21,iV (((j:Nat):Int))),(22,iV ((((((la+lb) / 2)+lm)-1:Nat):Int))),(24,iV ((((((la+lb) / 2)+lm)-i:Nat):Int))),(25,iV (((lm:Nat):Int))),(26,iV (((la:Nat):Int))),(27,iV (((lm-la:Nat):Int))),(28,bV false),(77,iV (((lb:Nat):Int))),(78,iV (((lm:Nat):Int))),(79,iV (((lb-lm:Nat):Int))),(80,bV false),(129,iV (((la:Nat):Int))),(130,iV (((lb:Nat):Int))),(131,iV (((la+lb:Nat):Int))),(132,.int .u64 (((la+lb:Nat):Int))),(133,.int .u64 ((((la+lb) / 2:Nat):Int))),(134,iV ((((la+lb) / 2:Nat):Int))),(135,iV ((((la+lb) / 2:Nat):Int))),(136,iV (((lm:Nat):Int))),(137,iV (((((la+lb) / 2)+lm:Nat):Int))),(147,iV (((((la+lb) / 2)+lm:Nat):Int))),(148,iV ((((((la+lb) / 2)+lm)-1:Nat):Int))),(149,iV (((i:Nat):Int))),(150,iV (((j:Nat):Int))),(151,bV false),(175,iV (((((la+lb) / 2)+lm:Nat):Int))),(176,iV (((i:Nat):Int))),(177,iV ((((((la+lb) / 2)+lm)-i:Nat):Int)))]∧Mg w0 w1 (.row 30 11 (.slice (aO g9) n9 c9) n9 (cellsOf ys)::T))→K100 a w1:=by
       clear A M;rintro a w102 ⟨ys,hf103,A,M⟩;have hye:=hf103;have hyl:ys.length=n9:=(by rw[hye,jqj (by omega) (by omega) (by omega)]; exact hxl);have hys:∀t∈ys,t∈ts:=fun t ht=>hxs t (jdj (by omega) (by omega) (by omega) (hye▸ht));refine hK100 _ _ (wsk fun K104 hK104=>wrl ?_);iterate 2 refine sdm A λa A=>?_
       rcases tf (decide ((((la+lb) / 2:Nat):Int)<(((((la+lb) / 2)+lm)-i:Nat):Int)))with hb105 | hb105
       ·have hb105':=of_decide_eq_true hb105;refine sdc A qs hb105 λa A=>?_;iterate 3 refine sdm A λa A=>?_
        rcases tf (decide ((((((la+lb) / 2)+lm)-i:Nat):Int)<((lb:Nat):Int)))with hb106 | hb106
        ·have hb106':=of_decide_eq_true hb106;refine sdc A qs hb106 λa A=>?_;refine sdk (v:=bV true) A λa A=>?_;refine qa (hK104 _ _ (ct A ?_));refine wrl ?_;iterate 5 refine sdm A λa A=>?_
         refine sct A (ef rfl rfl) (ih (zs:=ys) (by omega) hyl hys (by omega) (by omega) (by omega) (by rw[hye,hxe]; exact hcut.u3) (by rw[hye,hxe]; exact hcut.u4) M) ?_;rintro _ w108 ⟨rfl,hM107⟩;replace M:Mg w0 w108 (.row 30 11 (.slice (aO g9) n9 c9) n9 (cellsOf (mg (ltC c) ys ((la+lb) / 2) ((((la+lb) / 2)+lm)-i) lb))::T):=hM107;refine⟨_,rfl,?_⟩;intro a A;refine qa (hnorm _ _ (yq (v:=.tuple #[]) A rfl .nil rfl ?_));rw[hye,hxe,hcut.eq]at M;exact⟨rfl,M⟩
        ·have hb106':=of_decide_eq_false hb106;refine sdc A qs hb106 λa A=>?_;refine sdk (v:=bV false) A λa A=>?_;refine qa (hK104 _ _ (cf A ?_));refine wp_skip (hnorm _ _ (yq (v:=.tuple #[]) A rfl .nil rfl ?_));have hye2:ys=mg (ltC c) ys ((la+lb) / 2) ((((la+lb) / 2)+lm)-i) lb:=(qtb (by omega) (by omega) (by omega) (by omega)).symm;rw[hye2]at M;rw[hye,hxe,hcut.eq]at M;exact⟨rfl,M⟩
       ·have hb105':=of_decide_eq_false hb105;refine sdc A qs hb105 λa A=>?_;refine sdm A λa A=>?_;iterate 3 refine qm A rfl rfl rfl λa A=>?_
        refine sdk (v:=bV false) A λa A=>?_;refine qa (hK104 _ _ (cf A ?_));refine wp_skip (hnorm _ _ (yq (v:=.tuple #[]) A rfl .nil rfl ?_));have hye2:ys=mg (ltC c) ys ((la+lb) / 2) ((((la+lb) / 2)+lm)-i) lb:=(qtb (by omega) (by omega) (by omega) (by omega)).symm;rw[hye2]at M;rw[hye,hxe,hcut.eq]at M;exact⟨rfl,M⟩
      refine wsk fun K109 hK109=>wrl ?_;iterate 2 refine sdm A λa A=>?_
      rcases tf (decide (((la:Nat):Int)<((i:Nat):Int)))with hb110 | hb110
      ·have hb110':=of_decide_eq_true hb110;refine sdc A qs hb110 λa A=>?_;iterate 3 refine sdm A λa A=>?_
       rcases tf (decide (((i:Nat):Int)<(((la+lb) / 2:Nat):Int)))with hb111 | hb111
       ·have hb111':=of_decide_eq_true hb111;refine sdc A qs hb111 λa A=>?_;refine sdk (v:=bV true) A λa A=>?_;refine qa (hK109 _ _ (ct A ?_));refine wrl ?_;iterate 5 refine sdm A λa A=>?_
        refine sct A (ef rfl rfl) (ih (zs:=xs) (by omega) hxl hxs (by omega) (by omega) (by omega) (by rw[hxe]; exact hcut.u1) (by rw[hxe]; exact hcut.u2) M) ?_;rintro _ w113 ⟨rfl,hM112⟩;replace M:Mg w0 w113 (.row 30 11 (.slice (aO g9) n9 c9) n9 (cellsOf (mg (ltC c) xs la i ((la+lb) / 2)))::T):=hM112;refine⟨_,rfl,?_⟩;intro a A;refine qa ?_;exact hJ101 _ _ ⟨(mg (ltC c) xs la i ((la+lb) / 2)),rfl,A.keep _ (by repeat' constructor),M⟩
       ·have hb111':=of_decide_eq_false hb111;refine sdc A qs hb111 λa A=>?_;refine sdk (v:=bV false) A λa A=>?_;refine qa (hK109 _ _ (cf A ?_));refine wp_skip ?_;exact hJ101 _ _ ⟨xs,(qtb (by omega) (by omega) (by omega) (by omega)).symm,A.keep _ (by repeat' constructor),M⟩
      ·have hb110':=of_decide_eq_false hb110;refine sdc A qs hb110 λa A=>?_;refine sdm A λa A=>?_;iterate 3 refine qm A rfl rfl rfl λa A=>?_
       refine sdk (v:=bV false) A λa A=>?_;refine qa (hK109 _ _ (cf A ?_));refine wp_skip ?_;exact hJ101 _ _ ⟨xs,(qtb (by omega) (by omega) (by omega) (by omega)).symm,A.keep _ (by repeat' constructor),M⟩
     refine wsk fun K114 hK114=>wrl ?_;iterate 2 refine sdm A λa A=>?_
     rcases tf (decide (((i:Nat):Int)<((lm:Nat):Int)))with hb115 | hb115
     ·have hb115':=of_decide_eq_true hb115;refine sdc A qs hb115 λa A=>?_;iterate 3 refine sdm A λa A=>?_
      rcases tf (decide (((lm:Nat):Int)<(((((la+lb) / 2)+lm)-i:Nat):Int)))with hb116 | hb116
      ·have hb116':=of_decide_eq_true hb116;refine sdc A qs hb116 λa A=>?_;refine sdk (v:=bV true) A λa A=>?_;refine qa (hK114 _ _ (ct A ?_));refine wrl ?_;iterate 5 refine sdm A λa A=>?_
       refine sct A (ef rfl rfl) (jli (zs:=zs) hl hzl (by omega) (by omega) (by omega) M) ?_;rintro _ w118 ⟨rfl,hM117⟩;replace M:Mg w0 w118 (.row 30 11 (.slice (aO g9) n9 c9) n9 (cellsOf (rot zs i lm ((((la+lb) / 2)+lm)-i)))::T):=hM117;refine⟨_,rfl,?_⟩;intro a A;refine qa ?_;exact hJ97 _ _ ⟨(rot zs i lm ((((la+lb) / 2)+lm)-i)),rfl,A.keep _ (by repeat' constructor),M⟩
      ·have hb116':=of_decide_eq_false hb116;refine sdc A qs hb116 λa A=>?_;refine sdk (v:=bV false) A λa A=>?_;refine qa (hK114 _ _ (cf A ?_));refine wp_skip ?_;exact hJ97 _ _ ⟨zs,(zjg (by omega) (by omega) (by omega) (by omega)).symm,A.keep _ (by repeat' constructor),M⟩
     ·have hb115':=of_decide_eq_false hb115;refine sdc A qs hb115 λa A=>?_;refine sdm A λa A=>?_;iterate 3 refine qm A rfl rfl rfl λa A=>?_
      refine sdk (v:=bV false) A λa A=>?_;refine qa (hK114 _ _ (cf A ?_));refine wp_skip ?_;exact hJ97 _ _ ⟨zs,(zjg (by omega) (by omega) (by omega) (by omega)).symm,A.keep _ (by repeat' constructor),M⟩
   refine wsk fun K119 hK119=>wrl ?_;iterate 2 refine sdm A λa A=>?_
   rcases tf (decide ((((la+lb) / 2:Nat):Int)<((lm:Nat):Int)))with hb120 | hb120
   ·have hb120':=of_decide_eq_true hb120;refine sdc A jm hb120 λa A=>?_;refine qa (hK119 _ _ (ct A ?_));refine wsk fun K121 hK121=>wrl ?_;iterate 2 refine sdm A λa A=>?_
    refine sdo (v:=iV ((((((la+lb) / 2)+lm)-lb:Nat):Int))) A (qe rfl rfl (ar_sub ((in_i64 (by omega) (by omega)).trans (by omega)))) λa A=>?_;refine sda A λa A=>?_;refine qa (hK121 _ _ (wrl (sdm A λa A=>?_)));refine sda A λa A=>?_;refine qa ?_;exact hJ77 _ _ ⟨(((la+lb) / 2)+lm)-lb,(la+lb) / 2,⟨by omega,by omega,by omega,by omega,by omega,by omega,by omega⟩,A.keep _ (by repeat' constructor),M⟩
   ·have hb120':=of_decide_eq_false hb120;refine sdc A jm hb120 λa A=>?_;refine qa (hK119 _ _ (cf A ?_));refine wsk fun K122 hK122=>wrl (sdm A λa A=>?_);refine sda A λa A=>?_;refine qa (hK122 _ _ (wrl (sdm A λa A=>?_)));refine sda A λa A=>?_;refine qa ?_;exact hJ77 _ _ ⟨la,lm,⟨by omega,by omega,by omega,by omega,by omega,by omega,by omega⟩,A.keep _ (by repeat' constructor),M⟩
theorem zfj{f:FuncId}{cs:List Value}{c:Dt→Dt→Int}{ts:List Dt}{w0:World}{g9 c9 n9:Nat}{T:List Ck}(hl:n9≤1000000000)(hF:Cmps Tryz.prog f cs w0 T ts c)(H:Swo (ltC c)):∀d,SymC f cs c ts w0 g9 c9 n9 T d
 | 0 => fun hd _ _ h1 h2 => by omega
 | d + 1 => jed hl hF H (zfj hl hF H d)
theorem zqf{w0 w:World}{g9 c9 n9:Nat}{zs:List Dt}{T:List Ck}(hl:n9≤1000000000)(hzl:zs.length=n9){f:FuncId}{cs:List Value}{c:Dt→Dt→Int}{ts:List Dt}(hF:Cmps Tryz.prog f cs w0 T ts c)(hsub:∀t∈zs,t∈ts)(H:Swo (ltC c))(hM0:Mg w0 w (.row 30 11 (.slice (aO g9) n9 c9) n9 (cellsOf zs)::T)):Calls Tryz.prog 42 #[.slice (aO g9) n9 c9,iV ((n9:Nat):Int),.func (.func f) #[] cs.toArray] w fun e w'=>e=.returned (.tuple #[])∧Mg w0 w' (.row 30 11 (.slice (aO g9) n9 c9) n9 (cellsOf (jd (ltC c) zs))::T):=by
 have M:Mg w0 w (.row 30 11 (.slice (aO g9) n9 c9) n9 (cellsOf zs)::T):=hM0;refine qn (l:=[(0,.slice (aO g9) n9 c9),(1,iV (((n9:Nat):Int))),(2,.func (.func f) #[] cs.toArray)]) Tryz.func42 rfl Tryz.ntmps42 rfl rfl ?_;intro Q hret hnorm hP a A;refine wsk fun K1 hK1=>wrl (sda A λa A=>?_);refine qa (hK1 _ _ (wsk fun K2 hK2=>wrl (sdm A λa A=>?_)));iterate 2 refine sda A λa A=>?_
 refine qa (hK2 _ _ (wsk fun K3 hK3=>wp_block (zw (fun m_ a w1=>∃(p:Nat) (x:List Dt),m_=1+(n9-p)∧(p≤n9∧x.length=p∧(∀t∈x++zs.drop p,t∈ts)∧x++srt (ltC c) 20 (zs.drop p)=srt (ltC c) 20 zs)∧Sl a 63 [(0,.slice (aO g9) n9 c9),(1,iV (((n9:Nat):Int))),(2,.func (.func f) #[] cs.toArray),(6,iV 20),(7,iV (((p:Nat):Int))),(8,iV (((p+20:Nat):Int))),(10,iV 20)]∧Mg w0 w1 (.row 30 11 (.slice (aO g9) n9 c9) n9 (cellsOf (x++zs.drop p))::T)) _ ⟨0,[],rfl,⟨Nat.zero_le _,rfl,hsub,rfl⟩,A.keep _ (by repeat' constructor),M⟩ ?_)));clear M A;rintro m_ a w4 ⟨p,x,rfl,hinv6,A,M⟩ K5 hK5;obtain⟨hp0,hx,hxs,hX⟩:=hinv6;refine wsk fun K7 hK7=>wsk fun K8 hK8=>wrl ?_;iterate 2 refine sdm A λa A=>?_
 rcases tf (decide (((p+20:Nat):Int)≤((n9:Nat):Int)))with hb9 | hb9
 ·have hb9':=of_decide_eq_true hb9;refine sdc A ke hb9 λa A=>?_;refine qa (hK8 _ _ (ct A ?_));refine wp_skip (hK7 _ _ (wp_block (wsk fun K10 hK10=>wrl ?_)));iterate 4 refine sdm A λa A=>?_
  refine sct A (ef rfl rfl) (zvh (zs:=(x++zs.drop p)) hl (by rw[List.length_append,List.length_drop]; omega) hF hxs (by omega) (by omega) M) ?_;rintro _ w12 ⟨rfl,hM11⟩;replace M:Mg w0 w12 (.row 30 11 (.slice (aO g9) n9 c9) n9 (cellsOf (qke (ltC c) p ((p+20)-(p+1)) (p+1) (x++zs.drop p)))::T):=hM11;refine⟨_,rfl,?_⟩;intro a A;refine qa (hK10 _ _ (wsk fun K13 hK13=>wrl (sdm A λa A=>?_)));refine sda A λa A=>?_;refine qa (hK13 _ _ (wrl ?_));iterate 2 refine sdm A λa A=>?_
  refine sdo (v:=iV ((((p+20)+20:Nat):Int))) A (qe rfl rfl (ar_add ((in_i64 (by omega) (by omega)).trans (by omega)))) λa A=>?_;refine sda A λa A=>?_;refine qa ?_;obtain⟨y1,hy1,hy2,hy3⟩:=jlg H (by decide) hx (by omega) hX;have hys:∀t∈y1++zs.drop (p+20),t∈ts:=fun t ht=>hxs t (zjj _ _ _ (hy2▸ht));rw[hy2]at M;refine hK5 _ _ _ (by omega) ⟨p+20,y1,rfl,⟨by omega,hy1,hys,hy3⟩,A.keep _ (by repeat' constructor),M⟩
 ·have hb9':=of_decide_eq_false hb9;refine sdc A ke hb9 λa A=>?_;refine qa (hK8 _ _ (cf A ?_));refine wp_exit (hK3 _ _ (wsk fun K14 hK14=>wrl ?_));iterate 4 refine sdm A λa A=>?_
  refine sct A (ef rfl rfl) (zvh (zs:=(x++zs.drop p)) hl (by rw[List.length_append,List.length_drop]; omega) hF hxs (by omega) (by omega) M) ?_;rintro _ w16 ⟨rfl,hM15⟩;replace M:Mg w0 w16 (.row 30 11 (.slice (aO g9) n9 c9) n9 (cellsOf (qke (ltC c) p (n9-(p+1)) (p+1) (x++zs.drop p)))::T):=hM15;refine⟨_,rfl,?_⟩;intro a A;refine qa (hK14 _ _ (wp_block ?_));have h9:=jea H hx (by omega) (by omega) hX;rw[hzl]at h9;rw[h9]at M;refine zw (fun m_ a w1=>∃(q:Nat),m_=1+(n9-q)∧(0<q∧q≤2*n9+20)∧Sl a 63 [(0,.slice (aO g9) n9 c9),(1,iV (((n9:Nat):Int))),(2,.func (.func f) #[] cs.toArray),(6,iV (((q:Nat):Int))),(10,iV 20),(11,iV (((p+20:Nat):Int))),(12,iV (((n9:Nat):Int))),(13,bV false),(23,.slice (aO g9) n9 c9),(24,iV (((p:Nat):Int))),(25,iV (((n9:Nat):Int))),(26,.func (.func f) #[] cs.toArray),(27,.tuple #[])]∧Mg w0 w1 (.row 30 11 (.slice (aO g9) n9 c9) n9 (cellsOf (srt (ltC c) q zs))::T)) _ ⟨20,rfl,⟨by decide,by omega⟩,A.keep _ (by repeat' constructor),M⟩ ?_;clear M A;rintro m_ a w17 ⟨q,rfl,hinv19,A,M⟩ K18 hK18;obtain⟨hq0,hq1⟩:=hinv19;refine wsk fun K20 hK20=>wsk fun K21 hK21=>wrl ?_;iterate 2 refine sdm A λa A=>?_
  rcases tf (decide (((q:Nat):Int)<((n9:Nat):Int)))with hb22 | hb22
  ·have hb22':=of_decide_eq_true hb22;refine sdc A qs hb22 λa A=>?_;refine qa (hK21 _ _ (ct A ?_));refine wp_skip (hK20 _ _ (wp_block (wsk fun K23 hK23=>wrl (sdm A λa A=>?_))));refine sdo (v:=iV (((0+2*q:Nat):Int))) A (qe rfl rfl (qtc ((in_i64 (by omega) (by omega)).trans (by omega)))) λa A=>?_;iterate 2 refine sda A λa A=>?_
   refine qa (hK23 _ _ (wsk fun K24 hK24=>wp_block (zw (fun m_ a w1=>∃(p2:Nat) (x2:List Dt),m_=1+(n9-p2)∧(p2≤n9∧x2.length=p2∧(∀t∈x2++srt (ltC c) q (zs.drop p2),t∈ts)∧x2++srt (ltC c) (2*q) (zs.drop p2)=srt (ltC c) (2*q) zs)∧Sl a 63 [(0,.slice (aO g9) n9 c9),(1,iV (((n9:Nat):Int))),(2,.func (.func f) #[] cs.toArray),(6,iV (((q:Nat):Int))),(7,iV (((p2:Nat):Int))),(8,iV (((p2+2*q:Nat):Int))),(10,iV 20),(11,iV (((p+20:Nat):Int))),(12,iV (((n9:Nat):Int))),(13,bV false),(23,.slice (aO g9) n9 c9),(24,iV (((p:Nat):Int))),(25,iV (((n9:Nat):Int))),(26,.func (.func f) #[] cs.toArray),(27,.tuple #[]),(28,iV (((q:Nat):Int))),(29,iV (((n9:Nat):Int))),(30,bV true),(31,iV (((q:Nat):Int))),(32,iV (((0+2*q:Nat):Int)))]∧Mg w0 w1 (.row 30 11 (.slice (aO g9) n9 c9) n9 (cellsOf (x2++srt (ltC c) q (zs.drop p2)))::T)) _ ⟨0,[],rfl,⟨Nat.zero_le _,rfl,fun t ht=>hsub t ((zjh _ zs (Nat.le_refl _)).mem_iff.1 ht),rfl⟩,A.keep _ (by repeat' constructor),M⟩ ?_)));clear M A;rintro m_ a w25 ⟨p2,x2,rfl,hinv27,A,M⟩ K26 hK26;obtain⟨hp2,hx2,hx2s,hX2⟩:=hinv27;refine wsk fun K28 hK28=>wsk fun K29 hK29=>wrl ?_;iterate 2 refine sdm A λa A=>?_
   rcases tf (decide (((p2+2*q:Nat):Int)≤((n9:Nat):Int)))with hb30 | hb30
   ·have hb30':=of_decide_eq_true hb30;refine sdc A ke hb30 λa A=>?_;refine qa (hK29 _ _ (ct A ?_));refine wp_skip (hK28 _ _ (wp_block (wsk fun K31 hK31=>wrl ?_)));iterate 4 refine sdm A λa A=>?_
    refine sdo (v:=iV (((p2+q:Nat):Int))) A (qe rfl rfl (ar_add ((in_i64 (by omega) (by omega)).trans (by omega)))) λa A=>?_;iterate 2 refine sdm A λa A=>?_
    obtain⟨hv1,hv2,y2,hy1,hy2,hy3⟩:=jlh H hq0 hx2 (by omega) hX2;refine sct A (ef rfl rfl) (zfj hl hF H _ (zs:=(x2++srt (ltC c) q (zs.drop p2))) (Nat.le_refl _) (by rw[List.length_append,zff,List.length_drop]; omega) hx2s (by omega) (by omega) (by omega) hv1 hv2 M) ?_;rintro _ w33 ⟨rfl,hM32⟩;replace M:Mg w0 w33 (.row 30 11 (.slice (aO g9) n9 c9) n9 (cellsOf (mg (ltC c) (x2++srt (ltC c) q (zs.drop p2)) p2 (p2+q) (p2+2*q)))::T):=hM32;refine⟨_,rfl,?_⟩;intro a A;refine qa (hK31 _ _ (wsk fun K34 hK34=>wrl (sdm A λa A=>?_)));refine sda A λa A=>?_;refine qa (hK34 _ _ (wrl ?_));iterate 2 refine sdm A λa A=>?_
    refine sdo (v:=iV (((2*q:Nat):Int))) A (qe rfl rfl (qtc ((in_i64 (by omega) (by omega)).trans (by omega)))) λa A=>?_;refine sdo (v:=iV ((((p2+2*q)+(2*q):Nat):Int))) A (qe rfl rfl (ar_add ((in_i64 (by omega) (by omega)).trans (by omega)))) λa A=>?_;refine sda A λa A=>?_;refine qa ?_;have hy2s:∀t∈y2++srt (ltC c) q (zs.drop (p2+2*q)),t∈ts:=fun t ht=>hx2s t (jdj (by omega) (by omega) (by rw[List.length_append,zff,List.length_drop]; omega) (hy2▸ht));rw[hy2]at M;refine hK26 _ _ _ (by omega) ⟨p2+2*q,y2,rfl,⟨by omega,hy1,hy2s,hy3⟩,A.keep _ (by repeat' constructor),M⟩
   ·have hb30':=of_decide_eq_false hb30;refine sdc A ke hb30 λa A=>?_;refine qa (hK29 _ _ (cf A ?_));refine wp_exit (hK24 _ _ (wsk fun K35 hK35=>wsk fun K36 hK36=>wrl ?_));iterate 2 refine sdm A λa A=>?_
    refine sdo (v:=iV (((p2+q:Nat):Int))) A (qe rfl rfl (ar_add ((in_i64 (by omega) (by omega)).trans (by omega)))) λa A=>?_;refine sda A λa A=>?_;refine qa (hK36 _ _ (wsk fun K37 hK37=>wrl ?_));iterate 2 refine sdm A λa A=>?_
    rcases tf (decide (((p2+q:Nat):Int)<((n9:Nat):Int)))with hb38 | hb38
    ·have hb38':=of_decide_eq_true hb38;refine sdc A qs hb38 λa A=>?_;refine qa (hK37 _ _ (ct A ?_));refine wrl ?_;iterate 5 refine sdm A λa A=>?_
     have hr:=jeb H hq0 hx2 (by omega) (by omega) hX2;rw[hzl]at hr;refine sct A (ef rfl rfl) (zfj hl hF H _ (zs:=(x2++srt (ltC c) q (zs.drop p2))) (Nat.le_refl _) (by rw[List.length_append,zff,List.length_drop]; omega) hx2s (by omega) (by omega) (by omega) hr.1 hr.2.1 M) ?_;rintro _ w40 ⟨rfl,hM39⟩;replace M:Mg w0 w40 (.row 30 11 (.slice (aO g9) n9 c9) n9 (cellsOf (mg (ltC c) (x2++srt (ltC c) q (zs.drop p2)) p2 (p2+q) n9))::T):=hM39;refine⟨_,rfl,?_⟩;intro a A;refine qa (hK35 _ _ (wrl (sdm A λa A=>?_)));refine sdo (v:=iV (((2*q:Nat):Int))) A (qe rfl rfl (qtc ((in_i64 (by omega) (by omega)).trans (by omega)))) λa A=>?_;refine sda A λa A=>?_;refine qa ?_;rw[hr.2.2]at M;refine hK18 _ _ _ (by omega) ⟨2*q,rfl,⟨by omega,by omega⟩,A.keep _ (by repeat' constructor),M⟩
    ·have hb38':=of_decide_eq_false hb38;refine sdc A qs hb38 λa A=>?_;refine qa (hK37 _ _ (cf A ?_));refine wp_skip (hK35 _ _ (wrl (sdm A λa A=>?_)));refine sdo (v:=iV (((2*q:Nat):Int))) A (qe rfl rfl (qtc ((in_i64 (by omega) (by omega)).trans (by omega)))) λa A=>?_;refine sda A λa A=>?_;refine qa ?_;rw[jec (by omega) hX2]at M;refine hK18 _ _ _ (by omega) ⟨2*q,rfl,⟨by omega,by omega⟩,A.keep _ (by repeat' constructor),M⟩
  ·have hb22':=of_decide_eq_false hb22;refine sdc A qs hb22 λa A=>?_;refine qa (hK21 _ _ (cf A ?_));refine wp_exit (hnorm _ _ (yq (v:=.tuple #[]) A rfl .nil rfl ?_));rw[qdd (by omega)]at M;exact⟨rfl,M⟩
theorem zqg{w0 w:World}{g9 c9 n9:Nat}{zs:List Dt}{T:List Ck}(hl:n9≤1000000000)(hzl:zs.length=n9){f:FuncId}{cs:List Value}{c:Dt→Dt→Int}{ts:List Dt}(hF:Cmps Tryz.prog f cs w0 T ts c)(hsub:∀t∈zs,t∈ts)(H:Swo (ltC c))(hM0:Mg w0 w (.row 30 11 (.slice (aO g9) n9 c9) n9 (cellsOf zs)::T)):Calls Tryz.prog 24 #[.slice (aO g9) n9 c9,.func (.func f) #[] cs.toArray] w fun e w'=>e=.returned (.tuple #[])∧Mg w0 w' (.row 30 11 (.slice (aO g9) n9 c9) n9 (cellsOf (jd (ltC c) zs))::T):=by
 have M:Mg w0 w (.row 30 11 (.slice (aO g9) n9 c9) n9 (cellsOf zs)::T):=hM0;refine qn (l:=[(0,.slice (aO g9) n9 c9),(1,.func (.func f) #[] cs.toArray)]) Tryz.func24 rfl Tryz.ntmps24 rfl rfl ?_;intro Q hret hnorm hP a A;refine wrl ?_;iterate 2 refine sdm A λa A=>?_
 refine sdo A (qw Tryz.underlying28 rfl) λa A=>?_;refine sdm A λa A=>?_;refine sct A (ef rfl rfl) (zqf hl hzl hF hsub H M) ?_;rintro _ w2 ⟨rfl,hM1⟩;replace M:Mg w0 w2 (.row 30 11 (.slice (aO g9) n9 c9) n9 (cellsOf (jd (ltC c) zs))::T):=hM1;refine⟨_,rfl,?_⟩;intro a A;refine qa (hnorm _ _ (yq (v:=.tuple #[]) A rfl .nil rfl ?_));exact⟨rfl,M⟩
theorem jlj{w:World}{so9:Option Addr}{c9:Nat}{fv:Value}:Calls Tryz.prog 56 #[.slice so9 0 c9,iV 0,iV 0,fv] w fun e w'=>e=.returned (.tuple #[])∧Below w.heap.size w w':=by
 have M:Mg w w ([]):=Mg.start w;refine qn (l:=[(0,.slice so9 0 c9),(1,iV 0),(2,iV 0),(3,fv)]) Tryz.func56 rfl Tryz.ntmps56 rfl rfl ?_;intro Q hret hnorm hP a A;refine wsk fun K1 hK1=>wrl (sdm A λa A=>?_);refine sdo (v:=iV 1) A dbK λa A=>?_;refine sda A λa A=>?_;refine qa (hK1 _ _ (wp_block (wp_loop_rounds 12 ?_)));refine kh fun K2 hK2=>?_;refine wsk fun K3 hK3=>wsk fun K4 hK4=>wrl ?_;iterate 2 refine sdm A λa A=>?_
 refine sdo (v:=bV false) A dbK λa A=>?_;refine qa (hK4 _ _ (cf A ?_));refine wp_exit (hnorm _ _ (yq (v:=.tuple #[]) A rfl .nil rfl ?_));exact⟨rfl,M.bel⟩
theorem zqh{w:World}{so9:Option Addr}{c9:Nat}{fv:Value}:Calls Tryz.prog 42 #[.slice so9 0 c9,iV 0,fv] w fun e w'=>e=.returned (.tuple #[])∧Below w.heap.size w w':=by
 have M:Mg w w ([]):=Mg.start w;refine qn (l:=[(0,.slice so9 0 c9),(1,iV 0),(2,fv)]) Tryz.func42 rfl Tryz.ntmps42 rfl rfl ?_;intro Q hret hnorm hP a A;refine wsk fun K1 hK1=>wrl (sda A λa A=>?_);refine qa (hK1 _ _ (wsk fun K2 hK2=>wrl (sdm A λa A=>?_)));iterate 2 refine sda A λa A=>?_
 refine qa (hK2 _ _ (wsk fun K3 hK3=>wp_block (wp_loop_rounds 12 ?_)));refine kh fun K4 hK4=>?_;refine wsk fun K5 hK5=>wsk fun K6 hK6=>wrl ?_;iterate 2 refine sdm A λa A=>?_
 refine sdo (v:=bV false) A dbK λa A=>?_;refine qa (hK6 _ _ (cf A ?_));refine wp_exit (hK3 _ _ (wsk fun K7 hK7=>wrl ?_));iterate 4 refine sdm A λa A=>?_
 refine gcl A M (ef rfl rfl) (jlj) fun w9 hb8 M a A=>?_;refine qa (hK7 _ _ (wp_block (wp_loop_rounds 12 ?_)));refine kh fun K10 hK10=>?_;refine wsk fun K11 hK11=>wsk fun K12 hK12=>wrl ?_;iterate 2 refine sdm A λa A=>?_
 refine sdo (v:=bV false) A dbK λa A=>?_;refine qa (hK12 _ _ (cf A ?_));refine wp_exit (hnorm _ _ (yq (v:=.tuple #[]) A rfl .nil rfl ?_));exact⟨rfl,M.bel⟩
theorem zza{w:World}{so9:Option Addr}{c9:Nat}{fv:Value}:Calls Tryz.prog 24 #[.slice so9 0 c9,fv] w fun e w'=>e=.returned (.tuple #[])∧Below w.heap.size w w':=by
 have M:Mg w w ([]):=Mg.start w;refine qn (l:=[(0,.slice so9 0 c9),(1,fv)]) Tryz.func24 rfl Tryz.ntmps24 rfl rfl ?_;intro Q hret hnorm hP a A;refine wrl ?_;iterate 2 refine sdm A λa A=>?_
 refine sdo A (qw Tryz.underlying28 rfl) λa A=>?_;refine sdm A λa A=>?_;refine gcl A M (ef rfl rfl) (zqh) fun w2 hb1 M a A=>?_;refine qa (hnorm _ _ (yq (v:=.tuple #[]) A rfl .nil rfl ?_));exact⟨rfl,M.bel⟩
theorem zbb{w0 w:World}{so9:Option Addr}{c9:Nat}{zs:List Dt}{T:List Ck}(hl:zs.length≤1000000000){f:FuncId}{cs:List Value}{c:Dt→Dt→Int}{ts:List Dt}(hF:Cmps Tryz.prog f cs w0 T ts c)(hsub:∀t∈zs,t∈ts)(H:Swo (ltC c))(hM0:Mg w0 w (.row 30 11 (.slice so9 zs.length c9) zs.length (cellsOf zs)::T)):Calls Tryz.prog 24 #[.slice so9 zs.length c9,.func (.func f) #[] cs.toArray] w fun e w'=>e=.returned (.tuple #[])∧Mg w0 w' (.row 30 11 (.slice so9 zs.length c9) zs.length (cellsOf (jd (ltC c) zs))::T):=by
 by_cases h:zs=[]
 ·subst h;exact zza.mono fun e w' h=>⟨h.1,hM0.call h.2⟩
 ·obtain⟨g,c,e⟩:=qvb (hM0.has 0 rfl) (fun k=>h (List.length_eq_zero_iff.1 k));cases e
  exact zqg hl rfl hF hsub H hM0
end Go.Proofs.YtpckmgemfkiifaaGreatDoor.G
