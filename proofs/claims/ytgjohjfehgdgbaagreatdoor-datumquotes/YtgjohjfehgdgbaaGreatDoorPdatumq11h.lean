/- Tn Tr Ts Tk Or La Lb Lc Ld TrA Le Lf Lg ReH Pn Pt ShelfR RdA RdB RdD ChM ChA ShelfD ShelfB ChD ChE ChF ChR RdE RdF Ps ShelfI ChS RdG RdH ShelfP ChU ChV TrB RdI RdJ ShelfW RdK ShelfC Tw TwR -/
import Derived.Test.YtgjohjfehgdgbaaGreatDoorPdatumq11d
import Derived.Test.YtgjohjfehgdgbaaGreatDoorPdatumq11f
import Derived.Test.YtgjohjfehgdgbaaGreatDoorPdatumq11g
import Derived.Lib.ValidU
import Derived.Lib.Bytealg
import Derived.Test.YtgjohjfehgdgbaaGreatDoorProg
import Derived.RangeFuncNested
import Derived.RangeFuncLeaves
import Derived.LoopNIn
import Derived.Test.YtgjohjfehgdgbaaGreatDoorArith
import Derived.Shelf.Strings.Builder1
import Derived.Shelf.Small.Utf8
import Derived.Shelf.Small.Bits
import Derived.Shelf.Small.Strs
import Derived.Shelf.Small.Wraps
import Derived.Shelf.Strings.BuilderF
import Derived.Shelf.Strings.BuilderK
import Derived.Shelf.Strings.BuilderRune
import Derived.Shelf.Utf8.AppendRune
import Derived.Shelf.Utf8.AppendRunePlain
import Derived.Shelf.Strconv.Itoa0
import Derived.Shelf.Strconv.Itoa1
import Derived.Shelf.LaysM
import Derived.Shelf.Strconv.Itoa2
import Derived.Shelf.Strconv.Itoa3
import Derived.Shelf.Strconv.Clone
import Derived.Shelf.Strconv.SyntaxError
import Derived.Shelf.LaysC
import Derived.Shelf.Strconv.ToError
import Derived.Shelf.Strconv.Lower
import Derived.Shelf.Strconv.RangeError
import Derived.Shelf.Strconv.ToErrorRange
import Derived.Shelf.Strings.Search1
import Derived.Shelf.Strings.Search2
import Derived.Shelf.Strings.Cut
import Derived.Shelf.Strings.Shaped
import Derived.Shelf.Strings.Prefix
import Derived.Shelf.Strings.Runes
import Derived.Shelf.Strings.RuneCount
import Derived.Shelf.Strings.IndexAny
import Derived.Shelf.Strings.AsciiSet
import Derived.Shelf.Strings.IndexAnyAll
import Derived.Shelf.Unicode.DecodeSlow
import Derived.Shelf.Unicode.DecodeAny
import Derived.Lib.RuneBytes
import Derived.RowKit
import Derived.WalkKit
import Derived.WalkSpells
import Derived.Deep.Light
import Derived.Shelf.Unicode.ValidAny
import Derived.Lib.TrimAscii
import Derived.Test.YtgjohjfehgdgbaaGreatDoorShelf
import Derived.Laws.Runes
import Derived.Laws.Strings3
import Derived.Scope
import Derived.Shelf.RegionOpenPlain
import Derived.ScopeJumps
import Derived.Lib.TrimUEq
import Derived.Lib.OthersKept
import Derived.Test.YtgjohjfehgdgbaaGreatDoorOwn
import Derived.Lib.Strings
import Derived.Lib.Walk
import Derived.Lib.ConvBytes
import Derived.Lib.ParseIntBMem
import Derived.Lib.Hide
import Derived.Laws.Closers25
import Derived.Laws.Closers25b
import Derived.BigCall
import Derived.BigGuard
import Derived.Shelf.Utf8.RuneCount
import Derived.Laws.Externs
import Derived.Lib.Builder
import Derived.Lib.UnsafeStr
import Derived.Lib.AppendStr
set_option linter.unusedVariables false
set_option linter.unusedSimpArgs false
set_option maxHeartbeats 1000000
namespace Go.Proofs.YtgjohjfehgdgbaaGreatDoor.G
open Go.RowKit

structure Nu where
  q:Q6
  o1:Option Addr
  c1:Nat
  o2:Option Addr
  c2:Nat
  o3:Option Addr
  c3:Nat
  o4:Option Addr
  c4:Nat
def Nu.nm(w:World)(y:Nu):Prop:=Nm w y.q y.o1 y.c1 y.o2 y.c2 y.o3 y.c3 y.o4 y.c4
theorem Nu.below{w w':World}{y:Nu}(h:y.nm w)(hb:Below w.heap.size w w'):y.nm w':=⟨h.s1.below hb,h.s2.below hb,h.s3.below hb,h.s4.below hb⟩
def Nu.val(y:Nu):Value:=qkd y.q y.o1 y.c1 y.o2 y.c2 y.o3 y.c3 y.o4 y.c4
theorem xd{P:Program}{w:World}{l:List (Nat×Value)}{dst:Option Tmp}{ty:TypeId}{pos:String}{after:Array Edge}{guard:Option (Nat×Bool)}{x:Operand}{a:Addr}(hx:ev l x=some (.pointer (some a))):Does P l ⟨dst,.nilCheck x,ty,pos,after,guard⟩ w (.pointer (some a)) w:=fun ρ h=>by
  simp only[execOp,h x _ hx,Sem.run_pure]
structure Nd where
  k:Int
  n:Int
  y:Nu
  s:ByteArray
  ro:Option Addr
  rc:Nat
  rl:List UInt8
  lo:Option Addr
  lc:Nat
inductive Dt where
  | mk (d : Nd) (ts : List Dt)
def Dt.d: Dt→Nd
  | .mk d _ => d
def Dt.ts: Dt→List Dt
  | .mk _ ts => ts
def Nd.cells(d:Nd)(m:Nat):List Value:=[.int .i64 d.k,.int .i64 d.n,.bool d.y.q.b1,.slice d.y.o1 d.y.q.t1.length d.y.c1,.slice d.y.o2 d.y.q.q1.length d.y.c2,.bool d.y.q.b2,.slice d.y.o3 d.y.q.t2.length d.y.c3,.slice d.y.o4 d.y.q.q2.length d.y.c4,.string d.s,.slice d.ro d.rl.length d.rc,.slice d.lo m d.lc]
def Dt.cells(t:Dt):List Value:=t.d.cells t.ts.length
inductive Tr where
  | mk (k n : Int) (q : Q6) (s : ByteArray) (rl : List UInt8) (ts : List Tr)
def Tr.k: Tr→Int
  | .mk k _ _ _ _ _ => k
def Tr.n: Tr→Int
  | .mk _ n _ _ _ _ => n
def Tr.q: Tr→Q6
  | .mk _ _ q _ _ _ => q
def Tr.s: Tr→ByteArray
  | .mk _ _ _ s _ _ => s
def Tr.rl: Tr→List UInt8
  | .mk _ _ _ _ r _ => r
def Tr.ts: Tr→List Tr
  | .mk _ _ _ _ _ ts => ts
mutual
def Dt.tr: Dt→Tr
  | .mk d ts => .mk d.k d.n d.y.q d.s d.rl (Dt.trs ts)
def Dt.trs: List Dt→List Tr
  | [] => []
  | t :: ts => t.tr :: Dt.trs ts
end
theorem Dt.trs_map: ∀ts:List Dt,Dt.trs ts=ts.map Dt.tr
  | [] => by simp [Dt.trs]
  | t :: ts => by simp [Dt.trs, Dt.trs_map ts]
mutual
theorem Dt.indT{P:Dt→Prop}(h:∀d ts,(∀t∈ts,P t)→P (.mk d ts)):∀t,P t
  | .mk d ts => h d ts (Dt.indL h ts)
theorem Dt.indL{P:Dt→Prop}(h:∀d ts,(∀t∈ts,P t)→P (.mk d ts)):∀ts:List Dt,∀t∈ts,P t
  | [], t, ht => by cases ht
  | u :: us, t, ht => by
    rcases List.mem_cons.1 ht with e | e
    · rw[e]; exact Dt.indT h u
    · exact Dt.indL h us t e
end
mutual
theorem Tr.indT{P:Tr→Prop}(h:∀k n q s rl ts,(∀t∈ts,P t)→P (.mk k n q s rl ts)):∀t,P t
  | .mk k n q s rl ts => h k n q s rl ts (Tr.indL h ts)
theorem Tr.indL{P:Tr→Prop}(h:∀k n q s rl ts,(∀t∈ts,P t)→P (.mk k n q s rl ts)):∀ts:List Tr,∀t∈ts,P t
  | [], t, ht => by cases ht
  | u :: us, t, ht => by
    rcases List.mem_cons.1 ht with e | e
    · rw[e]; exact Tr.indT h u
    · exact Tr.indL h us t e
end
def Here(w:World)(b o:Nat)(cs:List Value):Prop:=b<w.heap.size∧∀j v,cs[j]?=some v→w.cell? ⟨b,o+j,none⟩=some v
theorem Here.below{w w':World}{b o:Nat}{cs:List Value}(h:Here w b o cs)(hb:Below w.heap.size w w'):Here w' b o cs:=⟨Nat.lt_of_lt_of_le h.1 hb.size,fun j v hj=>(hb.cell h.1).trans (h.2 j v hj)⟩
def Rt(w:World)(lo:Option Addr)(ts:List Dt):Prop:=ts≠[]→∃b o,lo=some ⟨b,o,none⟩∧∀i t,ts[i]?=some t→Here w b (o+i*11) t.cells
theorem Rt.below{w w':World}{lo:Option Addr}{ts:List Dt}(h:Rt w lo ts)(hb:Below w.heap.size w w'):Rt w' lo ts:=fun hne=>by
  obtain⟨b,o,e,h2⟩:=h hne;exact⟨b,o,e,fun i t hi=>(h2 i t hi).below hb⟩
structure NdOk(w:World)(d:Nd):Prop where
  num:d.y.nm w
  len:LenQ d.y.q
  raw:Rb w d.ro d.rl
  rcap:d.rl.length≤d.rc
  rmax:d.rc≤9223372036854775807
  k0:-9223372036854775808≤d.k
  k1:d.k≤9223372036854775807
  n0:-9223372036854775808≤d.n
  n1:d.n≤9223372036854775807
  smax:d.s.size≤9223372036854775807
theorem NdOk.below{w w':World}{d:Nd}(h:NdOk w d)(hb:Below w.heap.size w w'):NdOk w' d:={ h with num:=Nu.below h.num hb,raw:=h.raw.below hb }
mutual
def Dt.rd(w:World):Dt→Prop
  | .mk d ts => NdOk w d ∧ ts.length ≤ d.lc ∧ d.lc ≤ 9223372036854775807 ∧ Rt w d.lo ts ∧ Dt.rds w ts
def Dt.rds(w:World):List Dt→Prop
  | [] => True
  | t :: ts => t.rd w ∧ Dt.rds w ts
end
theorem Dt.rds_iff{w:World}:∀{ts:List Dt},Dt.rds w ts↔∀t∈ts,t.rd w
  | [] => by simp [Dt.rds]
  | t :: ts => by simp [Dt.rds, Dt.rds_iff (ts := ts)]
theorem Dt.rd_iff{w:World}{d:Nd}{ts:List Dt}:(Dt.mk d ts).rd w↔NdOk w d∧ts.length≤d.lc∧d.lc≤9223372036854775807∧Rt w d.lo ts∧∀t∈ts,t.rd w:=by
  rw[←Dt.rds_iff]; unfold Dt.rd; exact Iff.rfl
theorem Dt.keep{w w':World}(hb:Below w.heap.size w w'):∀t:Dt,t.rd w→t.rd w':=
  Dt.indT fun d ts ih h=>by
    rw[Dt.rd_iff]at h ⊢;exact⟨h.1.below hb,h.2.1,h.2.2.1,h.2.2.2.1.below hb,fun t ht=>ih t ht (h.2.2.2.2 t ht)⟩
theorem Dt.tr_mk(d:Nd)(ts:List Dt):(Dt.mk d ts).tr=.mk d.k d.n d.y.q d.s d.rl (ts.map Dt.tr):=by rw[Dt.tr,Dt.trs_map]
mutual
def jj(dp left:Int):Tr→Bool×Int
  | .mk k _ _ _ _ ts => if left - 1 < 0 ∨ 200 < dp then (false, left - 1) else qci dp (decide (k = 8)) 0 (left - 1) ts
def qci(dp:Int)(pr:Bool)(i:Nat)(left:Int):List Tr→Bool×Int
  | [] => (true, left)
  | t :: ts => if (jj (if pr = true ∧ i = 1 then dp else dp + 1) left t).1 = true then qci dp pr (i + 1) (jj (if pr = true ∧ i = 1 then dp else dp + 1) left t).2 ts else (false, (jj (if pr = true ∧ i = 1 then dp else dp + 1) left t).2)
end
mutual
def jo(p:Tr→Bool):Tr→Bool
  | .mk k n q s rl ts => p (.mk k n q s rl ts) && ky p ts
def ky(p:Tr→Bool):List Tr→Bool
  | [] => true
  | t :: ts => jo p t && ky p ts
end
mutual
def qje(p:Tr→Bool)(dp left:Int):Tr→Int
  | .mk k n q s rl ts => if 200 < dp ∨ left ≤ 0 ∨ p (.mk k n q s rl ts) = false then -1 else qlj p dp (decide (k = 8)) 0 (left - 1) ts
def qlj(p:Tr→Bool)(dp:Int)(pr:Bool)(i:Nat)(left:Int):List Tr→Int
  | [] => left
  | t :: ts => if left < 0 then left else qlj p dp pr (i + 1) (qje p (if pr = true ∧ i = 1 then dp else dp + 1) left t) ts
end
theorem qsf{p:Tr→Bool}{dp left:Int}{pr:Bool}{i:Nat}{ts:List Tr}(h:left<0):qlj p dp pr i left ts=left:=by
  cases ts with
  | nil => rfl
  | cons t ts => rw [qlj, if_pos h]
def Agree(p:Tr→Bool)(t:Tr):Prop:=∀dp left:Int,0≤left→qje p dp left t=if(jj dp left t).1=true∧jo p t=true then(jj dp left t).2 else -1
theorem qhe: ∀t:Tr,∀dp left:Int,(jj dp left t).1=true→0≤(jj dp left t).2:=by
  refine Tr.indT fun k n q s rl ts ih dp left h=>?_;rw[jj]at h ⊢;by_cases hc:left-1<0∨200<dp
  · rw[if_pos hc]at h; cases h
  · rw[if_neg hc]at h ⊢;have hl:0≤left-1:=(by omega);generalize left-1=m at h hl ⊢;generalize decide (k=8)=pr at h ⊢;have key:∀(us:List Tr),(∀t∈us,∀dp left:Int,(jj dp left t).1=true→0≤(jj dp left t).2)→∀(i:Nat) (m:Int),0≤m→(qci dp pr i m us).1=true→0≤(qci dp pr i m us).2:=by
      intro us
      induction us with
      | nil => intro _ i m hm _; exact hm
      | cons t us ih2 =>
        intro hu i m hm h;rw[qci]at h ⊢;by_cases ht:(jj (if pr=true∧i=1 then dp else dp+1) m t).1=true
        · rw[if_pos ht]at h ⊢;exact ih2 (fun x hx=>hu x (List.mem_cons_of_mem _ hx)) _ _ (hu t List.mem_cons_self _ _ ht) h
        · rw[if_neg ht]at h; cases h
    exact key ts ih 0 m hl h
theorem qxf(p:Tr→Bool):∀t:Tr,Agree p t:=by
  refine Tr.indT fun k n q s rl ts ih dp left h0=>?_;rw[qje,jj,jo];by_cases hd:200<dp
  · rw[if_pos (.inl hd),if_pos (show left-1<0∨200<dp from .inr hd),if_neg (by simp)]
  · by_cases hl:left≤0
    · rw[if_pos (.inr (.inl hl)),if_pos (show left-1<0∨200<dp from .inl (by omega)),if_neg (by simp)]
    · rw[if_neg (show ¬(left-1<0∨200<dp)by omega)];cases hp:p (.mk k n q s rl ts)with
      | false => rw [if_pos (.inr (.inr rfl)), if_neg (by simp)]
      | true =>
        rw[if_neg (by simp; omega),Bool.true_and];have hm:0≤left-1:=(by omega);generalize left-1=m at hm ⊢;generalize decide (k=8)=pr;have key:∀(us:List Tr),(∀t∈us,Agree p t)→∀(i:Nat) (m:Int),0≤m→qlj p dp pr i m us=if(qci dp pr i m us).1=true∧ky p us=true then(qci dp pr i m us).2 else -1:=by
          intro us
          induction us with
          | nil => intro _ i m hm; rw [qlj, qci, ky, if_pos ⟨rfl, rfl⟩]
          | cons t us ih2 =>
            intro hu i m hm;rw[qlj,qci,ky,if_neg (by omega),hu t List.mem_cons_self _ _ hm];by_cases ht:(jj (if pr=true∧i=1 then dp else dp+1) m t).1=true
            · cases ha:jo p t with
              | false =>
                rw[if_neg (by simp),if_neg (by simp),qsf (by decide)]
              | true =>
                rw[if_pos ⟨ht,rfl⟩,if_pos ht,Bool.true_and];exact ih2 (fun x hx=>hu x (List.mem_cons_of_mem _ hx)) _ _ (qhe t _ _ ht)
            · rw[if_neg (fun e=>ht e.1),if_neg ht,if_neg (by simp),qsf (by decide)]
        exact key ts ih 0 m hm
def kf(p:Tr→Bool)(t:Tr):Bool:=(jj 1 20000 t).1&&jo p t
theorem zfb(p:Tr→Bool)(t:Tr):decide (0≤qje p 1 20000 t)=kf p t:=by
  rw[qxf p t 1 20000 (by decide)];unfold kf;by_cases h:(jj 1 20000 t).1=true
  · cases ha:jo p t with
    | true =>
      rw[if_pos ⟨h,rfl⟩,h,Bool.and_self];exact decide_eq_true (qhe t _ _ h)
    | false => rw [if_neg (by simp), Bool.and_false]; rfl
  · rw[if_neg (fun e=>h e.1),Bool.eq_false_iff.2 h]; rfl
section
variable {P:Program} {w0 w:World} {L:List Ck} {l:List (Nat×Value)} {dst:Option Tmp} {ty:TypeId} {pos:String} {after:Array Edge} {guard:Option (Nat×Bool)} {v:Value}
theorem qed(hM:Mg w0 w L){b o o' j:Nat}{cs:List Value}(hH:Here w0 b o cs){t:TypeId}(ht:Is1 P t){x:Operand}(hx:ev l x=some (.pointer (some ⟨b,o',none⟩)))(ho:o'=o+j)(hv:cs[j]?=some v):Does P l ⟨dst,.load t x,ty,pos,after,guard⟩ w v w:=by
  subst ho;exact xa hx (vw ht ((hM.bel.cell hH.1).trans (hH.2 j v hv)))
theorem zr(hM:Mg w0 w L){b o n:Nat}{cs:List Value}(hH:Here w0 b o cs){t:TypeId}(ht:IsS P t n){x:Operand}(hx:ev l x=some (.pointer (some ⟨b,o,none⟩)))(hl:cs.length=n):Does P l ⟨dst,.load t x,ty,pos,after,guard⟩ w (.agg cs.toArray) w:=
  xa hx (ko ht cs hl (fun j v hj=>(hM.bel.cell hH.1).trans (hH.2 j v hj)))
theorem js{t e:TypeId}{sz:Nat}(hu:P.underlying t=some (.slice e))(he:(P.info? e).map (·.size)=some sz){x i:Operand}{so:Option Addr}{g off n c k:Nat}{z:Int}(hx:ev l x=some (.slice so n c))(hi:ev l i=some (.int .i64 z))(hz:z=(k:Nat))(hso:so=some ⟨g,off,none⟩)(hk:k<n):
    Does P l ⟨dst,.indexAddr t x i,ty,pos,after,guard⟩ w (.pointer (some ⟨g,off+k*sz,none⟩)) w:=by
  subst hz hso;exact ui (l:=l) (dst:=dst) (ty:=ty) (pos:=pos) (after:=after) (guard:=guard) (w:=w) hx hi (qsg hu he hk)
end
theorem kid{w:World}{d:Nd}{ts:List Dt}(h:(Dt.mk d ts).rd w){i:Nat}(hi:i<ts.length):∃t b o,ts[i]?=some t∧t∈ts∧t.rd w∧d.lo=some ⟨b,o,none⟩∧Here w b (o+i*11) t.cells:=by
  rw[Dt.rd_iff]at h;have hne:ts≠[]:=fun e=>by subst e; simp at hi
  obtain⟨b,o,e,h2⟩:=h.2.2.2.1 hne;have ht:=List.getElem?_eq_getElem hi;exact⟨ts[i],b,o,ht,List.getElem_mem hi,h.2.2.2.2 _ (List.getElem_mem hi),e,h2 i _ ht⟩
theorem qaf{ts:List Dt}{i:Nat}{t:Dt}(h:ts[i]?=some t):(ts.map Dt.tr).drop i=t.tr::(ts.map Dt.tr).drop (i+1):=by
  obtain⟨hi,rfl⟩:=List.getElem?_eq_some_iff.1 h;rw[List.drop_eq_getElem_cons (by simpa using hi)];simp
theorem qhf{ts:List Dt}{i:Nat}(h:¬i<ts.length):(ts.map Dt.tr).drop i=[]:=List.drop_of_length_le (by simp; omega)
theorem zag: ∀t:Tr,∀dp left:Int,(jj dp left t).2≤left:=by
  refine Tr.indT fun k n q s rl ts ih dp left=>?_;rw[jj]
  split
  · show left-1≤left; omega
  · have key:∀(us:List Tr),(∀t∈us,∀dp left:Int,(jj dp left t).2≤left)→∀(i:Nat) (m:Int),(qci dp (decide (k=8)) i m us).2≤m:=by
      intro us
      induction us with
      | nil => intro _ i m; exact Int.le_refl _
      | cons t us ih2 =>
        intro hu i m;rw[qci];generalize (if decide (k=8)=true∧i=1 then dp else dp+1)=D;have h1:=hu t List.mem_cons_self D m
        split
        · exact Int.le_trans (ih2 (fun x hx=>hu x (List.mem_cons_of_mem _ hx)) _ _) h1
        · exact h1
    have:=key ts ih 0 (left-1);omega
theorem zah{dp m D:Int}{pr:Bool}{i:Nat}{ts:List Dt}{t:Dt}(hi:ts[i]?=some t)(hD:(if pr=true∧i=1 then dp else dp+1)=D)(h:(jj D m t.tr).1=true):qci dp pr i m ((ts.map Dt.tr).drop i)=qci dp pr (i+1) (jj D m t.tr).2 ((ts.map Dt.tr).drop (i+1)):=by
  rw[qaf hi,qci,hD,if_pos h]
theorem qob{dp m D:Int}{pr:Bool}{i:Nat}{ts:List Dt}{t:Dt}(hi:ts[i]?=some t)(hD:(if pr=true∧i=1 then dp else dp+1)=D)(h:(jj D m t.tr).1=false):qci dp pr i m ((ts.map Dt.tr).drop i)=(false,(jj D m t.tr).2):=by
  rw[qaf hi,qci,hD,if_neg (by rw[h]; decide)]
theorem qrc{dp left:Int}{d:Nd}{ts:List Dt}(h1:¬left-1<0)(h2:¬200<dp):jj dp left (Dt.mk d ts).tr=qci dp (decide (d.k=8)) 0 (left-1) ((ts.map Dt.tr).drop 0):=by
  rw[Dt.tr_mk,jj,if_neg (by omega),List.drop_zero]
theorem zta{dp left:Int}{d:Nd}{ts:List Dt}(h:left-1<0∨200<dp):jj dp left (Dt.mk d ts).tr=(false,left-1):=by
  rw[Dt.tr_mk,jj,if_pos h]
theorem jmh{p:Tr→Bool}{d:Nd}{ts:List Dt}:jo p (Dt.mk d ts).tr=(p (Dt.mk d ts).tr&&ky p ((ts.map Dt.tr).drop 0)):=by
  rw[Dt.tr_mk,jo,List.drop_zero]
theorem ztb{p:Tr→Bool}{dp left:Int}{d:Nd}{ts:List Dt}(h1:¬200<dp)(h2:¬left≤0)(h3:p (Dt.mk d ts).tr=true):qje p dp left (Dt.mk d ts).tr=qlj p dp (decide (d.k=8)) 0 (left-1) ((ts.map Dt.tr).drop 0):=by
  rw[Dt.tr_mk]at h3 ⊢;rw[qje,if_neg (by rw[h3]; simp; omega),List.drop_zero]
theorem zai{p:Tr→Bool}{dp left:Int}{d:Nd}{ts:List Dt}(h:200<dp∨left≤0∨p (Dt.mk d ts).tr=false):qje p dp left (Dt.mk d ts).tr=-1:=by
  rw[Dt.tr_mk]at h ⊢;rw[qje,if_pos h]
theorem zaj{p:Tr→Bool}{dp m D:Int}{pr:Bool}{i:Nat}{ts:List Dt}{t:Dt}(hi:ts[i]?=some t)(hm:¬m<0)(hD:(if pr=true∧i=1 then dp else dp+1)=D):qlj p dp pr i m ((ts.map Dt.tr).drop i)=qlj p dp pr (i+1) (qje p D m t.tr) ((ts.map Dt.tr).drop (i+1)):=by
  rw[qaf hi,qlj,if_neg hm,hD]
theorem zmf(p:Tr→Bool)(t:Tr)(dp left:Int)(h:0≤left):-1≤qje p dp left t∧qje p dp left t≤left:=by
  rw[qxf p t dp left h]
  split
  · rename_i hc;exact⟨by have:=qhe t _ _ hc.1; omega,zag t _ _⟩
  · exact⟨by omega,by omega⟩
def qcb(b:Bool)(m m':Nat):Bool:=!b&&(decide (m=0)&&decide (m'=0))
def qbe(n:Int)(b1:Bool)(m1 m2:Nat)(b2:Bool)(m3 m4:Nat)(s:ByteArray)(mr ml:Nat):Bool:=decide (n=0)&&(qcb b1 m1 m2&&(qcb b2 m3 m4&&(decide (s=⟨#[]⟩)&&(decide (mr=0)&&decide (ml=0)))))
def xl(n:Int):Bool:=decide (0≤n∧n≤1114111∧(n<55296∨57343<n))
def okS(s:ByteArray):Bool:=Lib.validD s.data.toList
def ku(k n:Int)(q:Q6)(s:ByteArray)(mr ml:Nat):Bool:=
  if k=1∨k=10 then qbe n q.b1 q.t1.length q.q1.length q.b2 q.t2.length q.q2.length s mr ml
  else if k=2 then decide (n=0∨n=1)&&qbe 0 q.b1 q.t1.length q.q1.length q.b2 q.t2.length q.q2.length s mr ml
  else if k=3 then jf q&&qbe n false 0 0 false 0 0 s mr ml
  else if k=4 then xl n&&qbe 0 q.b1 q.t1.length q.q1.length q.b2 q.t2.length q.q2.length s mr ml
  else if k=5∨k=6∨k=11 then okS s&&qbe n q.b1 q.t1.length q.q1.length q.b2 q.t2.length q.q2.length ⟨#[]⟩ mr ml
  else if k=7 then qbe n q.b1 q.t1.length q.q1.length q.b2 q.t2.length q.q2.length s 0 ml
  else if k=8 then decide (ml=2)&&qbe n q.b1 q.t1.length q.q1.length q.b2 q.t2.length q.q2.length s mr 0
  else if k=9 then qbe n q.b1 q.t1.length q.q1.length q.b2 q.t2.length q.q2.length s mr 0
  else false
def zg: Tr→Bool
  | .mk k n q s rl ts => ku k n q s rl.length ts.length
theorem qhg{d:Nd}{ts:List Dt}:zg (Dt.mk d ts).tr=ku d.k d.n d.y.q d.s d.rl.length ts.length:=by
  rw[Dt.tr_mk,zg,List.length_map]
mutual
def Tr.bulk: Tr→Nat
  | .mk _ _ q s rl ts => s.size + rl.length + (q.t1.length + q.q1.length + (q.t2.length + q.q2.length)) + 1 + Tr.bulks ts
def Tr.bulks: List Tr→Nat
  | [] => 0
  | t :: ts => t.bulk + Tr.bulks ts
end
theorem zwh{k n:Int}{q:Q6}{s:ByteArray}{rl:List UInt8}{ts:List Tr}:(Tr.mk k n q s rl ts).bulk=s.size+rl.length+(q.t1.length+q.q1.length+(q.t2.length+q.q2.length))+1+Tr.bulks ts:=by rw[Tr.bulk]
theorem qxi: ∀{ts:List Tr} {t:Tr},t∈ts→t.bulk≤Tr.bulks ts
  | u :: us, t, h => by
    rw[Tr.bulks];rcases List.mem_cons.1 h with e | e
    · subst e; omega
    · have:=qxi e; omega
theorem jbi{d:Nd}{ts:List Dt}{t:Dt}(h:t∈ts):t.tr.bulk+d.s.size+1≤(Dt.mk d ts).tr.bulk:=by
  rw[Dt.tr_mk,zwh];have:=qxi (List.mem_map_of_mem (f:=Dt.tr) h);omega
open Go.RowKit Go.Lib
def Q6.none: Q6:=⟨false,[],[],false,[],[]⟩
def jyi(q:Q6):Prop:=∃u v,q=Q6.rat u v∧qge u∧qge v
theorem zfh{b:Bool}{t u:List Nat}(h:qcb b t.length u.length=true):b=false∧t=[]∧u=[]:=by
  unfold qcb at h;cases b<;>simp at h
  exact⟨rfl,h.1,h.2⟩
theorem yq{n:Int}{q:Q6}{s:ByteArray}{mr ml:Nat}(h:qbe n q.b1 q.t1.length q.q1.length q.b2 q.t2.length q.q2.length s mr ml=true):n=0∧q=Q6.none∧s=⟨#[]⟩∧mr=0∧ml=0:=by
  unfold qbe at h;simp only[Bool.and_eq_true,decide_eq_true_eq]at h;obtain⟨h1,h2,h3,h4,h5,h6⟩:=h;obtain⟨a1,a2,a3⟩:=zfh h2;obtain⟨b1,b2,b3⟩:=zfh h3;refine⟨h1,?_,h4,h5,h6⟩;cases q
  simp only at a1 a2 a3 b1 b2 b3;subst a1 a2 a3 b1 b2 b3;rfl
structure Bare(k n:Int)(q:Q6)(s:ByteArray)(mr ml:Nat):Prop where
  hn:k≠2→k≠4→n=0
  hq:k≠3→q=Q6.none
  hs:k≠5→k≠6→k≠11→s=⟨#[]⟩
  hr:k≠7→mr=0
  hl:k≠8→k≠9→ml=0
  h8:k=8→ml=2
  h3:k=3→jf q=true
  h0:1≤k
  h1:k≤11
  h2:k=2→n=0∨n=1
  h4:k=4→xl n=true
  h5:k=5∨k=6∨k=11→okS s=true
theorem zmh{k n:Int}{q:Q6}{s:ByteArray}{mr ml:Nat}(h:ku k n q s mr ml=true):Bare k n q s mr ml:=by
  unfold ku at h
  split at h
  · rename_i hk;obtain⟨a,b,c,d,e⟩:=yq h;exact⟨fun _ _=>a,fun _=>b,fun _ _ _=>c,fun _=>d,fun _ _=>e,fun _=>by omega,fun _=>by omega,by omega,by omega,fun _=>by omega,fun _=>by omega,fun _=>by omega⟩
  · split at h
    · rename_i hk;simp only[Bool.and_eq_true,decide_eq_true_eq]at h;obtain⟨a,b,c,d,e⟩:=yq h.2;exact⟨fun _ _=>by omega,fun _=>b,fun _ _ _=>c,fun _=>d,fun _ _=>e,fun _=>by omega,fun _=>by omega,by omega,by omega,fun _=>h.1,fun _=>by omega,fun _=>by omega⟩
    · split at h
      · rename_i hk;simp only[Bool.and_eq_true]at h;obtain⟨a,b,c,d,e⟩:=yq (q:=Q6.none) h.2;exact⟨fun _ _=>a,fun _=>by omega,fun _ _ _=>c,fun _=>d,fun _ _=>e,fun _=>by omega,fun _=>h.1,by omega,by omega,fun _=>by omega,fun _=>by omega,fun _=>by omega⟩
      · split at h
        · rename_i hk;simp only[Bool.and_eq_true]at h;obtain⟨a,b,c,d,e⟩:=yq h.2;exact⟨fun _ _=>by omega,fun _=>b,fun _ _ _=>c,fun _=>d,fun _ _=>e,fun _=>by omega,fun _=>by omega,by omega,by omega,fun _=>by omega,fun _=>h.1,fun _=>by omega⟩
        · split at h
          · rename_i hk;simp only[Bool.and_eq_true]at h;obtain⟨a,b,c,d,e⟩:=yq h.2;exact⟨fun _ _=>a,fun _=>b,fun _ _ _=>by omega,fun _=>d,fun _ _=>e,fun _=>by omega,fun _=>by omega,by omega,by omega,fun _=>by omega,fun _=>by omega,fun _=>h.1⟩
          · split at h
            · rename_i hk;obtain⟨a,b,c,d,e⟩:=yq h;exact⟨fun _ _=>a,fun _=>b,fun _ _ _=>c,fun _=>by omega,fun _ _=>e,fun _=>by omega,fun _=>by omega,by omega,by omega,fun _=>by omega,fun _=>by omega,fun _=>by omega⟩
            · split at h
              · rename_i hk;simp only[Bool.and_eq_true,decide_eq_true_eq]at h;obtain⟨a,b,c,d,e⟩:=yq h.2;exact⟨fun _ _=>a,fun _=>b,fun _ _ _=>c,fun _=>d,fun _ _=>by omega,fun _=>h.1,fun _=>by omega,by omega,by omega,fun _=>by omega,fun _=>by omega,fun _=>by omega⟩
              · split at h
                · rename_i hk;obtain⟨a,b,c,d,e⟩:=yq h;exact⟨fun _ _=>a,fun _=>b,fun _ _ _=>c,fun _=>d,fun _ _=>by omega,fun _=>by omega,fun _=>by omega,by omega,by omega,fun _=>by omega,fun _=>by omega,fun _=>by omega⟩
                · cases h
mutual
def Tr.good: Tr→Prop
  | .mk k n q s rl ts => Bare k n q s rl.length ts.length ∧ (k = 3 → jyi q) ∧ Tr.goods ts
def Tr.goods: List Tr→Prop
  | [] => True
  | t :: ts => t.good ∧ Tr.goods ts
end
theorem qyb: ∀{ts:List Tr},Tr.goods ts↔∀t∈ts,t.good
  | [] => by simp [Tr.goods]
  | t :: ts => by simp [Tr.goods, qyb (ts := ts)]
theorem jmi{k n:Int}{q:Q6}{s:ByteArray}{rl:List UInt8}{ts:List Tr}:(Tr.mk k n q s rl ts).good↔Bare k n q s rl.length ts.length∧(k=3→jyi q)∧∀t∈ts,t.good:=by
  rw[←qyb]; unfold Tr.good; exact Iff.rfl
theorem zfi{p:Tr→Bool}:∀{ts:List Tr},ky p ts=true→∀t∈ts,jo p t=true
  | [], _, t, ht => by cases ht
  | u :: us, h, t, ht => by
    rw[ky,Bool.and_eq_true]at h;rcases List.mem_cons.1 ht with e | e
    · subst e; exact h.1
    · exact zfi h.2 t e
theorem Dt.good{w:World}:∀t:Dt,t.rd w→jo zg t.tr=true→t.tr.good:=by
  refine Dt.indT fun d ts ih hrd ha=>?_;rw[jmh,qhg,Bool.and_eq_true]at ha;have hok:=Dt.rd_iff.1 hrd;rw[Dt.tr_mk,jmi];have hb:=zmh ha.1;refine⟨by rw[List.length_map]; exact hb,fun hk=>?_,fun t ht=>?_⟩
  · rcases zfg hok.1.num with h | h
    · rw[hb.h3 hk]at h; cases h
    · exact h
  · obtain⟨u,hu,rfl⟩:=List.mem_map.1 ht;refine ih u hu (hok.2.2.2.2 u hu) ?_;exact zfi (ts:=ts.map Dt.tr) (by simpa using ha.2) _ ht
theorem Dt.eta(t:Dt):Dt.mk t.d t.ts=t:=by cases t; rfl
theorem Dt.tr_eta(t:Dt):t.tr=.mk t.d.k t.d.n t.d.y.q t.d.s t.d.rl (t.ts.map Dt.tr):=by rw[←Dt.tr_mk,Dt.eta]
theorem jmj{w:World}{t:Dt}(h:t.rd w){i:Nat}(hi:i<t.ts.length):∃t1 b o,t.ts[i]?=some t1∧t1∈t.ts∧t1.rd w∧t.d.lo=some ⟨b,o,none⟩∧Here w b (o+i*11) (t1.d.cells t1.ts.length):=kid (d:=t.d) (by rw[Dt.eta]; exact h) hi
theorem Dt.okT{w:World}{t:Dt}(h:t.rd w):NdOk w t.d∧t.ts.length≤9223372036854775807:=by
  rw[←Dt.eta t,Dt.rd_iff]at h;exact⟨h.1,Nat.le_trans h.2.1 h.2.2.1⟩
theorem jtb{t c:Dt}(h:c∈t.ts):c.tr.bulk+t.d.s.size+1≤t.tr.bulk:=by
  have:=jbi (d:=t.d) h
  rwa [Dt.eta]at this
def hw(h n:Int):Int:=bits .xor .u64 (IntKind.u64.wrap (bits .xor .u64 h n*1099511628211)) (IntKind.u64.wrap (bits .xor .u64 h n*1099511628211) / 2^32)
def In{α:Type}(p:Nat→Prop)(so:Option Addr)(l:List α):Prop:=l≠[]→∀b o,so=some ⟨b,o,none⟩→p b
theorem In.mono{α:Type}{p q:Nat→Prop}{so:Option Addr}{l:List α}(h:In p so l)(hp:∀b,p b→q b):In q so l:=fun hne b o e=>hp b (h hne b o e)
structure Nd.at_(p:Nat→Prop)(d:Nd):Prop where
 i1:In p d.y.o1 d.y.q.t1
 i2:In p d.y.o2 d.y.q.q1
 i3:In p d.y.o3 d.y.q.t2
 i4:In p d.y.o4 d.y.q.q2
 i5:In p d.ro d.rl
mutual
def Dt.at_(p:Nat→Prop):Dt→Prop
 | .mk d ts => d.at_ p ∧ In p d.lo ts ∧ Dt.ats p ts
def Dt.ats(p:Nat→Prop):List Dt→Prop
 | [] => True
 | t :: ts => t.at_ p ∧ Dt.ats p ts
end
theorem Dt.ats_iff{p:Nat→Prop}:∀{ts:List Dt},Dt.ats p ts↔∀t∈ts,t.at_ p
 | [] => by simp [Dt.ats]
 | t :: ts => by simp [Dt.ats, Dt.ats_iff (ts := ts)]
theorem Dt.at_iff{p:Nat→Prop}{d:Nd}{ts:List Dt}:(Dt.mk d ts).at_ p↔d.at_ p∧In p d.lo ts∧∀t∈ts,t.at_ p:=by
 rw[←Dt.ats_iff]; unfold Dt.at_; exact Iff.rfl
theorem Nd.at_mono{p q:Nat→Prop}{d:Nd}(h:d.at_ p)(hp:∀b,p b→q b):d.at_ q:=⟨h.i1.mono hp,h.i2.mono hp,h.i3.mono hp,h.i4.mono hp,h.i5.mono hp⟩
theorem Dt.at_mono{p q:Nat→Prop}(hp:∀b,p b→q b):∀t:Dt,t.at_ p→t.at_ q:=
 Dt.indT fun d ts ih h=>by
  rw[Dt.at_iff]at h ⊢;exact⟨Nd.at_mono h.1 hp,h.2.1.mono hp,fun t ht=>ih t ht (h.2.2 t ht)⟩
def Kept(p:Nat→Prop)(w w':World):Prop:=w.heap.size≤w'.heap.size∧∀b i v,p b→w.cell? ⟨b,i,none⟩=some v→w'.cell? ⟨b,i,none⟩=some v
theorem jna{p:Nat→Prop}{w w':World}{so:Option Addr}{l:List Nat}(h:Rd w so l)(hi:In p so l)(hk:Kept p w w'):Rd w' so l:=by
 refine⟨h.dig,fun hne=>?_⟩;obtain⟨b,off,h1,h2,h3⟩:=h.pos hne;exact⟨b,off,h1,Nat.lt_of_lt_of_le h2 hk.1,fun j hj=>hk.2 _ _ _ (hi hne _ _ h1) (h3 j hj)⟩
theorem jnb{p:Nat→Prop}{w w':World}{so:Option Addr}{l:List UInt8}(h:Rb w so l)(hi:In p so l)(hk:Kept p w w'):Rb w' so l:=by
 refine⟨fun hne=>?_⟩;obtain⟨b,off,h1,h2,h3⟩:=h.pos hne;exact⟨b,off,h1,Nat.lt_of_lt_of_le h2 hk.1,fun j hj=>hk.2 _ _ _ (hi hne _ _ h1) (h3 j hj)⟩
theorem qrd{p:Nat→Prop}{w w':World}{so:Option Addr}{c:Nat}{l:List Nat}(h:Sc w so c l)(hi:In p so l)(hk:Kept p w w'):Sc w' so c l:=⟨jna h.rd hi hk,h.nil,h.cap⟩
theorem NdOk.kept{p:Nat→Prop}{w w':World}{d:Nd}(h:NdOk w d)(hi:d.at_ p)(hk:Kept p w w'):NdOk w' d:={ h with num:=⟨qrd h.num.s1 hi.i1 hk,qrd h.num.s2 hi.i2 hk,qrd h.num.s3 hi.i3 hk,qrd h.num.s4 hi.i4 hk⟩,raw:=jnb h.raw hi.i5 hk }
theorem Rt.kept{p:Nat→Prop}{w w':World}{lo:Option Addr}{ts:List Dt}(h:Rt w lo ts)(hi:In p lo ts)(hk:Kept p w w'):Rt w' lo ts:=fun hne=>by
 obtain⟨b,o,e,h2⟩:=h hne;exact⟨b,o,e,fun i t hi'=>⟨Nat.lt_of_lt_of_le (h2 i t hi').1 hk.1,fun j v hj=>hk.2 _ _ _ (hi hne _ _ e) ((h2 i t hi').2 j v hj)⟩⟩
theorem Dt.kept{p:Nat→Prop}{w w':World}(hk:Kept p w w'):∀t:Dt,t.rd w→t.at_ p→t.rd w':=
 Dt.indT fun d ts ih h hi=>by
  rw[Dt.rd_iff]at h ⊢;rw[Dt.at_iff]at hi;exact⟨h.1.kept hi.1 hk,h.2.1,h.2.2.1,h.2.2.2.1.kept hi.2.1 hk,fun t ht=>ih t ht (h.2.2.2.2 t ht) (hi.2.2 t ht)⟩
theorem qhh{w:World}{so:Option Addr}{l:List Nat}(h:Rd w so l):In (· < w.heap.size) so l:=fun hne b o e=>by
 obtain⟨b',off,h1,h2,_⟩:=h.pos hne;rw[h1]at e; cases e; exact h2
theorem zmi{w:World}{so:Option Addr}{l:List UInt8}(h:Rb w so l):In (· < w.heap.size) so l:=fun hne b o e=>by
 obtain⟨b',off,h1,h2,_⟩:=h.pos hne;rw[h1]at e; cases e; exact h2
theorem zxa{w:World}{lo:Option Addr}{ts:List Dt}(h:Rt w lo ts):In (· < w.heap.size) lo ts:=fun hne b o e=>by
 obtain⟨b',o',h1,h2⟩:=h hne;rw[h1]at e; cases e;cases ts with
 | nil => exact absurd rfl hne
 | cons t ts => exact (h2 0 t rfl).1
theorem Dt.at_lt{w:World}:∀t:Dt,t.rd w→t.at_ (· < w.heap.size):=
 Dt.indT fun d ts ih h=>by
  rw[Dt.rd_iff]at h;rw[Dt.at_iff];exact⟨⟨qhh h.1.num.s1.rd,qhh h.1.num.s2.rd,qhh h.1.num.s3.rd,qhh h.1.num.s4.rd,zmi h.1.raw⟩,zxa h.2.2.2.1,fun t ht=>ih t ht (h.2.2.2.2 t ht)⟩
theorem Kept.trans{p:Nat→Prop}{w w' w'':World}(h:Kept p w w')(k:Kept p w' w''):Kept p w w'':=⟨Nat.le_trans h.1 k.1,fun b i v hb hc=>k.2 b i v hb (h.2 b i v hb hc)⟩
theorem Kept.mono{p q:Nat→Prop}{w w':World}(h:Kept p w w')(hq:∀b,q b→p b):Kept q w w':=⟨h.1,fun b i v hb hc=>h.2 b i v (hq b hb) hc⟩
theorem qcj(w:World)(g o:Nat)(cs:List Value):Kept (· ≠ g) w (w.setCells g o cs):=by
 induction cs generalizing w o with
 | nil => exact ⟨Nat.le_refl _, fun _ _ _ _ h => h⟩
 | cons c cs ih =>
  refine Kept.trans ⟨by simp,fun b i v hb hc=>?_⟩ (ih (w.setCell ⟨g,o,none⟩ c) (o+1));have:(w.setCell ⟨g,o,none⟩ c).cell? ⟨b,i,none⟩=w.cell? ⟨b,i,none⟩:=by
   unfold World.cell?;rw[Below.heap_setCell w ⟨g,o,none⟩ c b hb]
  rw[this]; exact hc
def zw(ts:List Dt):List Value:=ts.flatMap Dt.cells
theorem yy(t:Dt):t.cells.length=11:=rfl
theorem qgf: ∀ts:List Dt,(zw ts).length=ts.length*11
 | [] => rfl
 | t :: ts => by
  have:=qgf ts;unfold zw at this ⊢;rw[List.flatMap_cons,List.length_append,yy,this,List.length_cons]; omega
theorem qsj(a b:List Dt):zw (a++b)=zw a++zw b:=List.flatMap_append
theorem zfj(t:Dt):zw [t]=t.cells:=by unfold zw; rw[List.flatMap_singleton]
theorem qmb: ∀(ts:List Dt) (i:Nat),(zw ts).drop (i*11)=zw (ts.drop i)
 | ts, 0 => by rw [Nat.zero_mul]; rfl
 | [], i + 1 => by simp [zw]
 | t :: ts, i + 1 => by
  have:=qmb ts i;rw[List.drop_succ_cons,←this];unfold zw;rw[List.flatMap_cons,show(i+1)*11=t.cells.length+i*11 by rw[yy]; omega,List.drop_append,List.drop_of_length_le (by omega),Nat.add_sub_cancel_left,List.nil_append]
theorem zmj{ts:List Dt}{i:Nat}{t:Dt}(h:ts[i]?=some t):((zw ts).drop (i*11)).take 11=t.cells:=by
 obtain⟨hi,rfl⟩:=List.getElem?_eq_some_iff.1 h;rw[qmb,List.drop_eq_getElem_cons hi];unfold zw;rw[List.flatMap_cons,show 11=(ts[i]).cells.length from rfl,List.take_left]
theorem qmc{ts:List Dt}{i j:Nat}{t:Dt}{v:Value}(h:ts[i]?=some t)(hj:t.cells[j]?=some v):(zw ts)[i*11+j]?=some v:=by
 have hlt:j<11:=by have:=(List.getElem?_eq_some_iff.1 hj).1; rwa [yy]at this
 rw[←zmj h,List.getElem?_take,if_pos hlt,List.getElem?_drop]at hj;exact hj
theorem qta{w:World}{B:Nat}{e:TypeId}{so:Option Addr}{n cap:Nat}{ts:List Dt}(h:w.ownsRow B e 11 (.slice so n cap) n (zw ts)):Rt w so ts∧n=ts.length∧n≤cap∧cap≤9223372036854775807:=by
 have hn:n=ts.length:=by have:=h.1; rw[qgf]at this; omega
 refine⟨fun hne=>?_,hn,?_⟩
 ·rcases h.2 with⟨e1,e2⟩ | ⟨g,cap',cur,e1,hg,hc,h1,h2,h3,h4⟩
  ·subst e2; exact absurd (List.length_eq_zero_iff.1 hn.symm) hne
  ·cases e1
   refine⟨g,0,rfl,fun i t hi=>⟨(Array.getElem?_eq_some_iff.1 hc).1,fun j v hj=>?_⟩⟩;have hlt:j<11:=(by have:=(List.getElem?_eq_some_iff.1 hj).1; rwa [yy]at this);have hil:=(List.getElem?_eq_some_iff.1 hi).1;have h5:=qmc hi hj;rw[←h4,List.getElem?_take,if_pos (by omega)]at h5;rw[show(⟨g,0+i*11+j,none⟩:Addr)=⟨g,i*11+j,none⟩by rw[Nat.zero_add],cell_of_row w g _ cur e (0,0) hc];simpa using h5
 ·rcases h.2 with⟨e1,e2⟩ | ⟨g,cap',cur,e1,hg,hc,h1,h2,h3,h4⟩
  ·cases e1; exact⟨Nat.le_refl _,by omega⟩
  ·cases e1; refine⟨h1,Nat.le_trans h2 ?_⟩; decide
section
variable {P:Program} {w0 w:World} {L:List Ck} {l:List (Nat×Value)} {dst:Option Tmp} {ty:TypeId} {pos:String} {after:Array Edge} {guard:Option (Nat×Bool)} {v:Value}
def Rc(w:World)(so:Option Addr)(cs:List Value):Prop:=cs≠[]→∃b off,so=some ⟨b,off,none⟩∧∀p u,cs[p]?=some u→w.cell? ⟨b,off+p,none⟩=some u
theorem Rc.below{w w':World}{so:Option Addr}{cs:List Value}(h:Rc w so cs)(hb:Below w.heap.size w w'):Rc w' so cs:=fun hne=>by
  obtain⟨b,off,e,h2⟩:=h hne;exact⟨b,off,e,fun p u hp=>(hb.cell (cell_lt (h2 p u hp))).trans (h2 p u hp)⟩
theorem jue{w:World}{B:Nat}{e:TypeId}{sz n cap:Nat}{so:Option Addr}{xs:List Value}(h:w.ownsRow B e sz (.slice so n cap) n xs):Rc w so xs:=fun hne=>by
  rcases h.2 with⟨e1,e2⟩ | ⟨g,cap',cur,e1,hg,hc,h1,h2,h3,h4⟩
  · subst e2; exact absurd (List.length_eq_zero_iff.1 (by rw[h.1]; simp)) hne
  · cases e1
    exact⟨g,0,rfl,fun p u hp=>by rw[Nat.zero_add,World.ownsRow.cellAt h p (by have:=(List.getElem?_eq_some_iff.1 hp).1; rw[h.1]at this; exact this)]; exact hp⟩
theorem Mg.nilRow(h:Mg w0 w L)(hb:vk L)(e:TypeId)(sz:Nat):Mg w0 w (.row e sz (.slice none 0 0) 0 []::L):=by
  refine h.add (Below.refl _ _) ⟨by simp,.inl ⟨rfl,rfl⟩⟩ (fun k hk=>by cases hk) (.inr (.inl ⟨_,_,_,_,_,rfl,.inr hb⟩))
theorem qoc(t:Dt):∀u∈t.cells,u.oneCell'=true:=by
  intro u hu;unfold Dt.cells Nd.cells at hu;simp only[List.mem_cons,List.not_mem_nil,or_false]at hu;rcases hu with h | h | h | h | h | h | h | h | h | h | h<;>subst h<;>rfl
section
variable {ops:List Oper} {Q:Exit→Act→World→Prop} {a:Act} {n:Nat} {o:Oper} {rest:List Oper} {d:Nat}
theorem jcc(hA:Sl a n l)(hM:Mg w0 w L)(hg:zb l ops o=true)(hdst:o.dst=some d)(hd:Nat.blt d n=true){vs:List Value}{t:TypeId}(val:Nat→Value)(he:Does P l o w (val w.heap.size) (w.alloc (.cells vs.toArray t)))(ht:t≠BY)
    (hk:∀g w',Mg w0 w' (.obj g (.cells vs.toArray t)::L)→w.heap.size≤g→Below w.heap.size w w'→∀a',Sl a' n ((d,val g)::l)→wpList P ops.toArray Q rest a' w'):wpList P ops.toArray Q (o::rest) a w:=
  yb hA hg hdst hd he (hk _ _ (hM.addObj _ (xp ht)) (Nat.le_refl _) ((Below.refl _ w).alloc (Nat.le_refl _) _))
theorem jcd(hA:Sl a n l)(hM:Mg w0 w L)(hg:zb l ops o=true)(hdst:o.dst=none){g q:Nat}{cs vs us:List Value}{e:TypeId}(he:Sets P l o w (w.setCells g q cs))(k:Nat)(hk0:L[k]?=some (.obj g (.cells vs.toArray e)))(hus:over vs q cs=us){L':List Ck}(hL:L.set k (.obj g (.cells us.toArray e))=L')
    (hk:∀w',Mg w0 w' L'→Kept (· ≠ g) w w'→wpList P ops.toArray Q rest a w'):wpList P ops.toArray Q (o::rest) a w:=
  qra hA hg hdst he (hk _ (by subst hus hL; exact Mg.puts cs w L vs q hM k hk0) (qcj _ _ _ _))
end
section
variable {ops:List Oper} {Q:Exit→Act→World→Prop} {a:Act} {n:Nat} {o:Oper} {S:World→Prop} {md:Region.Mode} {fuel:Nat} {listed:Array Bool}
theorem jce(hA:Sl a n l)(hM:Mg w0 w L)(i:Nat)(hi:ops[i]?=some o)(hg:zb l ops o=true)(hdst:o.dst=none){g q:Nat}{cs vs us:List Value}{e:TypeId}(he:Sets P l o w (w.setCells g q cs))(k:Nat)(hk0:L[k]?=some (.obj g (.cells vs.toArray e)))(hus:over vs q cs=us){L':List Ck}(hL:L.set k (.obj g (.cells us.toArray e))=L')
    (hk:∀w',Mg w0 w' L'→Kept (· ≠ g) w w'→S w'∧wpAnyH P md ops.toArray Q S fuel (listed.setIfInBounds i true) a w'):wpOp P ops.toArray Q i (fun a' w'=>S w'∧wpAnyH P md ops.toArray Q S fuel (listed.setIfInBounds i true) a' w') a w:=by
  have h:=hk _ (by subst hus hL; exact Mg.puts cs w L vs q hM k hk0) (qcj _ _ _ _);exact zmb hA i hi hg hdst he h.1 h.2
theorem juf(hA:Sl a n l)(hM:Mg w0 w L)(i:Nat)(hi:ops[i]?=some o)(hg:zb l ops o=true){d:Nat}(hdst:o.dst=some d)(hd:Nat.blt d n=true){e:TypeId}{sz:Nat}{vs:List Value}{m:Nat}(he:Does P l o w (.slice (some ⟨w.heap.size,0,none⟩) m m) (w.alloc (.cells vs.toArray e)))(hm:vs.length=m*sz)(hle:Nat.ble m 1000=true)(hnb:e≠BY)
    (hk:∀g w',Mg w0 w' (.row e sz (.slice (some ⟨g,0,none⟩) m m) m vs::L)→w.heap.size≤g→Below w.heap.size w w'→S w'∧∀a',Sl a' n ((d,.slice (some ⟨g,0,none⟩) m m)::l)→wpAnyH P md ops.toArray Q S fuel (listed.setIfInBounds i true) a' w'):wpOp P ops.toArray Q i (fun a' w'=>S w'∧wpAnyH P md ops.toArray Q S fuel (listed.setIfInBounds i true) a' w') a w:=by
  have hmx:m≤maxLen:=by have:=Nat.le_of_ble_eq_true hle; unfold maxLen; omega
  have hM':Mg w0 (w.alloc (.cells vs.toArray e)) (.row e sz (.slice (some ⟨w.heap.size,0,none⟩) m m) m vs::L):=
    hM.add ((Below.refl _ w).alloc (Nat.le_refl _) _) ⟨hm,.inr ⟨w.heap.size,m,vs.toArray,rfl,hM.bel.size,heap_alloc_new w _,Nat.le_refl _,hmx,by simpa using hm,by simp[←hm]⟩⟩ (fun k e=>by cases e; exact Nat.le_refl _) (.inr (.inl ⟨_,_,_,_,_,rfl,.inl hnb⟩))
  have h:=hk _ _ hM' (Nat.le_refl _) ((Below.refl _ w).alloc (Nat.le_refl _) _);exact jbd hA i hi hg hdst hd he h.1 h.2
end
end
def CsOk(B:Nat)(g:Nat)(w:World)(cs:List Dt):Prop:=∀t∈cs,t.rd w∧t.at_ (fun b=>B≤b∧b≠g)
theorem CsOk.below{B g:Nat}{w w':World}{cs:List Dt}(h:CsOk B g w cs)(hb:Below w.heap.size w w'):CsOk B g w' cs:=fun t ht=>⟨Dt.keep hb _ (h t ht).1,(h t ht).2⟩
theorem CsOk.new{B g g':Nat}{w w' w'':World}{cs:List Dt}(h:CsOk B g w cs)(hg:w.heap.size≤g')(hb:Below w.heap.size w w')(hk:Kept (· ≠ g') w' w''):CsOk B g w'' cs:=fun t ht=>⟨Dt.kept hk _ (Dt.keep hb _ (h t ht).1) (Dt.at_mono (fun b hb'=>by intro e; omega) _ (Dt.at_lt _ (h t ht).1)),(h t ht).2⟩
theorem qhi(t:Dt):t.cells.all Value.oneCell'=true:=List.all_eq_true.2 (qoc t)
def xg: Dt:=.mk ⟨1,0,⟨Q6.zero,none,0,none,0,none,0,none,0⟩,⟨#[]⟩,none,0,[],none,0⟩ []
def yv: Dt:=.mk ⟨0,0,⟨Q6.zero,none,0,none,0,none,0,none,0⟩,⟨#[]⟩,none,0,[],none,0⟩ []
def nilT: Tr:=.mk 1 0 Q6.zero ⟨#[]⟩ [] []
def vt: Tr:=.mk 0 0 Q6.zero ⟨#[]⟩ [] []
theorem qre: xg.tr=nilT:=by unfold xg nilT; rw[Dt.tr_mk]; rfl
theorem qda: yv.tr=vt:=by unfold yv vt; rw[Dt.tr_mk]; rfl
theorem qaa: LenQ Q6.zero:=⟨by decide,by decide,by decide,by decide⟩
theorem zte(w:World)(k:Int)(h0:-9223372036854775808≤k)(h1:k≤9223372036854775807):(Dt.mk ⟨k,0,⟨Q6.zero,none,0,none,0,none,0,none,0⟩,⟨#[]⟩,none,0,[],none,0⟩ []).rd w:=
  Dt.rd_iff.2 ⟨⟨⟨Sc.none w,Sc.none w,Sc.none w,Sc.none w⟩,qaa,⟨fun h=>absurd rfl h⟩,Nat.le_refl _,by show(0:Nat)≤_; omega,h0,h1,by show(-9223372036854775808:Int)≤0; omega,by show(0:Int)≤9223372036854775807; omega,by show(0:Nat)≤_; omega⟩,Nat.le_refl _,by show(0:Nat)≤_; omega,fun h=>absurd rfl h,fun t h=>by cases h⟩
theorem qhj(w:World):xg.rd w:=zte w 1 (by decide) (by decide)
theorem qdb(w:World):yv.rd w:=zte w 0 (by decide) (by decide)
theorem jnc(p:Nat→Prop)(k:Int):(Dt.mk ⟨k,0,⟨Q6.zero,none,0,none,0,none,0,none,0⟩,⟨#[]⟩,none,0,[],none,0⟩ []).at_ p:=
  Dt.at_iff.2 ⟨⟨fun h=>absurd rfl h,fun h=>absurd rfl h,fun h=>absurd rfl h,fun h=>absurd rfl h,fun h=>absurd rfl h⟩,fun h=>absurd rfl h,fun t h=>by cases h⟩
theorem ztf(p:Nat→Prop):xg.at_ p:=jnc p 1
def xe: List Tr→Tr→Tr
  | [], z => z
  | t :: ts, z => .mk 8 0 Q6.zero ⟨#[]⟩ [] [t, xe ts z]
theorem xdb(t:Dt):t.tr.k=t.d.k:=by cases t; rw[Dt.tr_mk]; rfl
theorem jug{w:World}{so:Option Addr}{ts:List Dt}(hR:Rt w so ts)(hD:∀t∈ts,t.rd w){i:Nat}(hi:i<ts.length):∃t b o,ts[i]?=some t∧t∈ts∧t.rd w∧so=some ⟨b,o,none⟩∧Here w b (o+i*11) (t.d.cells t.ts.length):=by
  obtain⟨b,o,e,h2⟩:=hR (fun k=>by subst k; simp at hi);have ht:=List.getElem?_eq_getElem hi;exact⟨ts[i],b,o,ht,List.getElem_mem hi,hD _ (List.getElem_mem hi),e,h2 i _ ht⟩
def kt(g:Nat)(x z:Dt):Dt:=.mk ⟨8,0,⟨Q6.zero,none,0,none,0,none,0,none,0⟩,⟨#[]⟩,none,0,[],some ⟨g,0,none⟩,2⟩ [x,z]
theorem zga(g:Nat)(x z:Dt):(kt g x z).d.cells (kt g x z).ts.length=[.int .i64 8,.int .i64 0,.bool false,.slice none 0 0,.slice none 0 0,.bool false,.slice none 0 0,.slice none 0 0,.string ⟨#[]⟩,.slice none 0 0,.slice (some ⟨g,0,none⟩) 2 2]:=rfl
theorem zgb(g:Nat)(x z:Dt):(kt g x z).tr=.mk 8 0 Q6.zero ⟨#[]⟩ [] [x.tr,z.tr]:=by unfold kt; rw[Dt.tr_mk]; rfl
theorem zxb(w:World)(lo:Option Addr)(lc:Nat):NdOk w ⟨8,0,⟨Q6.zero,none,0,none,0,none,0,none,0⟩,⟨#[]⟩,none,0,[],lo,lc⟩:=
  ⟨⟨Sc.none w,Sc.none w,Sc.none w,Sc.none w⟩,qaa,⟨fun h=>absurd rfl h⟩,Nat.le_refl _,by show(0:Nat)≤_; omega,by show(-9223372036854775808:Int)≤8; omega,by show(8:Int)≤9223372036854775807; omega,by show(-9223372036854775808:Int)≤0; omega,by show(0:Int)≤9223372036854775807; omega,by show(0:Nat)≤_; omega⟩
theorem qtb{w:World}{g:Nat}{x z:Dt}(hg:g<w.heap.size)(hc:∀p v,(zw [x,z])[p]?=some v→w.cell? ⟨g,p,none⟩=some v)(hx:x.rd w)(hz:z.rd w):(kt g x z).rd w:=by
  unfold kt;refine Dt.rd_iff.2 ⟨zxb w _ _,Nat.le_refl _,by show(2:Nat)≤_; omega,fun _=>⟨g,0,rfl,fun i t hi=>⟨hg,fun j v hj=>?_⟩⟩,fun t ht=>?_⟩
  · rw[Nat.zero_add];exact hc _ _ (qmc hi hj)
  · rcases List.mem_cons.1 ht with h | h
    · rw[h]; exact hx
    · rw[List.mem_singleton.1 h]; exact hz
theorem qtc{p:Nat→Prop}{g:Nat}{x z:Dt}(hg:p g)(hx:x.at_ p)(hz:z.at_ p):(kt g x z).at_ p:=by
  unfold kt;refine Dt.at_iff.2 ⟨⟨fun h=>absurd rfl h,fun h=>absurd rfl h,fun h=>absurd rfl h,fun h=>absurd rfl h,fun h=>absurd rfl h⟩,fun _ b o e=>?_,fun t ht=>?_⟩
  · cases e; exact hg
  · rcases List.mem_cons.1 ht with h | h
    · rw[h]; exact hx
    · rw[List.mem_singleton.1 h]; exact hz
set_option maxRecDepth 100000
theorem qfh: Is1 Tryz.prog 28:=⟨⟨_,Tryz.underlying28,rfl⟩,by kernel_rfl⟩
theorem o93: Is1 Tryz.prog 3:=⟨⟨_,Tryz.underlying3,rfl⟩,by kernel_rfl⟩
theorem yg: FieldAt Tryz.prog 30 0 0:=⟨_,_,Tryz.underlying30,rfl,rfl,by kernel_rfl⟩
theorem vy: FieldAt Tryz.prog 30 5 10:=⟨_,_,Tryz.underlying30,rfl,rfl,by kernel_rfl⟩
theorem ji: IsS Tryz.prog 30 11:=⟨⟨_,Tryz.underlying30⟩,by kernel_rfl⟩
theorem jyj: Is1 Tryz.prog 22:=⟨⟨_,Tryz.underlying22,rfl⟩,by kernel_rfl⟩
theorem o94: Is1 Tryz.prog 4:=⟨⟨_,Tryz.underlying4,rfl⟩,by kernel_rfl⟩
theorem juh: FieldAt Tryz.prog 24 0 0:=⟨_,_,Tryz.underlying24,rfl,rfl,by kernel_rfl⟩
theorem jui: FieldAt Tryz.prog 24 1 1:=⟨_,_,Tryz.underlying24,rfl,rfl,by kernel_rfl⟩
theorem juj: FieldAt Tryz.prog 24 2 2:=⟨_,_,Tryz.underlying24,rfl,rfl,by kernel_rfl⟩
theorem qcc: FieldAt Tryz.prog 50 1 1:=⟨_,_,Tryz.underlying50,rfl,rfl,by kernel_rfl⟩
theorem qtd: Is1 Tryz.prog 27:=⟨⟨_,Tryz.underlying27,rfl⟩,by kernel_rfl⟩
theorem qkf: FieldAt Tryz.prog 83 1 1:=⟨_,_,Tryz.underlying83,rfl,rfl,by kernel_rfl⟩
theorem zba: FieldAt Tryz.prog 50 2 2:=⟨_,_,Tryz.underlying50,rfl,rfl,by kernel_rfl⟩
theorem jcf: IsS Tryz.prog 26 6:=⟨⟨_,Tryz.underlying26⟩,by kernel_rfl⟩
theorem o99: Is1 Tryz.prog 9:=⟨⟨_,Tryz.underlying9,rfl⟩,by kernel_rfl⟩
theorem jva: FieldAt Tryz.prog 50 0 0:=⟨_,_,Tryz.underlying50,rfl,rfl,by kernel_rfl⟩
theorem qod: FieldAt Tryz.prog 30 2 2:=⟨_,_,Tryz.underlying30,rfl,rfl,by kernel_rfl⟩
theorem jcg: Is1 Tryz.prog 31:=⟨⟨_,Tryz.underlying31,rfl⟩,by kernel_rfl⟩
theorem jvb: FieldAt Tryz.prog 26 0 0:=⟨_,_,Tryz.underlying26,rfl,rfl,by kernel_rfl⟩
theorem jvc: FieldAt Tryz.prog 26 1 3:=⟨_,_,Tryz.underlying26,rfl,rfl,by kernel_rfl⟩
theorem qkg: FieldAt Tryz.prog 30 1 1:=⟨_,_,Tryz.underlying30,rfl,rfl,by kernel_rfl⟩
theorem qte: FieldAt Tryz.prog 30 3 8:=⟨_,_,Tryz.underlying30,rfl,rfl,by kernel_rfl⟩
theorem qoe: FieldAt Tryz.prog 30 4 9:=⟨_,_,Tryz.underlying30,rfl,rfl,by kernel_rfl⟩
theorem jvd: FieldAt Tryz.prog 98 1 1:=⟨_,_,Tryz.underlying98,rfl,rfl,by kernel_rfl⟩
theorem jza: IsS Tryz.prog 24 3:=⟨⟨_,Tryz.underlying24⟩,by kernel_rfl⟩
theorem o95: Is1 Tryz.prog 5:=⟨⟨_,Tryz.underlying5,rfl⟩,by kernel_rfl⟩
def FitsAt(t:Dt):Prop:=∀{w0 w:World} {b o gl:Nat} {left dp:Int} {T:List Ck},t.rd w0→Here w0 b o t.cells→Mg w0 w (.obj gl (.cells #[iV left] 3)::T)→0≤left→left≤20000→0≤dp→dp≤201→Calls Tryz.prog 25 #[pA b o,iV dp,pA gl 0] w fun e w'=>e=.returned (bV (jj dp left t.tr).1)∧Mg w0 w' (.obj gl (.cells #[iV (jj dp left t.tr).2] 3)::T)
theorem zna: ∀t:Dt,FitsAt t:=Dt.indT fun d ts ih=>by
 intro w0 w b o gl left dp T hrd hH hM0 hl0 hl1 hd0 hd1;replace hH:Here w0 b o (d.cells ts.length):=hH;have hok:=(Dt.rd_iff.1 hrd);have hk0:=hok.1.k0;have hk1:=hok.1.k1;have hlen:ts.length≤9223372036854775807:=Nat.le_trans hok.2.1 hok.2.2.1;have M:Mg w0 w (.obj gl (.cells #[iV left] 3)::T):=hM0;refine qn (l:=[(0,pA b o),(1,iV dp),(2,pA gl 0)]) Tryz.func25 rfl Tryz.ntmps25 rfl rfl ?_;intro Q hret hnorm hP a A;refine wsk fun K1 hK1=>wrl (sda A λa A=>?_);refine qa (hK1 _ _ (wsk fun K2 hK2=>wrl (sdm A λa A=>?_)));refine sdo A (xd rfl) λa A=>?_;refine sdo A (qt M o93 rfl 0 rfl rfl) λa A=>?_;refine sdo (v:=iV (left-1)) A (qb rfl rfl (zsh (uj (by omega) (by omega)))) λa A=>?_;refine sdo A (xd rfl) λa A=>?_;refine zi (L':=(.obj gl (.cells #[iV (left-1)] 3)::T)) A M rfl rfl (qw rfl rfl rfl (by kernel_rfl) M 0 rfl rfl rfl) 0 rfl rfl rfl ?_;intro w3 M;refine qa (hK2 _ _ (wsk fun K4 hK4=>wsk fun K5 hK5=>wrl (sdm A λa A=>?_)));refine sdo A (xd rfl) λa A=>?_;refine sdo A (qt M o93 rfl 0 rfl rfl) λa A=>?_;rcases tf (decide (left-1<0))with hb6 | hb6
 ·have hb6':=of_decide_eq_true hb6;refine sdc A zs hb6 λa A=>?_;refine sdm A λa A=>?_;iterate 2 refine qf A rfl rfl rfl λa A=>?_
  refine sdk (v:=bV true) A λa A=>?_;refine qa (hK5 _ _ (ct A ?_));refine wsk fun K7 hK7=>wrl (sda A λa A=>?_);refine qa (hK7 _ _ (wr1 hret A ?_));rw[zta (by omega)];exact⟨rfl,M⟩
 ·have hb6':=of_decide_eq_false hb6;refine sdc A zs hb6 λa A=>?_;iterate 2 refine sdm A λa A=>?_
  rcases tf (decide (200<dp))with hb8 | hb8
  ·have hb8':=of_decide_eq_true hb8;refine sdc A zn hb8 λa A=>?_;refine sdk (v:=bV true) A λa A=>?_;refine qa (hK5 _ _ (ct A ?_));refine wsk fun K9 hK9=>wrl (sda A λa A=>?_);refine qa (hK9 _ _ (wr1 hret A ?_));rw[zta (by omega)];exact⟨rfl,M⟩
  ·have hb8':=of_decide_eq_false hb8;refine sdc A zn hb8 λa A=>?_;refine sdk (v:=bV false) A λa A=>?_;refine qa (hK5 _ _ (cf A ?_));refine wp_skip (hK4 _ _ (wsk fun K10 hK10=>wsk fun K11 hK11=>wrl (sdm A λa A=>?_)));refine sdo A (xd rfl) λa A=>?_;refine sdo (v:=pA b (o+10)) A (qe vy rfl rfl) λa A=>?_;refine sdo A (qed (j:=10) M hH qfh rfl rfl rfl) λa A=>?_;refine sdo A (zh Tryz.underlying28 rfl) λa A=>?_;refine sdm A λa A=>?_;refine qa (hK11 _ _ (wp_block (jd (fun m_ a w1=>∃(i:Nat) (m:Int),m_=1+(ts.length-i)∧(i≤ts.length∧qci dp (decide (d.k=8)) 0 (left-1) ((ts.map Dt.tr).drop 0)=qci dp (decide (d.k=8)) i m ((ts.map Dt.tr).drop i)∧0≤m∧m≤20000)∧Sl a 53 [(0,pA b o),(1,iV dp),(2,pA gl 0),(9,pA gl 0),(10,pA gl 0),(11,iV left),(12,iV (left-1)),(13,pA gl 0),(14,pA gl 0),(15,pA gl 0),(16,iV (left-1)),(17,bV false),(18,bV false),(19,iV dp),(20,bV false),(21,bV false),(22,pA b o),(23,pA b o),(24,pA b (o+10)),(25,.slice d.lo ts.length d.lc),(26,iV (((ts.length:Nat):Int))),(27,iV (((i:Nat):Int)))]∧Mg w0 w1 (.obj gl (.cells #[iV m] 3)::T)) _ ⟨0,left-1,rfl,⟨Nat.zero_le _,rfl,by omega,by omega⟩,A.keep _ (by repeat' constructor),M⟩ ?_)));clear M A;rintro m_ a w12 ⟨i,m,rfl,hinv14,A,M⟩ K13 hK13;obtain⟨hi0,hin9,hm0,hm1⟩:=hinv14;refine wsk fun K15 hK15=>wrl ?_;rcases tf (decide (((i:Nat):Int)<((ts.length:Nat):Int)))with hb16 | hb16
   ·have hb16':=of_decide_eq_true hb16;refine sdc A zs hb16 λa A=>?_;refine qa (hK15 _ _ (wsk fun K17 hK17=>wp_cond_true (A.ev rfl) ?_));refine wp_skip (hK17 _ _ (wsk fun K18 hK18=>wp_block (wsk fun K19 hK19=>wrl (sdm A λa A=>?_))));refine sda A λa A=>?_;refine qa (hK19 _ _ (wsk fun K20 hK20=>wrl (sdm A λa A=>?_)));refine sdo (v:=iV (dp+1)) A (qb rfl rfl (kp (uj (by omega) (by omega)))) λa A=>?_;refine sda A λa A=>?_;refine qa (hK20 _ _ (wsk fun K21 hK21=>wsk fun K22 hK22=>wrl (sdm A λa A=>?_)));refine sdo A (xd rfl) λa A=>?_;refine sdo (v:=pA b o) A (qe yg rfl rfl) λa A=>?_;refine sdo A (qed (j:=0) M hH o93 rfl rfl rfl) λa A=>?_;rcases tf ((d.k==8))with hb23 | hb23
    ·have hb23':=eq_of_beq hb23;refine sdc A qg hb23 λa A=>?_;iterate 2 refine sdm A λa A=>?_
     rcases tf ((((i:Nat):Int)==1))with hb24 | hb24
     ·have hb24':=eq_of_beq hb24;refine sdc A qg hb24 λa A=>?_;refine sdk (v:=bV true) A λa A=>?_;refine qa (hK22 _ _ (ct A ?_));refine wrl (sdm A λa A=>?_);refine sda A λa A=>?_;refine qa (hK21 _ _ (wsk fun K25 hK25=>?_));obtain⟨t1,b1,o1,hi1,hm1,hr1,hl1,hH1⟩:=kid hrd (i:=i) (by omega);have hD:(if decide (d.k=8)=true∧i=1 then dp else dp+1)=dp:=if_pos ⟨decide_eq_true hb23',by omega⟩;refine wrl (sdm A λa A=>?_);refine sdo A (xd rfl) λa A=>?_;refine sdo (v:=pA b (o+10)) A (qe vy rfl rfl) λa A=>?_;refine sdo A (qed (j:=10) M hH qfh rfl rfl rfl) λa A=>?_;refine sdm A λa A=>?_;refine sdo (v:=pA b1 (o1+i*11)) A (js (k:=i) Tryz.underlying28 (by kernel_rfl) rfl rfl rfl hl1 (by omega)) λa A=>?_;iterate 2 refine sdm A λa A=>?_
      refine sct A (ef rfl rfl) (ih t1 hm1 hr1 hH1 M (by omega) (by omega) (by omega) (by omega)) ?_;rintro _ w27 ⟨rfl,hM26⟩;replace M:Mg w0 w27 (.obj gl (.cells #[iV ((jj (dp) m t1.tr).2)] 3)::T):=hM26;refine⟨_,rfl,?_⟩;intro a A;refine sdo (v:=bV (!((jj (dp) m t1.tr).1))) A (qp rfl ze) λa A=>?_;refine qa (hK25 _ _ ?_);refine wp_cond_split (t:=!((jj (dp) m t1.tr).1)) (A.ev rfl) (fun hc28=>?_) (fun hc28=>?_)
      ·refine wsk fun K29 hK29=>wrl (sda A λa A=>?_);refine qa (hK29 _ _ (wr1 hret A ?_));have hr9:(jj (dp) m t1.tr).1=false:=(by simpa using hc28);have e9:jj dp left (Dt.mk d ts).tr=(false,(jj (dp) m t1.tr).2):=(by rw[qrc (by omega) (by omega),hin9,qob hi1 hD hr9]);rw[e9];exact⟨rfl,M⟩
      ·refine wp_skip (hK18 _ _ (wrl (sdo (v:=iV (((i+1:Nat):Int))) A (qb rfl rfl (fun w=>(kp (uj (by omega) (by omega)) w).trans (by rw[show(((i:Nat):Int)+1:Int)=((i+1:Nat):Int)from by omega]))) λa A=>?_)));refine sdm A λa A=>?_;refine qa ?_;have hr9:(jj (dp) m t1.tr).1=true:=(by simpa using hc28);have hp9:=qhe t1.tr _ _ hr9;have hl9:=zag t1.tr (dp) m;refine hK13 _ _ _ (by omega) ⟨i+1,(jj (dp) m t1.tr).2,rfl,⟨by omega,by rw[hin9,zah hi1 hD hr9],by omega,by omega⟩,A.keep _ (by repeat' constructor),M⟩
     ·have hb24':=ne_of_beq_false hb24;refine sdc A qg hb24 λa A=>?_;refine sdk (v:=bV false) A λa A=>?_;refine qa (hK22 _ _ (cf A ?_));refine wp_skip (hK21 _ _ (wsk fun K30 hK30=>?_));obtain⟨t1,b1,o1,hi1,hm1,hr1,hl1,hH1⟩:=kid hrd (i:=i) (by omega);have hD:(if decide (d.k=8)=true∧i=1 then dp else dp+1)=dp+1:=if_neg (fun e=>by omega);refine wrl (sdm A λa A=>?_);refine sdo A (xd rfl) λa A=>?_;refine sdo (v:=pA b (o+10)) A (qe vy rfl rfl) λa A=>?_;refine sdo A (qed (j:=10) M hH qfh rfl rfl rfl) λa A=>?_;refine sdm A λa A=>?_;refine sdo (v:=pA b1 (o1+i*11)) A (js (k:=i) Tryz.underlying28 (by kernel_rfl) rfl rfl rfl hl1 (by omega)) λa A=>?_;iterate 2 refine sdm A λa A=>?_
      refine sct A (ef rfl rfl) (ih t1 hm1 hr1 hH1 M (by omega) (by omega) (by omega) (by omega)) ?_;rintro _ w32 ⟨rfl,hM31⟩;replace M:Mg w0 w32 (.obj gl (.cells #[iV ((jj (dp+1) m t1.tr).2)] 3)::T):=hM31;refine⟨_,rfl,?_⟩;intro a A;refine sdo (v:=bV (!((jj (dp+1) m t1.tr).1))) A (qp rfl ze) λa A=>?_;refine qa (hK30 _ _ ?_);refine wp_cond_split (t:=!((jj (dp+1) m t1.tr).1)) (A.ev rfl) (fun hc33=>?_) (fun hc33=>?_)
      ·refine wsk fun K34 hK34=>wrl (sda A λa A=>?_);refine qa (hK34 _ _ (wr1 hret A ?_));have hr9:(jj (dp+1) m t1.tr).1=false:=(by simpa using hc33);have e9:jj dp left (Dt.mk d ts).tr=(false,(jj (dp+1) m t1.tr).2):=(by rw[qrc (by omega) (by omega),hin9,qob hi1 hD hr9]);rw[e9];exact⟨rfl,M⟩
      ·refine wp_skip (hK18 _ _ (wrl (sdo (v:=iV (((i+1:Nat):Int))) A (qb rfl rfl (fun w=>(kp (uj (by omega) (by omega)) w).trans (by rw[show(((i:Nat):Int)+1:Int)=((i+1:Nat):Int)from by omega]))) λa A=>?_)));refine sdm A λa A=>?_;refine qa ?_;have hr9:(jj (dp+1) m t1.tr).1=true:=(by simpa using hc33);have hp9:=qhe t1.tr _ _ hr9;have hl9:=zag t1.tr (dp+1) m;refine hK13 _ _ _ (by omega) ⟨i+1,(jj (dp+1) m t1.tr).2,rfl,⟨by omega,by rw[hin9,zah hi1 hD hr9],by omega,by omega⟩,A.keep _ (by repeat' constructor),M⟩
    ·have hb23':=ne_of_beq_false hb23;refine sdc A qg hb23 λa A=>?_;refine sdm A λa A=>?_;iterate 2 refine qf A rfl rfl rfl λa A=>?_
     refine sdk (v:=bV false) A λa A=>?_;refine qa (hK22 _ _ (cf A ?_));refine wp_skip (hK21 _ _ (wsk fun K35 hK35=>?_));obtain⟨t1,b1,o1,hi1,hm1,hr1,hl1,hH1⟩:=kid hrd (i:=i) (by omega);have hD:(if decide (d.k=8)=true∧i=1 then dp else dp+1)=dp+1:=if_neg (fun e=>hb23' (of_decide_eq_true e.1));refine wrl (sdm A λa A=>?_);refine sdo A (xd rfl) λa A=>?_;refine sdo (v:=pA b (o+10)) A (qe vy rfl rfl) λa A=>?_;refine sdo A (qed (j:=10) M hH qfh rfl rfl rfl) λa A=>?_;refine sdm A λa A=>?_;refine sdo (v:=pA b1 (o1+i*11)) A (js (k:=i) Tryz.underlying28 (by kernel_rfl) rfl rfl rfl hl1 (by omega)) λa A=>?_;iterate 2 refine sdm A λa A=>?_
     refine sct A (ef rfl rfl) (ih t1 hm1 hr1 hH1 M (by omega) (by omega) (by omega) (by omega)) ?_;rintro _ w37 ⟨rfl,hM36⟩;replace M:Mg w0 w37 (.obj gl (.cells #[iV ((jj (dp+1) m t1.tr).2)] 3)::T):=hM36;refine⟨_,rfl,?_⟩;intro a A;refine sdo (v:=bV (!((jj (dp+1) m t1.tr).1))) A (qp rfl ze) λa A=>?_;refine qa (hK35 _ _ ?_);refine wp_cond_split (t:=!((jj (dp+1) m t1.tr).1)) (A.ev rfl) (fun hc38=>?_) (fun hc38=>?_)
     ·refine wsk fun K39 hK39=>wrl (sda A λa A=>?_);refine qa (hK39 _ _ (wr1 hret A ?_));have hr9:(jj (dp+1) m t1.tr).1=false:=(by simpa using hc38);have e9:jj dp left (Dt.mk d ts).tr=(false,(jj (dp+1) m t1.tr).2):=(by rw[qrc (by omega) (by omega),hin9,qob hi1 hD hr9]);rw[e9];exact⟨rfl,M⟩
     ·refine wp_skip (hK18 _ _ (wrl (sdo (v:=iV (((i+1:Nat):Int))) A (qb rfl rfl (fun w=>(kp (uj (by omega) (by omega)) w).trans (by rw[show(((i:Nat):Int)+1:Int)=((i+1:Nat):Int)from by omega]))) λa A=>?_)));refine sdm A λa A=>?_;refine qa ?_;have hr9:(jj (dp+1) m t1.tr).1=true:=(by simpa using hc38);have hp9:=qhe t1.tr _ _ hr9;have hl9:=zag t1.tr (dp+1) m;refine hK13 _ _ _ (by omega) ⟨i+1,(jj (dp+1) m t1.tr).2,rfl,⟨by omega,by rw[hin9,zah hi1 hD hr9],by omega,by omega⟩,A.keep _ (by repeat' constructor),M⟩
   ·have hb16':=of_decide_eq_false hb16;refine sdc A zs hb16 λa A=>?_;refine qa (hK15 _ _ (wsk fun K40 hK40=>wp_cond_false (A.ev rfl) ?_));refine wp_exit (hK10 _ _ (wsk fun K41 hK41=>wrl (sda A λa A=>?_)));refine qa (hK41 _ _ (wr1 hret A ?_));have e9:jj dp left (Dt.mk d ts).tr=(true,m):=(by rw[qrc (by omega) (by omega),hin9,qhf (by omega),qci]);rw[e9];exact⟨rfl,M⟩
section
variable {F:Fence} {m:Nat} {P:Program} {w0 w w':World} {L:List Ck} {l:List (Nat×Value)} {ops:List Oper} {Q:Exit→Act→World→Prop} {a:Act} {n:Nat} {o:Oper} {rest:List Oper} {d:Nat} {v:Value}
def Sd(a:Act)(n:Nat)(l:List (Nat×Value)):Prop:=Sl { a with defers:=[] } n l
theorem zbb(hnd:∀c,o.op≠.defer c)(r:Option Nat)(ρ:Operand→Value):o.semAt r ρ=execOp ρ o:=by
 cases r with
 | none => rfl
 | some k => exact Oper.semAt_some k _ _ hnd
theorem qag(hF:∀f,F.fn f)(H:Sd a n l)(hg:zb l ops o=true)(hdst:o.dst=some d)(hd:Nat.blt d n=true)(hnd:∀c,o.op≠.defer c)(he:Does P l o w v w')
  (hk:∀a',Sd a' n ((d,v)::l)→a'.defers=a.defers→wpListIn F m P ops.toArray Q rest a' w'):wpListIn F m P ops.toArray Q (o::rest) a w:=by
 unfold wpListIn;rw[if_pos (show Region.wanted o (yielded ops.toArray a.tmps)=true from H.wanted hg)];refine⟨fun f _=>hF f,?_⟩;rw[zbb hnd,he a.eval (fun x u hx=>H.ev hx),Oper.uponIn_value,hdst];exact hk _ (H.put hd v) rfl
theorem jch(hF:∀f,F.fn f)(H:Sd a n l)(hg:zb l ops o=true)(hdst:o.dst=none)(hnd:∀c,o.op≠.defer c)(he:Sets P l o w w')
  (hk:wpListIn F m P ops.toArray Q rest a w'):wpListIn F m P ops.toArray Q (o::rest) a w:=by
 unfold wpListIn;rw[if_pos (show Region.wanted o (yielded ops.toArray a.tmps)=true from H.wanted hg)];refine⟨fun f _=>hF f,?_⟩;rw[zbb hnd,he a.eval (fun x u hx=>H.ev hx),Oper.uponIn_skip,hdst];exact hk
theorem jve(hF:∀f,F.fn f)(hd0:F.depth=none)(H:Sd a n l)(hg:zb l ops o=true)(hdst:o.dst=some d)(hd:Nat.blt d n=true)(hnd:∀c,o.op≠.defer c){f:FuncId}{vs:List Value}(he:Enters P l o w f vs){R:World→Prop}(hc:CallsIn F (m-1) P f vs.toArray w fun e w'=>e=.returned v∧R w')
  (hk:∀w',R w'→∀a',Sd a' n ((d,v)::l)→a'.defers=a.defers→wpListIn F m P ops.toArray Q rest a' w'):wpListIn F m P ops.toArray Q (o::rest) a w:=by
 unfold wpListIn;rw[if_pos (show Region.wanted o (yielded ops.toArray a.tmps)=true from H.wanted hg)];refine⟨fun f _=>hF f,?_⟩;rw[zbb hnd,he a.eval (fun x u hx=>H.ev hx),Oper.uponIn_enter];refine⟨(fun h=>by rw[hd0]at h; cases h),hc.mono ?_⟩;rintro _ w' ⟨rfl,h⟩;rw[hdst];exact hk w' h _ (H.put hd v) rfl
theorem jvf{c:Code}(I:Nat→Act→World→Prop)(N:Nat)(h0:I N a w)(round:∀k a w,I k a w→c.wpIn F m P (Exit.then (fun a' w'=>∃j,k=j+1∧I j a' w') Q) a w):(Code.loop c).wpIn F m P Q a w:=by
 have key:∀k a w,I k a w→Code.roundsIn F m P c Q (k+1) a w:=by
  intro k
  induction k with
  | zero =>
   intro a w h;refine wpIn_mono (round 0 a w h) (fun e a' w' hq=>?_);cases e with
   | normal => obtain ⟨j, hj, _⟩ := hq; omega
   | _ => exact hq
  | succ k ih =>
   intro a w h;refine wpIn_mono (round (k+1) a w h) (fun e a' w' hq=>?_);cases e with
   | normal =>
    obtain⟨j,hj,hI⟩:=hq;obtain rfl:k=j:=(by omega);exact ih a' w' hI
   | _ => exact hq
 exact wpIn_loop_rounds (N+1) (key N a w h0)
theorem jnd(hF:∀f,F.fn f)(hd0:F.depth=none)(H:Sd a n l)(hg:zb l ops o=true)(hdst:o.dst=some d)(hd:Nat.blt d n=true)(hnd:∀c,o.op≠.defer c){k:Nat}{vs:List Value}(he:∀ρ:Operand→Value,(∀x u,ev l x=some u→ρ x=u)→(execOp ρ o).run P w=(Instr.yield k vs.toArray).run P w){R:Bool→World→Prop}(hy:YieldAt F (m-1) P k vs.toArray w fun e w'=>∃b,e=.returned (bV b)∧R b w')
  (hk:∀b w',R b w'→∀a',Sd a' n ((d,bV b)::l)→a'.defers=a.defers→wpListIn F m P ops.toArray Q rest a' w'):wpListIn F m P ops.toArray Q (o::rest) a w:=by
 obtain⟨fn,tmps,assign,body,h1,h2⟩:=hy;unfold wpListIn;rw[if_pos (show Region.wanted o (yielded ops.toArray a.tmps)=true from H.wanted hg)];refine⟨fun f _=>hF f,?_⟩;rw[zbb hnd,he a.eval (fun x u hx=>H.ev hx),h1,Oper.uponIn_round];refine⟨(fun h=>by rw[hd0]at h; cases h),h2.mono ?_⟩;rintro _ w' ⟨b,rfl,h⟩;rw[hdst];exact hk b w' h _ (H.put hd (bV b)) rfl
theorem zgc{x:Operand}{k:Nat}{args:List Operand}{ts:Array TypeId}{vs:List Value}{dst:Option Tmp}{ty:TypeId}{pos:String}{after:Array Edge}{guard:Option (Nat×Bool)}(hx:ev l x=some (.func (.yield k) #[] #[]))(ha:evs l args=some vs):
  ∀ρ:Operand→Value,(∀x u,ev l x=some u→ρ x=u)→(execOp ρ ⟨dst,.call ⟨.value x,args.toArray,ts⟩,ty,pos,after,guard⟩).run P w=(Instr.yield k vs.toArray).run P w:=fun ρ h=>by
 have e:=zsi h args vs ha;simp[execOp,resolve,invoke,h x _ hx,Deferred.ofValue,e]
theorem Sd.sl(h:Sd a n l)(hd:a.defers=[]):Sl a n l:=⟨h.size,h.holds,hd⟩
theorem Sd.ev(h:Sd a n l){x:Operand}{v:Value}(hx:Go.Proofs.YtgjohjfehgdgbaaGreatDoor.G.ev l x=some v):a.eval x=v:=Sl.ev h hx
theorem Sd.keep(h:Sd a n l)(l':List (Nat×Value))(hs:AllIn l l'):Sd a n l':=Sl.keep h l' hs
theorem jvg{f:FuncId}{fn:Func}{c:Code}{args:List Value}{Z:Ending→World→Prop}(hf:P.funcs[f]?=some fn)(hb:fn.body=some c)(hF:F.fn f)(hn:fn.ntmps=n)(hl:Nat.ble args.length n=true)(hs:(args.zipIdx.map fun p=>(p.2,p.1))=l)(hro:F.round=none)
  (h:∀Q:Exit→Act→World→Prop,(∀a w,bodyPost P fn Z .ret a w→Q .ret a w)→(∀a w,bodyPost P fn Z .ret a w→Q .normal a w)→∀a,Sd a n l→a.defers=[]→c.wpIn F m P Q a w):CallsIn F m P f args.toArray w Z:=by
 subst hs;refine callsIn_of_wp hf hb hF (h _ (fun _ _ h=>h) (fun _ _ h=>h) _ ?_ rfl) hro;rw[hn];exact Sl.enter (Nat.le_of_ble_eq_true hl)
theorem jne{f:FuncId}{fn:Func}{c:Code}{args:List Value}{Z:Ending→World→Prop}(hf:P.funcs[f]?=some fn)(hb:fn.body=some c)(hF:F.fn f)(hn:fn.ntmps=n)(hl:Nat.ble args.length n=true)(hs:(args.zipIdx.map fun p=>(p.2,p.1))=l)(hro:F.round=none)
  (h:∀Q:Exit→Act→World→Prop,(∀a w,bodyPostM F m P fn Z .ret a w→Q .ret a w)→∀a,Sd a n l→a.defers=[]→c.wpIn F m P Q a w):CallsIn F m P f args.toArray w Z:=by
 subst hs;refine callsIn_of_wp_marks hf hb hF (h _ (fun _ _ h=>h) _ ?_ rfl) hro;rw[hn];exact Sl.enter (Nat.le_of_ble_eq_true hl)
theorem qmd{x y:Code}(h:∀K:Act→World→Prop,(∀a w,y.wpIn F m P Q a w→K a w)→x.wpIn F m P (Exit.then K Q) a w):(Code.seq x y).wpIn F m P Q a w:=wpIn_seq (h _ (fun _ _ h=>h))
theorem jci(hF:∀f,F.fn f)(H:Sd a n l)(M:Mg w0 w L)(hg:zb l ops o=true)(hdst:o.dst=some d)(hd:Nat.blt d n=true)(hnd:∀c,o.op≠.defer c){vs:List Value}{t:TypeId}(val:Nat→Value)(he:Does P l o w (val w.heap.size) (w.alloc (.cells vs.toArray t)))(ht:t≠BY)
  (hk:∀g w',Mg w0 w' (.obj g (.cells vs.toArray t)::L)→w.heap.size≤g→g<w'.heap.size→Below w.heap.size w w'→KeepsOthers w w'→∀a',Sd a' n ((d,val g)::l)→a'.defers=a.defers→wpListIn F m P ops.toArray Q rest a' w'):wpListIn F m P ops.toArray Q (o::rest) a w:=
 qag hF H hg hdst hd hnd he (hk _ _ (M.addObj _ (xp ht)) (Nat.le_refl _) (by simp) ((Below.refl _ w).alloc (Nat.le_refl _) _) (KeepsOthers.alloc _ _))
end
theorem qee(g:Nat):∀(cs:List Value) (w:World) (o:Nat),KeepsOthers w (w.setCells g o cs)
 | [], w, o => KeepsOthers.refl w
 | c :: cs, w, o => (KeepsOthers.setCell w ⟨g, o, none⟩ c).trans (qee g cs _ _)
theorem qkh{B:Nat}(g:Nat)(hg:B≤g):∀(cs:List Value) (w:World) (o:Nat),Below B w (w.setCells g o cs)
 | [], w, o => Below.refl _ w
 | c :: cs, w, o => ((Below.refl B w).setCell (p := ⟨g, o, none⟩) hg c).trans (qkh g hg cs _ _)
theorem qdc{w w':World}{row:Option Nat}(hg:w.grownBy w' row)(hr:∀r,row=some r→∃o:Obj,w.heap[r]?=some o∧o.isCells=false):Kept (fun _=>True) w w':=⟨hg.size,fun b i v _ hc=>by
 by_cases e:row=some b
 ·obtain⟨o,ho,hn⟩:=hr b e;unfold World.cell? at hc;simp only[ho]at hc;cases o<;>simp_all [Obj.isCells]
 ·exact hg.cell hc (fun k=>e k.symm)⟩
theorem Mg.calm{w0 w w':World}{L:List Ck}{row:Option Nat}(h:Mg w0 w L)(hg:w.grownBy w' row)(hr:∀r,row=some r→w0.heap.size≤r∧∃o:Obj,w.heap[r]?=some o∧o.isCells=false)(hL:∀c∈L,∃g vs t,c=.obj g (.cells vs t)):Mg w0 w' L:=by
 refine⟨h.bel.grown hg h.bel.size (fun k e=>(hr k e).1),fun c hc=>?_,h.dis⟩;obtain⟨g,vs,t,rfl⟩:=hL c hc;have h2:=h.all _ hc;refine⟨h2.1,(hg.block g (Array.getElem?_eq_some_iff.1 h2.2).1 (fun e=>?_)).trans h2.2⟩;obtain⟨_,o,ho,hn⟩:=hr g e.symm;rw[h2.2]at ho;cases ho
 cases hn
theorem Dt.at_true: ∀t:Dt,t.at_ (fun _=>True):=Dt.indT fun d ts ih=>Dt.at_iff.2 ⟨⟨fun _ _ _ _=>trivial,fun _ _ _ _=>trivial,fun _ _ _ _=>trivial,fun _ _ _ _=>trivial,fun _ _ _ _=>trivial⟩,fun _ _ _ _=>trivial,ih⟩
theorem Here.kept{w w':World}{b o:Nat}{cs:List Value}(h:Here w b o cs)(hk:Kept (fun _=>True) w w'):Here w' b o cs:=⟨Nat.lt_of_lt_of_le h.1 hk.1,fun j v hj=>hk.2 _ _ _ trivial (h.2 j v hj)⟩
theorem qtf: Is1 Tryz.prog 28:=⟨⟨_,Tryz.underlying28,rfl⟩,by kernel_rfl⟩
theorem qdd: IsS Tryz.prog 30 11:=⟨⟨_,Tryz.underlying30⟩,by kernel_rfl⟩
def Al(w:World):Type:={ x:Int×Dt // x.2.rd w }
def jzb{w:World}(x:Al w):Array Value:=#[iV x.1.1,.agg (x.1.2.d.cells x.1.2.ts.length).toArray]
def KpB(n₀ Bs:Nat)(W W':World):Prop:=Below n₀ W W'∧∀v,W.cell? ⟨Bs,0,none⟩=some v→W'.cell? ⟨Bs,0,none⟩=some v
theorem KpB.refl(n₀ Bs:Nat)(W:World):KpB n₀ Bs W W:=⟨Below.refl _ _,fun _ h=>h⟩
theorem KpB.trans{n₀ Bs:Nat}{A B C:World}(h:KpB n₀ Bs A B)(k:KpB n₀ Bs B C):KpB n₀ Bs A C:=⟨h.1.trans k.1,fun v hv=>k.2 v (h.2 v hv)⟩
set_option maxRecDepth 100000 in
theorem znb{wA w0:World}{Bs:Nat}{so:Option Addr}{ca:Nat}{ts:List Dt}(hR:Rt wA so ts)(hD:∀t∈ts,t.rd wA)(hb:Below wA.heap.size wA w0)(hBs:w0.cell? ⟨Bs,0,none⟩=some (.slice so ts.length ca))(hBl:Bs<w0.heap.size)(hl:ts.length≤1000000000)(n:Nat):
  SeqStopsK Fence.wide n Tryz.prog 108 #[pA Bs 0] (jzb (w:=wA)) (KpB wA.heap.size Bs) (fun ys=>ys.map (fun x=>x.1.2)=ts.reverse) (fun _=>True) ts.length w0:=by
 intro l J Jx W hW hJ hJx hY h0;have hF:∀f,Fence.wide.fn f:=fun _=>trivial;rw[List.append_toArray];refine jvg (l:=[(0,.func (.yield l) #[] #[]),(1,pA Bs 0)]) Tryz.func108 rfl trivial rfl rfl rfl rfl ?_;intro Q hret hnorm a H hdf;have hc:W.cell? ⟨Bs,0,none⟩=some (.slice so ts.length ca):=(hW.cell (p:=⟨Bs,0,none⟩) hBl).trans hBs;refine qmd fun K1 hK1=>wpIn_region_lit ?_;refine qag (v:=.slice so ts.length ca) hF H rfl rfl rfl (by intro c h; cases h) (xa rfl (vw qtf hc)) fun a H h2=>?_;refine qag (v:=iV (ts.length:Nat)) hF H rfl rfl rfl (by intro c h; cases h) (zh Tryz.underlying28 rfl) fun a H h3=>?_;refine qag (v:=iV ((ts.length:Int)-1)) hF H rfl rfl rfl (by intro c h; cases h) (qb rfl rfl (ar_sub (in_i64 (by omega) (by omega)))) fun a H h4=>?_;refine qag (v:=iV ((ts.length:Int)-1)) hF H rfl rfl rfl (by intro c h; cases h) (zk rfl) fun a H h5=>?_;refine wpListIn_nil (hK1 _ _ (wpIn_block ?_));refine jvf (fun k a W'=>k≤ts.length∧Sd a 19 [(0,.func (.yield l) #[] #[]),(1,pA Bs 0),(3,iV ((k:Int)-1))]∧a.defers=[]∧KpB wA.heap.size Bs W W'∧∃pre,J pre W'∧pre.map (fun x=>x.1.2)=(ts.drop k).reverse) ts.length ⟨Nat.le_refl _,H.keep _ ⟨rfl,rfl,rfl,trivial⟩,by rw[h5,h4,h3,h2,hdf],KpB.refl _ _ _,[],h0,by rw[List.drop_length]; rfl⟩ ?_;rintro k a W' ⟨hk,H,hd,hKp,pre,hJp,hpre⟩;have hc':=hKp.2 _ hc;refine qmd fun K2 hK2=>qmd fun K3 hK3=>wpIn_region_lit ?_;refine qag (v:=iV ((k:Int)-1)) hF H rfl rfl rfl (by intro c h; cases h) (qx rfl) fun a H h2=>?_;refine qag (v:=bV (decide ((0:Int)≤(k:Int)-1))) hF H rfl rfl rfl (by intro c h; cases h) (qb rfl rfl jc) fun a H h3=>?_;refine wpListIn_nil (hK3 _ _ ?_);refine wpIn_cond_split (t:=decide ((0:Int)≤(k:Int)-1)) (H.ev rfl) (fun hq=>?_) (fun hq=>?_)
 ·have hq':=of_decide_eq_true hq;refine wpIn_skip (hK2 _ _ (qmd fun K4 hK4=>wpIn_block (qmd fun K5 hK5=>wpIn_region_lit ?_)));obtain⟨t1,b1,o1,it1,mt1,rt1,lt1,Ht1⟩:=jug hR hD (i:=k-1) (by omega);refine qag (v:=.func (.yield l) #[] #[]) hF H rfl rfl rfl (by intro c h; cases h) (qx rfl) fun a H h4=>?_;refine qag (v:=iV ((k:Int)-1)) hF H rfl rfl rfl (by intro c h; cases h) (qx rfl) fun a H h5=>?_;refine qag (v:=.slice so ts.length ca) hF H rfl rfl rfl (by intro c h; cases h) (xa rfl (vw qtf hc')) fun a H h6=>?_;refine qag (v:=iV ((k:Int)-1)) hF H rfl rfl rfl (by intro c h; cases h) (qx rfl) fun a H h7=>?_;refine qag (v:=pA b1 (o1+(k-1)*11)) hF H rfl rfl rfl (by intro c h; cases h) (js (k:=k-1) Tryz.underlying28 (by kernel_rfl) rfl rfl (by omega) lt1 (by omega)) fun a H h8=>?_;have hbW:Below wA.heap.size wA W':=(hb.trans (hW.mono hb.size)).trans hKp.1;refine qag (v:=.agg (t1.d.cells t1.ts.length).toArray) hF H rfl rfl rfl (by intro c h; cases h) (xa rfl (ko qdd _ rfl (fun j v hj=>(hbW.cell Ht1.1).trans (Ht1.2 j v hj)))) fun a H h9=>?_;have hlen:pre.length<ts.length:=by
   have:=congrArg List.length hpre;simp only[List.length_map,List.length_reverse,List.length_drop]at this;omega
  refine jnd (k:=l) (vs:=[iV ((k:Int)-1),.agg (t1.d.cells t1.ts.length).toArray]) (R:=fun b W2=>(b=true∧J (pre++[⟨((k:Int)-1,t1),rt1⟩]) W2∧KpB wA.heap.size Bs W' W2)∨(b=false∧Jx (pre++[⟨((k:Int)-1,t1),rt1⟩]) W2)) hF rfl H rfl rfl rfl (by intro c h; cases h) (zgc rfl rfl) ?_ ?_
  ·have:=hY pre ⟨((k:Int)-1,t1),rt1⟩ W' hJp hlen;obtain⟨fn,tmps,assign,body,e1,e2⟩:=this;refine⟨fn,tmps,assign,body,e1,e2.mono ?_⟩;rintro e W2 (⟨rfl,h1,h2⟩ | ⟨rfl,h1⟩)
   ·exact⟨true,rfl,.inl ⟨rfl,h1,h2⟩⟩
   ·exact⟨false,rfl,.inr ⟨rfl,h1⟩⟩
  ·rintro b W2 hR2 a H h10;refine qag (v:=bV (!b)) hF H rfl rfl rfl (by intro c h; cases h) (qp rfl ze) fun a H h11=>?_;refine wpListIn_nil (hK5 _ _ ?_);have hdd:a.defers=[]:=(by rw[h11,h10,h9,h8,h7,h6,h5,h4,h3,h2,hd]);rcases hR2 with⟨rfl,hJ2,hK2'⟩ | ⟨rfl,hJx2⟩
   ·refine wpIn_cond_false (H.ev rfl) (wpIn_skip (hK4 _ _ (wpIn_region_lit ?_)));refine qag (v:=iV ((k:Int)-1)) hF H rfl rfl rfl (by intro c h; cases h) (qx rfl) fun a H g1=>?_;refine qag (v:=iV (((k-1:Nat):Int)-1)) hF H rfl rfl rfl (by intro c h; cases h) (qb rfl rfl (ar_sub ((in_i64 (by omega) (by omega)).trans (by omega)))) fun a H g2=>?_;refine qag (v:=iV (((k-1:Nat):Int)-1)) hF H rfl rfl rfl (by intro c h; cases h) (zk rfl) fun a H g3=>?_;refine wpListIn_nil ?_;refine⟨k-1,by omega,by omega,H.keep _ ⟨rfl,rfl,rfl,trivial⟩,by rw[g3,g2,g1,hdd],hKp.trans hK2',_,hJ2,?_⟩;rw[List.map_append,hpre,List.drop_eq_getElem_cons (show k-1<ts.length by omega),List.reverse_cons,show k-1+1=k by omega]
    congr 1
    have:=(List.getElem?_eq_some_iff.1 it1).2;rw[this];rfl
   ·refine wpIn_cond_true (H.ev rfl) (wpIn_ret ?_);refine hret _ _ ?_;exact qch (rs:=[]) (vs:=[]) (v:=.tuple #[]) (H.sl hdd) rfl .nil rfl ⟨⟨_,rfl⟩,.inr ⟨_,trivial,hJx2⟩⟩
 ·have hq':=of_decide_eq_false hq;refine wpIn_exit ?_;obtain rfl:k=0:=by omega
  refine hnorm _ _ ?_;exact qch (rs:=[]) (vs:=[]) (v:=.tuple #[]) (H.sl (by rw[h3,h2,hd])) rfl .nil rfl ⟨⟨_,rfl⟩,.inl ⟨pre,hpre,hJp⟩⟩
theorem jcj{w:World}{so:Option Addr}{k ca:Nat}:Calls Tryz.prog 76 #[.slice so k ca] w fun e w'=>e=.returned (.func (.func 108) #[] #[pA w.heap.size 0])∧w'=w.alloc (.cells #[.slice so k ca] 28):=by
 refine qn (l:=[(0,.slice so k ca)]) Tryz.func76 rfl Tryz.ntmps76 rfl rfl ?_;intro Q hret hnorm hP a A;refine wsk fun K1 hK1=>wrl (yb (v:=pA w.heap.size 0) (w':=w.alloc (.cells #[.slice so k ca] 28)) A rfl rfl rfl (zd (vs:=[.slice so k ca]) rfl rfl) λa A=>?_);refine sda A λa A=>?_;refine qa (hK1 _ _ (wsk (fun K2 hK2=>wrl ?_)));refine sdo A (qjg rfl) λa A=>?_;refine sda A λa A=>?_;refine qa (hK2 _ _ (wp_ret (hret _ _ ?_)));exact qch (rs:=[.tmp 2]) A rfl (.cons (qj rfl) .nil) rfl ⟨rfl,rfl⟩
def ZC: List Value:=[iV 0,iV 0,bV false,.slice none 0 0,.slice none 0 0,bV false,.slice none 0 0,.slice none 0 0,.string ⟨#[]⟩,.slice none 0 0,.slice none 0 0]
theorem zgd{g1 g2:Nat}{v1 v2:Array Value}{t:TypeId}:∀c∈[Ck.obj g1 (.cells v1 t),Ck.obj g2 (.cells v2 t)],∃g vs t,c=Ck.obj g (.cells vs t):=by
 intro c hc;simp only[List.mem_cons,List.not_mem_nil,or_false]at hc;rcases hc with rfl | rfl
 ·exact⟨_,_,_,rfl⟩
 ·exact⟨_,_,_,rfl⟩
theorem jnf{ts:List Dt}{k:Nat}{t:Dt}(h:ts[k-1]?=some t)(hk:0<k):(ts.drop (k-1)).map Dt.tr=t.tr::(ts.drop k).map Dt.tr:=by
 obtain⟨hl,rfl⟩:=List.getElem?_eq_some_iff.1 h;rw[List.drop_eq_getElem_cons hl,show k-1+1=k by omega,List.map_cons]
theorem qyc{w:World}{so:Option Addr}{ca:Nat}{ts:List Dt}(hR:Rt w so ts)(hD:∀t∈ts,t.rd w){u:Dt}(hu:u.rd w)(hl:ts.length≤1000000000)(P:Nat→Prop)(hPn:∀b,w.heap.size≤b→P b)(hPt:∀t∈ts,t.at_ P)(hPu:u.at_ P):Calls Tryz.prog 13 #[.slice so ts.length ca,.agg (u.d.cells u.ts.length).toArray] w fun e w'=>∃t2:Dt,e=.returned (.agg (t2.d.cells t2.ts.length).toArray)∧(t2.rd w'∧t2.at_ P∧t2.tr=xe (ts.map Dt.tr) u.tr)∧Below w.heap.size w w':=by
 have M:Mg w w ([]):=Mg.start w;refine qn (l:=[(0,.slice so ts.length ca),(1,.agg (u.d.cells u.ts.length).toArray)]) Tryz.func13 rfl Tryz.ntmps13 rfl rfl ?_;intro Q hret hnorm hP a A;refine wsk fun K1 hK1=>wrl (xq (vs:=(u.d.cells u.ts.length)) (t:=30) A M rfl rfl rfl pg (zd rfl rfl) (by decide) ?_);intro g2 w3 M a A;refine xq (vs:=(yv.d.cells yv.ts.length)) (t:=30) A M rfl rfl rfl pg (qk (z:=.agg (yv.d.cells yv.ts.length).toArray) (by kernel_rfl) rfl) (by decide) ?_;intro g4 w5 M a A;refine qa (hK1 _ _ (wsk fun K6 hK6=>wsk fun K7 hK7=>wrl (sdm A λa A=>?_)));refine sdo A (zh Tryz.underlying28 rfl) λa A=>?_;refine sdo (v:=iV (((ts.length:Nat):Int)-1)) A (qb rfl rfl (ar_sub (in_i64 (by omega) (by omega)))) λa A=>?_;refine sda A λa A=>?_;refine qa (hK7 _ _ (wp_block ?_));have hge3:=(Ck.lt (M.has 1 rfl) g2 rfl).1;have hge4:=(Ck.lt (M.has 0 rfl) g4 rfl).1;refine jd (fun m_ a w1=>∃(k:Nat) (z:Dt),m_=1+k∧(k≤ts.length∧z.rd w1∧z.at_ (fun b=>b≠g2∧b≠g4)∧z.at_ P∧z.tr=xe ((ts.drop k).map Dt.tr) u.tr)∧Sl a 21 [(0,.slice so ts.length ca),(1,.agg (u.d.cells u.ts.length).toArray),(3,pA g2 0),(4,pA g4 0),(5,iV (((k:Nat):Int)-1)),(6,.slice so ts.length ca),(7,iV (((ts.length:Nat):Int))),(8,iV (((ts.length:Nat):Int)-1))]∧Mg w w1 (.obj g4 (.cells (yv.d.cells yv.ts.length).toArray 30)::.obj g2 (.cells (z.d.cells z.ts.length).toArray 30)::[])) _ ⟨ts.length,u,rfl,⟨Nat.le_refl _,Dt.keep M.bel _ hu,Dt.at_mono (fun b hb=>by constructor<;>omega) _ (Dt.at_lt _ hu),hPu,by rw[List.drop_length]; rfl⟩,A.keep _ (by repeat' constructor),M⟩ ?_;clear M A;rintro m_ a w8 ⟨k,z,rfl,hinv10,A,M⟩ K9 hK9;obtain⟨hk0,hzr,hza,hzp,hzt⟩:=hinv10;refine wsk fun K11 hK11=>wsk fun K12 hK12=>wrl (sdm A λa A=>?_);rcases tf (decide (0≤((k:Nat):Int)-1))with hb13 | hb13
 ·have hb13':=of_decide_eq_true hb13;refine sdc A jc hb13 λa A=>?_;refine qa (hK12 _ _ (ct A ?_));refine wp_skip (hK11 _ _ (wsk fun K14 hK14=>wp_block ?_));obtain⟨t1,bt1,ot1,it1,mt1,rt1_,lt1,Ht1⟩:=jug hR hD (i:=(k-1)) (by omega);have hl3:=(Ck.lt (M.has 1 rfl) g2 rfl).2;have hl4:=(Ck.lt (M.has 0 rfl) g4 rfl).2;refine jt (S:=fun w1=>Mg w w1 ([])) (by kernel_rfl) ?_;replace M:=M.drew;refine atk A 0 rfl hP (M.sub (cN (cN ns))) (λ_ M=>qx rfl) λa A=>?_;refine atk A 1 rfl hP (M.sub (cN (cN ns))) (λ_ M=>qx rfl) λa A=>?_;refine atk (v:=pA bt1 (ot1+(k-1)*11)) A 2 rfl hP (M.sub (cN (cN ns))) (λ_ M=>js (k:=(k-1)) Tryz.underlying28 (by kernel_rfl) rfl rfl (by omega) lt1 (by omega)) λa A=>?_;refine atk A 3 rfl hP (M.sub (cN (cN ns))) (λ_ M=>zr M Ht1 ji rfl rfl) λa A=>?_;refine zm (by kernel_rfl) (jbd A 4 rfl rfl rfl rfl (xn M ji rfl 1 rfl (cs:=(z.d.cells z.ts.length)) rfl rfl) (M.sub (cN (cN ns))) ?_);intro a A;replace hzr:z.rd w8.drew:=Dt.keep (Below.refl _ w8).drew _ hzr;have hdw:w8.drew.heap.size=w8.heap.size:=rfl;refine zm (by kernel_rfl) (juf (e:=30) (sz:=11) (m:=2) (vs:=zw [t1,z]) A M 5 rfl rfl rfl rfl (zp rfl (by kernel_rfl)) rfl rfl (by decide) ?_);intro g5 w15 M hg5 hb5;replace hzr:=Dt.keep hb5 _ hzr;refine⟨(M.sub (cN (cN (cN ns)))),?_⟩;intro a A;refine atk (v:=.agg ((kt g5 t1 z).d.cells (kt g5 t1 z).ts.length).toArray) A 6 rfl hP (M.sub (cN (cN (cN ns)))) (λ_ M=>qs rfl (fun w=>by kernel_rfl)) λa A=>?_;refine zm (by kernel_rfl) (jce (L':=(.row 30 11 (.slice (aO g5) 2 2) 2 (zw [t1,z])::.obj g4 (.cells (yv.d.cells yv.ts.length).toArray 30)::.obj g2 (.cells ((kt g5 t1 z).d.cells (kt g5 t1 z).ts.length).toArray 30)::[])) A M 7 rfl rfl rfl (qw (cs:=(kt g5 t1 z).d.cells (kt g5 t1 z).ts.length) rfl rfl rfl (by kernel_rfl) M 2 rfl rfl (qhi (kt g5 t1 z))) 2 rfl rfl rfl ?_);intro w16 M hK17;replace hzr:=Dt.kept hK17 _ hzr (Dt.at_mono (fun b hb=>hb.1) _ hza)
  have hr9:(kt g5 t1 z).rd w16:=qtb (Ck.lt (M.has 0 rfl) g5 rfl).2 (fun p v hp=>by
   obtain⟨b,o,e,hc⟩:=jue (M.has 0 rfl) (fun e=>by cases e);cases e
   have:=hc p v hp
   rwa [Nat.zero_add]at this) (Dt.keep M.bel _ rt1_) hzr
  have ha9:(kt g5 t1 z).at_ (fun b=>b≠g2∧b≠g4):=qtc ⟨by omega,by omega⟩ (Dt.at_mono (fun b hb=>by constructor<;>omega) _ (Dt.at_lt _ rt1_)) hza;have hp9:(kt g5 t1 z).at_ P:=qtc (hPn _ (by omega)) (hPt t1 mt1) hzp;refine⟨(M.sub (cN (cN (cN ns)))),?_⟩;refine zx (by kernel_rfl) ?_;refine hK14 _ _ (wrl (sdm A λa A=>?_));refine sdo (v:=iV (((k-1:Nat):Int)-1)) A (qb rfl rfl (ar_sub ((in_i64 (by omega) (by omega)).trans (by omega)))) λa A=>?_;refine sda A λa A=>?_;refine qa ?_;replace M:Mg w w16 (.obj g4 (.cells (yv.d.cells yv.ts.length).toArray 30)::.obj g2 (.cells ((kt g5 t1 z).d.cells (kt g5 t1 z).ts.length).toArray 30)::[]):=by
   have h9:=M.sub (cN (cC (cC (.refl _))));exact h9
  refine hK9 _ _ _ (by omega) ⟨k-1,(kt g5 t1 z),rfl,⟨by omega,hr9,ha9,hp9,by rw[zgb,hzt,jnf it1 (by omega)]; rfl⟩,A.keep _ (by repeat' constructor),M⟩
 ·have hb13':=of_decide_eq_false hb13;refine sdc A jc hb13 λa A=>?_;refine qa (hK12 _ _ (cf A ?_));refine wp_exit (hK6 _ _ (wsk fun K18 hK18=>wrl (sdo A (xn M ji rfl 1 rfl (cs:=(z.d.cells z.ts.length)) rfl rfl) λa A=>?_)));refine jcd (L':=(.obj g4 (.cells (z.d.cells z.ts.length).toArray 30)::.obj g2 (.cells (z.d.cells z.ts.length).toArray 30)::[])) A M rfl rfl (qw rfl rfl rfl (by kernel_rfl) M 0 rfl rfl rfl) 0 rfl rfl rfl ?_;intro w19 M hK20;replace hzr:=Dt.kept hK20 _ hzr (Dt.at_mono (fun b hb=>hb.2) _ hza);refine qa (hK18 _ _ (wp_ret (hret _ _ (en1 A rfl (zu M ji rfl 0 rfl (cs:=[iV z.d.k,iV z.d.n,bV z.d.y.q.b1,.slice z.d.y.o1 z.d.y.q.t1.length z.d.y.c1,.slice z.d.y.o2 z.d.y.q.q1.length z.d.y.c2,bV z.d.y.q.b2,.slice z.d.y.o3 z.d.y.q.t2.length z.d.y.c3,.slice z.d.y.o4 z.d.y.q.q2.length z.d.y.c4,.string z.d.s,.slice z.d.ro z.d.rl.length z.d.rc,.slice z.d.lo z.ts.length z.d.lc]) rfl rfl) ?_))));obtain rfl:k=0:=by omega
  exact⟨z,rfl,⟨hzr,hzp,hzt⟩,M.bel⟩
section
variable {P:Program} {ops:List Oper} {Q:Exit→Act→World→Prop} {a:Act} {w:World} {n:Nat} {l:List (Nat×Value)} {o:Oper} {rest:List Oper}
theorem qz(hA:Sl a n l)(hg:zb l ops o=true){d:Nat}(hdst:o.dst=some d)(hd:Nat.blt d n=true){f:FuncId}{vs:List Value}(he:Enters P l o w f vs)
    {R:Ending→World→Prop} (hc:Calls P f vs.toArray w R)
    (hk:∀e w',R e w'→(∃ch,e=.panicked ch∧Q (.panic ch) a w')∨∃v,e=.returned v∧∀a',Sl a' n ((d,v)::l)→wpList P ops.toArray Q rest a' w'):wpList P ops.toArray Q (o::rest) a w:=by
  unfold wpList;rw[if_pos (hA.wanted hg)];refine .inl ?_;unfold Oper.wp;rw[he a.eval (fun x u hx=>hA.ev hx),Oper.upon_enter];refine hc.mono ?_;intro e w' hR;rcases hk e w' hR with⟨ch,rfl,h⟩ | ⟨v,rfl,h⟩
  · exact h
  · simp only[hdst];exact h _ (hA.put hd v)
theorem zxc(hA:Sl a n l)(hg:zb l ops o=true){v:Value}(he:∀ρ:Operand→Value,(∀x u,ev l x=some u→ρ x=u)→(execOp ρ o).run P w=.halt (.panic v) w)(hk:Q (.panic [{ v:=v,recovered:=false }]) a w):wpList P ops.toArray Q (o::rest) a w:=by
  unfold wpList;rw[if_pos (hA.wanted hg)];refine .inl ?_;unfold Oper.wp;rw[he a.eval (fun x u hx=>hA.ev hx),Oper.upon_panic];exact hk
theorem jw{f:FuncId}{fn:Func}{c:Code}{args:List Value}{Z:Ending→World→Prop}(hf:P.funcs[f]?=some fn)(hb:fn.body=some c)(hn:fn.ntmps=n)(hl:Nat.ble args.length n=true)(hs:(args.zipIdx.map fun p=>(p.2,p.1))=l)
    (h:∀Q:Exit→Act→World→Prop,(∀a w,bodyPost P fn Z .ret a w→Q .ret a w)→(∀a w,bodyPost P fn Z .ret a w→Q .normal a w)→(∀c a d v w,Q (.panic c) (Act.put a d v) w→Q (.panic c) a w)→(∀ch a w m k,Sl a m k→Z (.panicked ch) w→Q (.panic ch) a w)→∀a,Sl a n l→c.wp P Q a w):Calls P f args.toArray w Z:=by
  subst hs;refine calls_of_wp hf hb (h _ (fun _ _ h=>h) (fun _ _ h=>h) (fun c a d v w h=>?_) (fun ch a w m k hA hz=>⟨hA.none_,hz⟩) _ ?_)
  · cases d<;>exact h
  · rw[hn];exact Sl.enter (Nat.le_of_ble_eq_true hl)
end
def tx(l:List UInt8):ByteArray:=⟨l.toArray⟩
abbrev rC(L:List UInt8)(p:Nat)(b:Bool):Obj:=.cells #[.string (tx L),.int .i64 ((p:Nat):Int),.bool b] 50
theorem jtc(s:ByteArray):tx s.data.toList=s:=by unfold tx; cases s; simp
theorem jx(l:List UInt8):(tx l).size=l.length:=by unfold tx; simp[ByteArray.size]
theorem xv(l:List UInt8):(tx l).data.toList=l:=by unfold tx; simp
section
variable {P:Program} {l:List (Nat×Value)} {dst:Option Tmp} {ty t:TypeId} {pos:String} {after:Array Edge} {guard:Option (Nat×Bool)} {w:World} {x y z:Operand} {s:List UInt8}
theorem xy(ht:P.underlying t=some .string)(hx:ev l x=some (.string (tx s))):Does P l ⟨dst,.call ⟨.builtin .len,#[x],#[t]⟩,ty,pos,after,guard⟩ w (.int .i64 ((s.length:Nat):Int)) w:=fun ρ h=>by
  have:=h x _ hx;rw[←jx];simp[go_sem,this,Builtin.len_,run_underlying ht,goInt]
theorem qde{i:Nat}{k:Int}{b:UInt8}(ht:P.underlying t=some .string)(hx:ev l x=some (.string (tx s)))(hy:ev l y=some (.int .i64 k))(hk:k=((i:Nat):Int))(hi:s[i]?=some b):Does P l ⟨dst,.index t x y,ty,pos,after,guard⟩ w (.int .u8 ((b.toNat:Nat):Int)) w:=fun ρ h=>by
  subst hk;have:=run_index_string (P:=P) w t (tx s) .i64 ((i:Nat):Int) ht;have hl:=(List.getElem?_eq_some_iff.1 hi).1;have hi':i<(tx s).size:=by rw[jx]; exact hl
  have e:b.toNat=((tx s)[i]'hi').toNat:=by
    have h2:=(List.getElem?_eq_some_iff.1 hi).2;rw[←h2];simp[tx,ByteArray.getElem_eq_getElem_data]
  rw[e];simp[execOp,h x _ hx,h y _ hy,this,hi']
theorem znc(s:List UInt8)(a b:Nat)(hb:b≤s.length):(tx s).extract a b=tx ((s.take b).drop a):=by
  apply ByteArray.ext;rw[ByteArray.data_extract];simp[tx,List.drop_take]
theorem kq{p:Nat}{k:Int}(ht:P.underlying t=some .string)(hx:ev l x=some (.string (tx s)))(hy:ev l y=some (.int .i64 k))(hk:k=((p:Nat):Int))(hp:p≤s.length):Does P l ⟨dst,.slice t x (some y) none none,ty,pos,after,guard⟩ w (.string (tx (s.drop p))) w:=fun ρ h=>by
  subst hk;have e:tx (s.drop p)=(tx s).extract p (tx s).size:=by rw[jx,znc _ _ _ (Nat.le_refl _),List.take_length]
  rw[e];have h0:p≤(tx s).size:=by rw[jx]; exact hp
  have h1:(0:Int)≤(p:Nat)∧((p:Nat):Int)≤((tx s).size:Int):=⟨by omega,by omega⟩;simp[execOp,h x _ hx,h y _ hy,Instr.sliceAt,Instr.slice,Instr.sliceBounds,Instr.sliceBound,asIntOf,run_underlying ht,h1];try (intro hc; omega)
theorem qah{p:Nat}{k:Int}(ht:P.underlying t=some .string)(hx:ev l x=some (.string (tx s)))(hy:ev l y=some (.int .i64 k))(hk:k=((p:Nat):Int))(hp:p≤s.length):Does P l ⟨dst,.slice t x none (some y) none,ty,pos,after,guard⟩ w (.string (tx (s.take p))) w:=fun ρ h=>by
  subst hk;have e:tx (s.take p)=(tx s).extract 0 p:=by rw[znc _ _ _ hp,List.drop_zero]
  rw[e];have h0:p≤(tx s).size:=by rw[jx]; exact hp
  have h1:(0:Int)≤(p:Nat)∧((p:Nat):Int)≤((tx s).size:Int):=⟨by omega,by omega⟩;simp[execOp,h x _ hx,h y _ hy,Instr.sliceAt,Instr.slice,Instr.sliceBounds,Instr.sliceBound,asIntOf,run_underlying ht,h1];try (intro hc; omega)
theorem znd{p q:Nat}{k m:Int}(ht:P.underlying t=some .string)(hx:ev l x=some (.string (tx s)))(hy:ev l y=some (.int .i64 k))(hz:ev l z=some (.int .i64 m))(hk:k=((p:Nat):Int))(hm:m=((q:Nat):Int))(hp:p≤q)(hq:q≤s.length):Does P l ⟨dst,.slice t x (some y) (some z) none,ty,pos,after,guard⟩ w (.string (tx ((s.take q).drop p))) w:=fun ρ h=>by
  subst hk hm;have e:tx ((s.take q).drop p)=(tx s).extract p q:=by rw[znc _ _ _ hq]
  rw[e];have h0:q≤(tx s).size:=by rw[jx]; exact hq
  have h1:(0:Int)≤(p:Nat)∧((p:Nat):Int)≤((q:Nat):Int)∧((q:Nat):Int)≤((tx s).size:Int):=⟨by omega,by omega,by omega⟩;have h2:(0:Int)≤(q:Nat):=by omega
  simp[execOp,h x _ hx,h y _ hy,h z _ hz,Instr.sliceAt,Instr.slice,Instr.sliceBounds,Instr.sliceBound,asIntOf,run_underlying ht,h1,h2];rw[if_pos h0,if_pos hp]
theorem je{a:Addr}(hx:ev l x=some (.pointer (some a))):Does P l ⟨dst,.nilCheck x,ty,pos,after,guard⟩ w (.pointer (some a)) w:=fun ρ h=>by
  simp only[execOp,h x _ hx,Sem.run_pure]
variable {a b:List UInt8}
theorem jtd(a b:List UInt8):((tx a).toList==(tx b).toList)=decide (a=b):=by
  rw[ByteArray.toList_eq,ByteArray.toList_eq,xv,xv];by_cases h:a=b
  · subst h; simp
  · rw[decide_eq_false h]; exact beq_false_of_ne h
theorem zl(hu:P.underlying t=some .string):∀w,(do eqGuard .eql t x y (.string (tx a)) (.string (tx b)); binOp .eql t (.string (tx a)) (.string (tx b)):Sem Value).run P w=.ok (.bool (decide (a=b))) w:=fun w=>by
  rw[←jtd];simp[go_sem,hu,run_underlying hu]
theorem jda(hu:P.underlying t=some .string):∀w,(do eqGuard .neq t x y (.string (tx a)) (.string (tx b)); binOp .neq t (.string (tx a)) (.string (tx b)):Sem Value).run P w=.ok (.bool (!(decide (a=b)))) w:=fun w=>by
  rw[←jtd];simp[go_sem,hu,run_underlying hu]
end
end Go.Proofs.YtgjohjfehgdgbaaGreatDoor.G
namespace Go.Proofs
open Go.Shelf
def Tryz.lays145_ren: Go.Shelf.Ren:=⟨fun | 145=>112 | 220=>137 | 219=>155 | 217=>133 | 225=>107 | 224=>106 | 267=>177 | 266=>152 | 314=>190 | n=>n,fun | 9=>9 | 4=>4 | 59=>135 | 3=>3 | 5=>5 | 46=>71 | 146=>187 | 51=>99 | n=>n,fun | 1=>2 | n=>n⟩
theorem Tryz.lays145: Go.Proofs.Lays.n145 Tryz.prog Tryz.lays145_ren:={
  mixed:=by kernel_rfl
  f145:=Tryz.func112.trans (congrArg some (by kernel_rfl))
  f217:=Tryz.func133.trans (congrArg some (by kernel_rfl))
  f219:=Tryz.func155.trans (congrArg some (by kernel_rfl))
  f220:=Tryz.func137.trans (congrArg some (by kernel_rfl))
  f224:=Tryz.func106.trans (congrArg some (by kernel_rfl))
  f225:=Tryz.func107.trans (congrArg some (by kernel_rfl))
  f266:=Tryz.func152.trans (congrArg some (by kernel_rfl))
  f267:=Tryz.func177.trans (congrArg some (by kernel_rfl))
  f314:=Tryz.func190.trans (congrArg some (by kernel_rfl))
  t3:=Tryz.underlying3
  a3:=Tryz.isAgg3
  z3:=Tryz.sizeOf3
  v3:=Tryz.zeroValue3
  t4:=Tryz.underlying4
  a4:=Tryz.isAgg4
  z4:=Tryz.sizeOf4
  v4:=Tryz.zeroValue4
  t5:=Tryz.underlying5
  a5:=Tryz.isAgg5
  z5:=Tryz.sizeOf5
  v5:=Tryz.zeroValue5
  t9:=Tryz.underlying9
  a9:=Tryz.isAgg9
  z9:=Tryz.sizeOf9
  v9:=Tryz.zeroValue9
  t46:=Tryz.underlying71
  a46:=Tryz.isAgg71
  z46:=Tryz.sizeOf71
  v46:=Tryz.zeroValue71
  t51:=Tryz.underlying99
  a51:=Tryz.isAgg99
  z51:=Tryz.sizeOf99
  v51:=Tryz.zeroValue99
  t59:=Tryz.underlying135
  a59:=Tryz.isAgg135
  z59:=Tryz.sizeOf135
  v59:=Tryz.zeroValue135
  t146:=Tryz.underlying187
  a146:=Tryz.isAgg187
  z146:=Tryz.sizeOf187
  v146:=Tryz.zeroValue187
  g1:=by kernel_rfl }
open Go.RowKit Go.Lib in
theorem Tryz.strings_Cut(s sep:ByteArray)(m:Int)(w:World)(hs:s.size<4294967281)(hm:w.cell? ⟨2,0,none⟩=some (.int .i64 m)):
    Calls Tryz.prog 112 #[.string s,.string sep] w fun e w'=>e=.returned (.tuple #[.string ⟨(Lib.cut s.data.toList sep.data.toList).1.toArray⟩,.string ⟨(Lib.cut s.data.toList sep.data.toList).2.1.toArray⟩,.bool (Lib.cut s.data.toList sep.data.toList).2.2])∧∃n,w'=w.drewN n:=Any.strings_Cut Tryz.lays145 s sep m w hs hm
def Tryz.lays99_ren: Go.Shelf.Ren:=⟨fun | 99=>52 | 206=>75 | n=>n,fun | 9=>9 | 4=>4 | 3=>3 | n=>n,fun | n=>n⟩
theorem Tryz.lays99: Go.Proofs.Lays.n99 Tryz.prog Tryz.lays99_ren:={
  mixed:=by kernel_rfl
  f99:=Tryz.func52.trans (congrArg some (by kernel_rfl))
  f206:=Tryz.func75.trans (congrArg some (by kernel_rfl))
  t3:=Tryz.underlying3
  a3:=Tryz.isAgg3
  z3:=Tryz.sizeOf3
  v3:=Tryz.zeroValue3
  t4:=Tryz.underlying4
  a4:=Tryz.isAgg4
  z4:=Tryz.sizeOf4
  v4:=Tryz.zeroValue4
  t9:=Tryz.underlying9
  a9:=Tryz.isAgg9
  z9:=Tryz.sizeOf9
  v9:=Tryz.zeroValue9 }
open Go.RowKit Go.Lib in
theorem Tryz.strings_HasPrefix(s p:ByteArray)(w:World):
    Calls Tryz.prog 52 #[.string s,.string p] w fun e w'=>e=.returned (.bool (Lib.hasPrefix s.data.toList p.data.toList))∧w'=w:=Any.strings_HasPrefix Tryz.lays99 s p w
def Tryz.lays152_ren: Go.Shelf.Ren:=⟨fun | 152=>71 | 137=>105 | 119=>67 | 224=>106 | 225=>107 | 217=>133 | 266=>152 | n=>n,fun | 9=>9 | 21=>21 | 3=>3 | 4=>4 | 5=>5 | 0=>0 | 46=>71 | n=>n,fun | n=>n⟩
theorem Tryz.lays152: Go.Proofs.Lays.n152 Tryz.prog Tryz.lays152_ren:={
  mixed:=by kernel_rfl
  f119:=Tryz.func67.trans (congrArg some (by kernel_rfl))
  f137:=Tryz.func105.trans (congrArg some (by kernel_rfl))
  f152:=Tryz.func71.trans (congrArg some (by kernel_rfl))
  f217:=Tryz.func133.trans (congrArg some (by kernel_rfl))
  f224:=Tryz.func106.trans (congrArg some (by kernel_rfl))
  f225:=Tryz.func107.trans (congrArg some (by kernel_rfl))
  f266:=Tryz.func152.trans (congrArg some (by kernel_rfl))
  t0:=Tryz.underlying0
  a0:=Tryz.isAgg0
  z0:=Tryz.sizeOf0
  v0:=Tryz.zeroValue0
  t3:=Tryz.underlying3
  a3:=Tryz.isAgg3
  z3:=Tryz.sizeOf3
  v3:=Tryz.zeroValue3
  t4:=Tryz.underlying4
  a4:=Tryz.isAgg4
  z4:=Tryz.sizeOf4
  v4:=Tryz.zeroValue4
  t5:=Tryz.underlying5
  a5:=Tryz.isAgg5
  z5:=Tryz.sizeOf5
  v5:=Tryz.zeroValue5
  t9:=Tryz.underlying9
  a9:=Tryz.isAgg9
  z9:=Tryz.sizeOf9
  v9:=Tryz.zeroValue9
  t21:=Tryz.underlying21
  a21:=Tryz.isAgg21
  z21:=Tryz.sizeOf21
  v21:=Tryz.zeroValue21
  t46:=Tryz.underlying71
  a46:=Tryz.isAgg71
  z46:=Tryz.sizeOf71
  v46:=Tryz.zeroValue71 }
open Go.RowKit Go.Lib in
theorem Tryz.strings_IndexRune_ascii(s:ByteArray)(r:Int)(w:World)(h0:0≤r)(h1:r<128):
    Calls Tryz.prog 71 #[.string s,.int .i32 r] w fun e w'=>e=.returned (.int .i64 (Lib.indexByte s.data.toList r.toNat.toUInt8))∧w'=w:=Any.strings_IndexRune_ascii Tryz.lays152 s r w h0 h1
def Tryz.lays197_ren: Go.Shelf.Ren:=⟨fun | 197=>29 | 260=>50 | n=>n,fun | 9=>9 | 21=>21 | 3=>3 | 4=>4 | 5=>5 | 105=>59 | 119=>67 | 0=>0 | 46=>71 | 139=>70 | 138=>69 | n=>n,fun | 3=>0 | 4=>1 | n=>n⟩
theorem Tryz.lays197: Go.Proofs.Lays.n197 Tryz.prog Tryz.lays197_ren:={
  mixed:=by kernel_rfl
  f197:=Tryz.func29.trans (congrArg some (by kernel_rfl))
  f260:=Tryz.func50.trans (congrArg some (by kernel_rfl))
  t0:=Tryz.underlying0
  a0:=Tryz.isAgg0
  z0:=Tryz.sizeOf0
  v0:=Tryz.zeroValue0
  t3:=Tryz.underlying3
  a3:=Tryz.isAgg3
  z3:=Tryz.sizeOf3
  v3:=Tryz.zeroValue3
  t4:=Tryz.underlying4
  a4:=Tryz.isAgg4
  z4:=Tryz.sizeOf4
  v4:=Tryz.zeroValue4
  t5:=Tryz.underlying5
  a5:=Tryz.isAgg5
  z5:=Tryz.sizeOf5
  v5:=Tryz.zeroValue5
  t9:=Tryz.underlying9
  a9:=Tryz.isAgg9
  z9:=Tryz.sizeOf9
  v9:=Tryz.zeroValue9
  t21:=Tryz.underlying21
  a21:=Tryz.isAgg21
  z21:=Tryz.sizeOf21
  v21:=Tryz.zeroValue21
  t46:=Tryz.underlying71
  a46:=Tryz.isAgg71
  z46:=Tryz.sizeOf71
  v46:=Tryz.zeroValue71
  t105:=Tryz.underlying59
  a105:=Tryz.isAgg59
  z105:=Tryz.sizeOf59
  v105:=Tryz.zeroValue59
  t119:=Tryz.underlying67
  a119:=Tryz.isAgg67
  z119:=Tryz.sizeOf67
  t138:=Tryz.underlying69
  a138:=Tryz.isAgg69
  z138:=Tryz.sizeOf69
  v138:=Tryz.zeroValue69
  t139:=Tryz.underlying70
  a139:=Tryz.isAgg70
  z139:=Tryz.sizeOf70
  v139:=Tryz.zeroValue70
  g3:=by kernel_rfl
  g4:=by kernel_rfl }
open Go.RowKit Go.Lib in
theorem Tryz.utf8_DecodeRuneInString(s:ByteArray)(w:World)(hT:Lib.Utf8Tabs 0 1 w):
    Calls Tryz.prog 29 #[.string s] w fun e w'=>e=.returned (.tuple #[.int .i32 (Lib.decodeGo s).1,.int .i64 (Lib.decodeGo s).2])∧Below w.heap.size w w':=Any.utf8_DecodeRuneInString Tryz.lays197 s w hT
end Go.Proofs
namespace Go.Proofs.YtgjohjfehgdgbaaGreatDoor.G
open Go.RowKit
set_option maxRecDepth 100000
theorem RdA_is1_3: Is1 Tryz.prog 3:=⟨⟨_,Tryz.underlying3,rfl⟩,by kernel_rfl⟩
theorem RdA_is1_9: Is1 Tryz.prog 9:=⟨⟨_,Tryz.underlying9,rfl⟩,by kernel_rfl⟩
theorem RdA_fld_50_0: FieldAt Tryz.prog 50 0 0:=⟨_,_,Tryz.underlying50,rfl,rfl,by kernel_rfl⟩
theorem RdA_fld_50_1: FieldAt Tryz.prog 50 1 1:=⟨_,_,Tryz.underlying50,rfl,rfl,by kernel_rfl⟩
def flt: List PanicEntry:=[{ v:=.iface 47 (.agg #[]),recovered:=false }]
theorem jdb{P:Program}{w:World}{l:List (Nat×Value)}{dst:Option Tmp}{ty t:TypeId}{pos:String}{after:Array Edge}{guard:Option (Nat×Bool)}{x:Operand}{v:Value}(ht:P.concrete t=true)(hx:ev l x=some v):Does P l ⟨dst,.makeInterface t x,ty,pos,after,guard⟩ w (.iface t v) w:=fun ρ h=>by
 simp[execOp,h x _ hx,run_makeInterface w t v ht]
theorem yh{w:World}:Calls Tryz.prog 23 #[bV true] w fun e w'=>e=.returned (.tuple #[])∧Below w.heap.size w w':=by
 have M:Mg w w ([]):=Mg.start w;refine qn (l:=[(0,bV true)]) Tryz.func23 rfl Tryz.ntmps23 rfl rfl ?_;intro Q hret hnorm hP a A;refine wsk fun K1 hK1=>wrl (sdm A λa A=>?_);refine sdo (v:=bV false) A (qp rfl ze) λa A=>?_;refine qa (hK1 _ _ (cf A ?_));refine wp_skip (hnorm _ _ (qch (v:=.tuple #[]) A rfl .nil rfl ?_));exact⟨rfl,M.bel⟩
theorem vz{w:World}:Calls Tryz.prog 23 #[bV false] w fun e w'=>e=.panicked flt∧Below w.heap.size w w':=by
 have M:Mg w w ([]):=Mg.start w;refine jw (l:=[(0,bV false)]) Tryz.func23 rfl Tryz.ntmps23 rfl rfl ?_;intro Q hret hnorm hP hX a A;refine wsk fun K1 hK1=>wrl (sdm A λa A=>?_);refine sdo (v:=bV true) A (qp rfl ze) λa A=>?_;refine qa (hK1 _ _ (ct A ?_));refine wrl (sdo (v:=.agg #[]) A (qs rfl (fun w=>by kernel_rfl)) λa A=>?_);refine sdo (v:=.iface 47 (.agg #[])) A (jdb (by kernel_rfl) rfl) λa A=>?_;refine zxc (v:=.iface 47 (.agg #[])) A rfl (fun ρ h=>by simp only[execOp,h (.tmp 5) _ rfl]; rfl) ?_;exact hX _ _ _ _ _ A ⟨rfl,M.bel⟩
theorem vd{w0 w:World}{g p:Nat}{lg:Bool}{L:List UInt8}{T:List Ck}(hp:p≤L.length)(hM0:Mg w0 w (.obj g (rC L p lg)::T)):Calls Tryz.prog 21 #[pA g 0] w fun e w'=>e=.returned (.string (tx (L.drop p)))∧Mg w0 w' (.obj g (rC L p lg)::T):=by
 have M:Mg w0 w (.obj g (rC L p lg)::T):=hM0;refine qn (l:=[(0,pA g 0)]) Tryz.func21 rfl Tryz.ntmps21 rfl rfl ?_;intro Q hret hnorm hP a A;refine wsk fun K1 hK1=>wrl (sda A λa A=>?_);refine qa (hK1 _ _ (wsk fun K2 hK2=>jt (S:=fun w1=>Mg w0 w1 (.obj g (rC L p lg)::[])) (by kernel_rfl) ?_));replace M:=M.drew;refine amv A 0 rfl hP (M.sub (cC ns)) λa A=>?_;refine atk A 1 rfl hP (M.sub (cC ns)) (λ_ M=>je rfl) λa A=>?_;refine atk (v:=pA g 0) A 2 rfl hP (M.sub (cC ns)) (λ_ M=>qe RdA_fld_50_0 rfl rfl) λa A=>?_;refine atk A 3 rfl hP (M.sub (cC ns)) (λ_ M=>qt M RdA_is1_9 rfl 0 rfl rfl) λa A=>?_;refine amv A 4 rfl hP (M.sub (cC ns)) λa A=>?_;refine atk A 5 rfl hP (M.sub (cC ns)) (λ_ M=>je rfl) λa A=>?_;refine atk (v:=pA g 1) A 6 rfl hP (M.sub (cC ns)) (λ_ M=>qe RdA_fld_50_1 rfl rfl) λa A=>?_;refine atk A 7 rfl hP (M.sub (cC ns)) (λ_ M=>qt M RdA_is1_3 rfl 0 rfl rfl) λa A=>?_;refine atk (v:=.string ((tx (L.drop p)))) A 8 rfl hP (M.sub (cC ns)) (λ_ M=>kq (s:=L) (p:=p) Tryz.underlying9 rfl rfl rfl (by omega)) λa A=>?_;refine atk A 9 rfl hP (M.sub (cC ns)) (λ_ M=>zk rfl) λa A=>?_;refine zx (by kernel_rfl) ?_;refine hK2 _ _ (wr1 hret A ?_);exact⟨rfl,M⟩
theorem RdB_is1_3: Is1 Tryz.prog 3:=⟨⟨_,Tryz.underlying3,rfl⟩,by kernel_rfl⟩
theorem RdB_fld_50_1: FieldAt Tryz.prog 50 1 1:=⟨_,_,Tryz.underlying50,rfl,rfl,by kernel_rfl⟩
def dcX(l:List UInt8):Nat×Nat:=Lib.decodeGo (tx l)
theorem jng: dcX []=(65533,0):=rfl
theorem yi{l:List UInt8}(h:l≠[]):dcX l=Lib.decodeL l:=by
 unfold dcX Lib.decodeGo;rw[if_neg (by rw[jx]; exact fun k=>h (List.length_eq_zero_iff.1 k))];rfl
theorem jg{l:List UInt8}(h:l≠[]):1≤(dcX l).2∧(dcX l).2≤l.length:=by
 rw[yi h];exact yp l h
theorem zne(l:List UInt8):(dcX l).2≤l.length:=by
 by_cases h:l=[]
 ·subst h; exact Nat.le_refl _
 ·exact(jg h).2
theorem qyd{w:World}{s t:List UInt8}{b:Bool}(h:Lib.hasPrefix s t=b):Calls Tryz.prog 52 #[.string (tx s),.string (tx t)] w fun e w'=>e=.returned (bV b)∧Below w.heap.size w w':=
 (Tryz.strings_HasPrefix (tx s) (tx t) w).mono fun e w' h1=>⟨by rw[h1.1,xv,xv,h],by rw[h1.2]; exact Below.refl _ _⟩
def Tb(w:World):Prop:=Lib.Utf8Tabs (Tryz.lays197_ren.g 3) (Tryz.lays197_ren.g 4) w
theorem Tb.below{w w':World}(h:Tb w)(hb:Below w.heap.size w w'):Tb w':=Utf8Tabs_below h hb
theorem qof{w:World}{l:List UInt8}(hT:Tb w):Calls Tryz.prog 29 #[.string (tx l)] w fun e w'=>e=.returned (.tuple #[.int .i32 (((dcX l).1:Nat):Int),iV (((dcX l).2:Nat):Int)])∧Below w.heap.size w w':=Tryz.utf8_DecodeRuneInString (tx l) w hT
theorem kg{w0 w:World}{g p:Nat}{lg:Bool}{L:List UInt8}{T:List Ck}{t:List UInt8}(hp:p≤L.length)(hl:L.length≤1000000000)(hh:Lib.hasPrefix (L.drop p) t=true)(hM0:Mg w0 w (.obj g (rC L p lg)::T)):Calls Tryz.prog 32 #[pA g 0,.string (tx t)] w fun e w'=>e=.returned (bV true)∧Mg w0 w' (.obj g (rC L (p+t.length) lg)::T):=by
 have htl:=(List.isPrefixOf_iff_prefix.1 hh).length_le;rw[List.length_drop]at htl;have M:Mg w0 w (.obj g (rC L p lg)::T):=hM0;refine qn (l:=[(0,pA g 0),(1,.string ((tx t)))]) Tryz.func32 rfl Tryz.ntmps32 rfl rfl ?_;intro Q hret hnorm hP a A;refine wsk fun K1 hK1=>wrl (sda A λa A=>?_);refine qa (hK1 _ _ (wsk fun K2 hK2=>wsk fun K3 hK3=>wrl (sdm A λa A=>?_)));refine sct A (ef rfl rfl) (vd (p:=p) (L:=L) (T:=(T)) (by omega) M) ?_;rintro _ w5 ⟨rfl,hM4⟩;replace M:Mg w0 w5 (.obj g (rC L p lg)::T):=hM4;refine⟨_,rfl,?_⟩;intro a A;refine sdm A λa A=>?_;refine gcl A M (ef rfl rfl) ((qyd hh)) fun w7 hb6 M a A=>?_;refine sdo (v:=bV false) A (qp rfl ze) λa A=>?_;refine qa (hK3 _ _ (cf A ?_));refine wp_skip (hK2 _ _ (wsk fun K8 hK8=>wrl (sdm A λa A=>?_)));refine sdo A (je rfl) λa A=>?_;refine sdo (v:=pA g 1) A (qe RdB_fld_50_1 rfl rfl) λa A=>?_;refine sdo A (qt M RdB_is1_3 rfl 0 rfl rfl) λa A=>?_;refine sdm A λa A=>?_;refine sdo (v:=iV (((t.length:Nat):Int))) A (xy (s:=t) Tryz.underlying9 rfl) λa A=>?_;refine sdo (v:=iV (((p+t.length:Nat):Int))) A (qb rfl rfl (ar_add ((in_i64 (by omega) (by omega)).trans (by omega)))) λa A=>?_;refine sdo A (je rfl) λa A=>?_;refine sdo (v:=pA g 1) A (qe RdB_fld_50_1 rfl rfl) λa A=>?_;refine zi (L':=(.obj g (rC L (p+t.length) lg)::T)) A M rfl rfl (qw rfl rfl rfl (by kernel_rfl) M 0 rfl rfl rfl) 0 rfl rfl rfl ?_;intro w9 M;refine qa (hK8 _ _ (wsk fun K10 hK10=>wrl (sda A λa A=>?_)));refine qa (hK10 _ _ (wr1 hret A ?_));exact⟨rfl,M⟩
theorem kv{w0 w:World}{g p:Nat}{lg:Bool}{L:List UInt8}{T:List Ck}{t:List UInt8}(hp:p≤L.length)(hl:L.length≤1000000000)(hh:Lib.hasPrefix (L.drop p) t=false)(hM0:Mg w0 w (.obj g (rC L p lg)::T)):Calls Tryz.prog 32 #[pA g 0,.string (tx t)] w fun e w'=>e=.returned (bV false)∧Mg w0 w' (.obj g (rC L p lg)::T):=by
 have M:Mg w0 w (.obj g (rC L p lg)::T):=hM0;refine qn (l:=[(0,pA g 0),(1,.string ((tx t)))]) Tryz.func32 rfl Tryz.ntmps32 rfl rfl ?_;intro Q hret hnorm hP a A;refine wsk fun K1 hK1=>wrl (sda A λa A=>?_);refine qa (hK1 _ _ (wsk fun K2 hK2=>wsk fun K3 hK3=>wrl (sdm A λa A=>?_)));refine sct A (ef rfl rfl) (vd (p:=p) (L:=L) (T:=(T)) (by omega) M) ?_;rintro _ w5 ⟨rfl,hM4⟩;replace M:Mg w0 w5 (.obj g (rC L p lg)::T):=hM4;refine⟨_,rfl,?_⟩;intro a A;refine sdm A λa A=>?_;refine gcl A M (ef rfl rfl) ((qyd hh)) fun w7 hb6 M a A=>?_;refine sdo (v:=bV true) A (qp rfl ze) λa A=>?_;refine qa (hK3 _ _ (ct A ?_));refine wsk fun K8 hK8=>wrl (sda A λa A=>?_);refine qa (hK8 _ _ (wr1 hret A ?_));exact⟨rfl,M⟩
theorem qrf{w0 w:World}{g p:Nat}{lg:Bool}{L:List UInt8}{T:List Ck}(hT:Tb w0)(hp:p≤L.length)(hl:L.length≤1000000000)(hne:L.drop p≠[])(hM0:Mg w0 w (.obj g (rC L p lg)::T)):Calls Tryz.prog 53 #[pA g 0] w fun e w'=>e=.returned (.int .i32 (((dcX (L.drop p)).1:Nat):Int))∧Mg w0 w' (.obj g (rC L (p+(dcX (L.drop p)).2) lg)::T):=by
 obtain⟨hw1,hw2⟩:=jg hne;rw[List.length_drop]at hw2;have M:Mg w0 w (.obj g (rC L p lg)::T):=hM0;refine qn (l:=[(0,pA g 0)]) Tryz.func53 rfl Tryz.ntmps53 rfl rfl ?_;intro Q hret hnorm hP a A;refine wsk fun K1 hK1=>wrl (sda A λa A=>?_);refine qa (hK1 _ _ (wsk fun K2 hK2=>wrl (sdm A λa A=>?_)));refine sct A (ef rfl rfl) (vd (p:=p) (L:=L) (T:=(T)) (by omega) M) ?_;rintro _ w4 ⟨rfl,hM3⟩;replace M:Mg w0 w4 (.obj g (rC L p lg)::T):=hM3;refine⟨_,rfl,?_⟩;intro a A;refine gcl A M (ef rfl rfl) (qof (l:=L.drop p) (hT.below M.bel)) fun w6 hb5 M a A=>?_;refine sdm A λa A=>?_;iterate 2 refine sdo A (qi (vs:=[.int .i32 ((((dcX (L.drop p)).1:Nat):Int)),iV ((((dcX (L.drop p)).2:Nat):Int))]) rfl rfl) λa A=>?_
 iterate 2 refine sda A λa A=>?_
 refine qa (hK2 _ _ (wsk fun K7 hK7=>wrl (sdm A λa A=>?_)));refine sdo (v:=bV true) A (qb rfl rfl (fun w=>(zn w).trans (by rw[show(decide (0<(((dcX (L.drop p)).2:Nat):Int)))=true from(decide_eq_true (by omega))]))) λa A=>?_;refine gcl A M (ef rfl rfl) (yh) fun w9 hb8 M a A=>?_;refine qa (hK7 _ _ (wsk fun K10 hK10=>wrl (sdm A λa A=>?_)));refine sdo A (je rfl) λa A=>?_;refine sdo (v:=pA g 1) A (qe RdB_fld_50_1 rfl rfl) λa A=>?_;refine sdo A (qt M RdB_is1_3 rfl 0 rfl rfl) λa A=>?_;refine sdm A λa A=>?_;refine sdo (v:=iV (((p+(dcX (L.drop p)).2:Nat):Int))) A (qb rfl rfl (ar_add ((in_i64 (by omega) (by omega)).trans (by omega)))) λa A=>?_;refine sdo A (je rfl) λa A=>?_;refine sdo (v:=pA g 1) A (qe RdB_fld_50_1 rfl rfl) λa A=>?_;refine zi (L':=(.obj g (rC L (p+(dcX (L.drop p)).2) lg)::T)) A M rfl rfl (qw rfl rfl rfl (by kernel_rfl) M 0 rfl rfl rfl) 0 rfl rfl rfl ?_;intro w11 M;refine qa (hK10 _ _ (wsk fun K12 hK12=>wrl (sdm A λa A=>?_)));refine sda A λa A=>?_;refine qa (hK12 _ _ (wr1 hret A ?_));exact⟨rfl,M⟩
theorem qtg{w0 w:World}{g p:Nat}{lg:Bool}{L:List UInt8}{T:List Ck}(hT:Tb w0)(hp:p≤L.length)(hl:L.length≤1000000000)(hne:L.drop p=[])(hM0:Mg w0 w (.obj g (rC L p lg)::T)):Calls Tryz.prog 53 #[pA g 0] w fun e w'=>e=.panicked flt∧Mg w0 w' (.obj g (rC L p lg)::T):=by
 have hw1:(dcX (L.drop p)).2=0:=by rw[hne]; rfl
 have M:Mg w0 w (.obj g (rC L p lg)::T):=hM0;refine jw (l:=[(0,pA g 0)]) Tryz.func53 rfl Tryz.ntmps53 rfl rfl ?_;intro Q hret hnorm hP hX a A;refine wsk fun K1 hK1=>wrl (sda A λa A=>?_);refine qa (hK1 _ _ (wsk fun K2 hK2=>wrl (sdm A λa A=>?_)));refine sct A (ef rfl rfl) (vd (p:=p) (L:=L) (T:=(T)) (by omega) M) ?_;rintro _ w4 ⟨rfl,hM3⟩;replace M:Mg w0 w4 (.obj g (rC L p lg)::T):=hM3;refine⟨_,rfl,?_⟩;intro a A;refine gcl A M (ef rfl rfl) (qof (l:=L.drop p) (hT.below M.bel)) fun w6 hb5 M a A=>?_;refine sdm A λa A=>?_;iterate 2 refine sdo A (qi (vs:=[.int .i32 ((((dcX (L.drop p)).1:Nat):Int)),iV ((((dcX (L.drop p)).2:Nat):Int))]) rfl rfl) λa A=>?_
 iterate 2 refine sda A λa A=>?_
 refine qa (hK2 _ _ (wsk fun K7 hK7=>wrl (sdm A λa A=>?_)));refine sdo (v:=bV false) A (qb rfl rfl (fun w=>(zn w).trans (by rw[show(decide (0<(((dcX (L.drop p)).2:Nat):Int)))=false from(decide_eq_false (by omega))]))) λa A=>?_;refine qz A rfl rfl rfl (ef rfl rfl) (vz) ?_;rintro _ w9 ⟨rfl,hp10⟩;exact .inl ⟨_,rfl,hX _ _ _ _ _ A (⟨rfl,M.call hp10⟩)⟩
def qai(b:UInt8):Bool:=(decide (48≤((b.toNat:Nat):Int))&&decide (((b.toNat:Nat):Int)≤57))||((decide (97≤((b.toNat:Nat):Int))&&decide (((b.toNat:Nat):Int)≤102))||(decide (65≤((b.toNat:Nat):Int))&&decide (((b.toNat:Nat):Int)≤70)))
def hxN: List UInt8→Nat
 | [] => 0
 | b :: t => if qai b = true then hxN t + 1 else 0
theorem jnh{l:List UInt8}{i:Nat}{b:UInt8}(h:l[i]?=some b)(hb:qai b=true):hxN (l.drop i)=hxN (l.drop (i+1))+1:=by
 obtain⟨hl,e⟩:=List.getElem?_eq_some_iff.1 h;rw[List.drop_eq_getElem_cons hl,e,hxN,if_pos hb]
theorem qia{l:List UInt8}{i:Nat}{b:UInt8}(h:l[i]?=some b)(hb:qai b=false):hxN (l.drop i)=0:=by
 obtain⟨hl,e⟩:=List.getElem?_eq_some_iff.1 h;rw[List.drop_eq_getElem_cons hl,e,hxN,if_neg (by rw[hb]; decide)]
theorem qib{l:List UInt8}{i:Nat}(h:¬i<l.length):hxN (l.drop i)=0:=by
 rw[List.drop_eq_nil_of_le (by omega),hxN]
theorem jdc: ∀l:List UInt8,hxN l≤l.length
 | [] => Nat.le_refl _
 | b :: t => by
  have:=jdc t;unfold hxN
  split<;>simp<;>omega
def ve(l:List UInt8):Nat:=(dcX l).2+hxN (l.drop (dcX l).2)+(if(decide (0<hxN (l.drop (dcX l).2))&&Lib.hasPrefix (l.drop ((dcX l).2+hxN (l.drop (dcX l).2))) [59])=true then 1 else 0)
theorem zge(l:List UInt8):ve l≤l.length:=by
 have h1:=zne l;have h2:=jdc (l.drop (dcX l).2);rw[List.length_drop]at h2;unfold ve
 split
 ·rename_i h;rw[Bool.and_eq_true]at h;have h3:1≤(l.drop ((dcX l).2+hxN (l.drop (dcX l).2))).length:=(List.isPrefixOf_iff_prefix.1 h.2).length_le;rw[List.length_drop]at h3;omega
 ·omega
theorem jni{w:World}{b:UInt8}:Calls Tryz.prog 116 #[.int .u8 ((b.toNat:Nat):Int)] w fun e w'=>e=.returned (bV (qai b))∧Below w.heap.size w w':=by
 have M:Mg w w ([]):=Mg.start w;refine qn (l:=[(0,.int .u8 (((b.toNat:Nat):Int)))]) Tryz.func116 rfl Tryz.ntmps116 rfl rfl ?_;intro Q hret hnorm hP a A;refine wsk fun K1 hK1=>wrl (sda A λa A=>?_);refine qa (hK1 _ _ (wsk fun K2 hK2=>wrl (sdm A λa A=>?_)));rcases tf (decide (48≤((b.toNat:Nat):Int)))with hb3 | hb3
 ·have hb3':=of_decide_eq_true hb3;refine sdc A jc hb3 λa A=>?_;iterate 2 refine sdm A λa A=>?_
  rcases tf (decide (((b.toNat:Nat):Int)≤57))with hb4 | hb4
  ·have hb4':=of_decide_eq_true hb4;refine sdc A jh hb4 λa A=>?_;refine sdk (v:=bV true) A λa A=>?_;refine sdm A λa A=>?_;iterate 3 refine qf A rfl rfl rfl λa A=>?_
   iterate 2 refine xx A rfl rfl rfl λa A=>?_
   refine qf A rfl rfl rfl λa A=>?_;refine sdk (v:=bV true) A λa A=>?_;refine sdm A λa A=>?_;iterate 3 refine qf A rfl rfl rfl λa A=>?_
   iterate 2 refine xx A rfl rfl rfl λa A=>?_
   refine qf A rfl rfl rfl λa A=>?_;refine sdk (v:=bV true) A λa A=>?_;refine sda A λa A=>?_;refine qa (hK2 _ _ (wr1 hret A ?_));exact⟨by unfold qai; rw[hb3,hb4]; rfl,M.bel⟩
  ·have hb4':=of_decide_eq_false hb4;refine sdc A jh hb4 λa A=>?_;refine sdk (v:=bV false) A λa A=>?_;iterate 2 refine sdm A λa A=>?_
   rcases tf (decide (97≤((b.toNat:Nat):Int)))with hb5 | hb5
   ·have hb5':=of_decide_eq_true hb5;refine sdc A jc hb5 λa A=>?_;iterate 2 refine sdm A λa A=>?_
    rcases tf (decide (((b.toNat:Nat):Int)≤102))with hb6 | hb6
    ·have hb6':=of_decide_eq_true hb6;refine sdc A jh hb6 λa A=>?_;iterate 2 refine sdk (v:=bV true) A λa A=>?_
     refine sdm A λa A=>?_;iterate 3 refine qf A rfl rfl rfl λa A=>?_
     iterate 2 refine xx A rfl rfl rfl λa A=>?_
     refine qf A rfl rfl rfl λa A=>?_;refine sdk (v:=bV true) A λa A=>?_;refine sda A λa A=>?_;refine qa (hK2 _ _ (wr1 hret A ?_));exact⟨by unfold qai; rw[hb3,hb4,hb5,hb6]; rfl,M.bel⟩
    ·have hb6':=of_decide_eq_false hb6;refine sdc A jh hb6 λa A=>?_;iterate 2 refine sdk (v:=bV false) A λa A=>?_
     iterate 2 refine sdm A λa A=>?_
     rcases tf (decide (65≤((b.toNat:Nat):Int)))with hb7 | hb7
     ·have hb7':=of_decide_eq_true hb7;refine sdc A jc hb7 λa A=>?_;iterate 2 refine sdm A λa A=>?_
      rcases tf (decide (((b.toNat:Nat):Int)≤70))with hb8 | hb8
      ·have hb8':=of_decide_eq_true hb8;refine sdc A jh hb8 λa A=>?_;iterate 2 refine sdk (v:=bV true) A λa A=>?_
       refine sda A λa A=>?_;refine qa (hK2 _ _ (wr1 hret A ?_));exact⟨by unfold qai; rw[hb3,hb4,hb5,hb6,hb7,hb8]; rfl,M.bel⟩
      ·have hb8':=of_decide_eq_false hb8;refine sdc A jh hb8 λa A=>?_;iterate 2 refine sdk (v:=bV false) A λa A=>?_
       refine sda A λa A=>?_;refine qa (hK2 _ _ (wr1 hret A ?_));exact⟨by unfold qai; rw[hb3,hb4,hb5,hb6,hb7,hb8]; rfl,M.bel⟩
     ·have hb7':=of_decide_eq_false hb7;refine sdc A jc hb7 λa A=>?_;refine sdm A λa A=>?_;iterate 2 refine qf A rfl rfl rfl λa A=>?_
      iterate 2 refine sdk (v:=bV false) A λa A=>?_
      refine sda A λa A=>?_;refine qa (hK2 _ _ (wr1 hret A ?_));exact⟨by unfold qai; rw[hb3,hb4,hb5,hb6,hb7]; rfl,M.bel⟩
   ·have hb5':=of_decide_eq_false hb5;refine sdc A jc hb5 λa A=>?_;refine sdm A λa A=>?_;iterate 2 refine qf A rfl rfl rfl λa A=>?_
    iterate 2 refine sdk (v:=bV false) A λa A=>?_
    iterate 2 refine sdm A λa A=>?_
    rcases tf (decide (65≤((b.toNat:Nat):Int)))with hb9 | hb9
    ·have hb9':=of_decide_eq_true hb9;refine sdc A jc hb9 λa A=>?_;iterate 2 refine sdm A λa A=>?_
     rcases tf (decide (((b.toNat:Nat):Int)≤70))with hb10 | hb10
     ·have hb10':=of_decide_eq_true hb10;refine sdc A jh hb10 λa A=>?_;iterate 2 refine sdk (v:=bV true) A λa A=>?_
      refine sda A λa A=>?_;refine qa (hK2 _ _ (wr1 hret A ?_));exact⟨by unfold qai; rw[hb3,hb4,hb5,hb9,hb10]; rfl,M.bel⟩
     ·have hb10':=of_decide_eq_false hb10;refine sdc A jh hb10 λa A=>?_;iterate 2 refine sdk (v:=bV false) A λa A=>?_
      refine sda A λa A=>?_;refine qa (hK2 _ _ (wr1 hret A ?_));exact⟨by unfold qai; rw[hb3,hb4,hb5,hb9,hb10]; rfl,M.bel⟩
    ·have hb9':=of_decide_eq_false hb9;refine sdc A jc hb9 λa A=>?_;refine sdm A λa A=>?_;iterate 2 refine qf A rfl rfl rfl λa A=>?_
     iterate 2 refine sdk (v:=bV false) A λa A=>?_
     refine sda A λa A=>?_;refine qa (hK2 _ _ (wr1 hret A ?_));exact⟨by unfold qai; rw[hb3,hb4,hb5,hb9]; rfl,M.bel⟩
 ·have hb3':=of_decide_eq_false hb3;refine sdc A jc hb3 λa A=>?_;refine sdm A λa A=>?_;iterate 2 refine qf A rfl rfl rfl λa A=>?_
  refine sdk (v:=bV false) A λa A=>?_;iterate 2 refine sdm A λa A=>?_
  rcases tf (decide (97≤((b.toNat:Nat):Int)))with hb11 | hb11
  ·have hb11':=of_decide_eq_true hb11;refine sdc A jc hb11 λa A=>?_;iterate 2 refine sdm A λa A=>?_
   rcases tf (decide (((b.toNat:Nat):Int)≤102))with hb12 | hb12
   ·have hb12':=of_decide_eq_true hb12;refine sdc A jh hb12 λa A=>?_;iterate 2 refine sdk (v:=bV true) A λa A=>?_
    refine sdm A λa A=>?_;iterate 3 refine qf A rfl rfl rfl λa A=>?_
    iterate 2 refine xx A rfl rfl rfl λa A=>?_
    refine qf A rfl rfl rfl λa A=>?_;refine sdk (v:=bV true) A λa A=>?_;refine sda A λa A=>?_;refine qa (hK2 _ _ (wr1 hret A ?_));exact⟨by unfold qai; rw[hb3,hb11,hb12]; rfl,M.bel⟩
   ·have hb12':=of_decide_eq_false hb12;refine sdc A jh hb12 λa A=>?_;iterate 2 refine sdk (v:=bV false) A λa A=>?_
    iterate 2 refine sdm A λa A=>?_
    rcases tf (decide (65≤((b.toNat:Nat):Int)))with hb13 | hb13
    ·have hb13':=of_decide_eq_true hb13;refine sdc A jc hb13 λa A=>?_;iterate 2 refine sdm A λa A=>?_
     rcases tf (decide (((b.toNat:Nat):Int)≤70))with hb14 | hb14
     ·have hb14':=of_decide_eq_true hb14;refine sdc A jh hb14 λa A=>?_;iterate 2 refine sdk (v:=bV true) A λa A=>?_
      refine sda A λa A=>?_;refine qa (hK2 _ _ (wr1 hret A ?_));exact⟨by unfold qai; rw[hb3,hb11,hb12,hb13,hb14]; rfl,M.bel⟩
     ·have hb14':=of_decide_eq_false hb14;refine sdc A jh hb14 λa A=>?_;iterate 2 refine sdk (v:=bV false) A λa A=>?_
      refine sda A λa A=>?_;refine qa (hK2 _ _ (wr1 hret A ?_));exact⟨by unfold qai; rw[hb3,hb11,hb12,hb13,hb14]; rfl,M.bel⟩
    ·have hb13':=of_decide_eq_false hb13;refine sdc A jc hb13 λa A=>?_;refine sdm A λa A=>?_;iterate 2 refine qf A rfl rfl rfl λa A=>?_
     iterate 2 refine sdk (v:=bV false) A λa A=>?_
     refine sda A λa A=>?_;refine qa (hK2 _ _ (wr1 hret A ?_));exact⟨by unfold qai; rw[hb3,hb11,hb12,hb13]; rfl,M.bel⟩
  ·have hb11':=of_decide_eq_false hb11;refine sdc A jc hb11 λa A=>?_;refine sdm A λa A=>?_;iterate 2 refine qf A rfl rfl rfl λa A=>?_
   iterate 2 refine sdk (v:=bV false) A λa A=>?_
   iterate 2 refine sdm A λa A=>?_
   rcases tf (decide (65≤((b.toNat:Nat):Int)))with hb15 | hb15
   ·have hb15':=of_decide_eq_true hb15;refine sdc A jc hb15 λa A=>?_;iterate 2 refine sdm A λa A=>?_
    rcases tf (decide (((b.toNat:Nat):Int)≤70))with hb16 | hb16
    ·have hb16':=of_decide_eq_true hb16;refine sdc A jh hb16 λa A=>?_;iterate 2 refine sdk (v:=bV true) A λa A=>?_
     refine sda A λa A=>?_;refine qa (hK2 _ _ (wr1 hret A ?_));exact⟨by unfold qai; rw[hb3,hb11,hb15,hb16]; rfl,M.bel⟩
    ·have hb16':=of_decide_eq_false hb16;refine sdc A jh hb16 λa A=>?_;iterate 2 refine sdk (v:=bV false) A λa A=>?_
     refine sda A λa A=>?_;refine qa (hK2 _ _ (wr1 hret A ?_));exact⟨by unfold qai; rw[hb3,hb11,hb15,hb16]; rfl,M.bel⟩
   ·have hb15':=of_decide_eq_false hb15;refine sdc A jc hb15 λa A=>?_;refine sdm A λa A=>?_;iterate 2 refine qf A rfl rfl rfl λa A=>?_
    iterate 2 refine sdk (v:=bV false) A λa A=>?_
    refine sda A λa A=>?_;refine qa (hK2 _ _ (wr1 hret A ?_));exact⟨by unfold qai; rw[hb3,hb11,hb15]; rfl,M.bel⟩
theorem jdd{w:World}{b:UInt8}{c:Bool}(h:qai b=c):Calls Tryz.prog 116 #[.int .u8 ((b.toNat:Nat):Int)] w fun e w'=>e=.returned (bV c)∧Below w.heap.size w w':=h▸jni
theorem jde{w:World}{l:List UInt8}(hT:Tb w)(hl:l.length≤1000000000):Calls Tryz.prog 86 #[.string (tx l)] w fun e w'=>e=.returned (iV ((ve l:Nat):Int))∧Below w.heap.size w w':=by
 have M:Mg w w ([]):=Mg.start w;refine qn (l:=[(0,.string ((tx l)))]) Tryz.func86 rfl Tryz.ntmps86 rfl rfl ?_;intro Q hret hnorm hP a A;refine wsk fun K1 hK1=>wrl (sda A λa A=>?_);refine qa (hK1 _ _ (wsk fun K2 hK2=>wrl (sdm A λa A=>?_)));refine sct A (ef rfl rfl) (qof (l:=l) (hT.below M.bel)) ?_;rintro _ w4 ⟨rfl,hb3⟩;obtain⟨q,hq⟩:∃q,(dcX l).2=q:=⟨_,rfl⟩;have hql:=zne l;rw[hq]at hql ⊢;replace M:=M.call hb3;refine⟨_,rfl,?_⟩;intro a A;refine sdm A λa A=>?_;iterate 2 refine sdo A (qi (vs:=[.int .i32 ((((dcX l).1:Nat):Int)),iV (((q:Nat):Int))]) rfl rfl) λa A=>?_
 iterate 2 refine sda A λa A=>?_
 refine qa (hK2 _ _ (wsk fun K5 hK5=>wrl (sda A λa A=>?_)));refine qa (hK5 _ _ (wsk fun K6 hK6=>wp_block (jd (fun m_ a w1=>∃(j:Nat),m_=1+(l.length-(q+j))∧(q+j≤l.length∧hxN (l.drop q)=j+hxN (l.drop (q+j)))∧Sl a 41 [(0,.string ((tx l))),(2,iV 0),(3,.int .i32 ((((dcX l).1:Nat):Int))),(4,iV (((q:Nat):Int))),(5,iV (((j:Nat):Int))),(6,.tuple #[.int .i32 ((((dcX l).1:Nat):Int)),iV (((q:Nat):Int))]),(7,.string ((tx l))),(8,.tuple #[.int .i32 ((((dcX l).1:Nat):Int)),iV (((q:Nat):Int))]),(9,.int .i32 ((((dcX l).1:Nat):Int))),(10,iV (((q:Nat):Int)))]∧Mg w w1 ([])) _ ⟨0,rfl,⟨by omega,by rw[Nat.zero_add,Nat.add_zero]⟩,A.keep _ (by repeat' constructor),M⟩ ?_)));clear M A;rintro m_ a w7 ⟨j,rfl,hinv9,A,M⟩ K8 hK8;obtain⟨hj0,hj⟩:=hinv9;refine wsk fun K10 hK10=>wsk fun K11 hK11=>wrl ?_;iterate 2 refine sdm A λa A=>?_
 refine sdo (v:=iV (((q+j:Nat):Int))) A (qb rfl rfl (ar_add ((in_i64 (by omega) (by omega)).trans (by omega)))) λa A=>?_;refine sdm A λa A=>?_;refine sdo (v:=iV (((l.length:Nat):Int))) A (xy (s:=l) Tryz.underlying9 rfl) λa A=>?_;rcases tf (decide (((q+j:Nat):Int)<((l.length:Nat):Int)))with hb12 | hb12
 ·have hb12':=of_decide_eq_true hb12;refine sdc A zs hb12 λa A=>?_;iterate 4 refine sdm A λa A=>?_
  refine sdo (v:=iV (((q+j:Nat):Int))) A (qb rfl rfl (ar_add ((in_i64 (by omega) (by omega)).trans (by omega)))) λa A=>?_;obtain⟨b13,hb14⟩:∃b,l[q+j]?=some b:=⟨_,List.getElem?_eq_getElem (show q+j<l.length by omega)⟩;refine sdo (v:=.int .u8 (((b13.toNat:Nat):Int))) A (qde (s:=l) (i:=q+j) Tryz.underlying9 rfl rfl rfl hb14) λa A=>?_;rcases tf (qai b13)with hb15 | hb15
  ·refine gcl A M (ef rfl rfl) ((jdd hb15)) fun w17 hb16 M a A=>?_;refine sdk (v:=bV true) A λa A=>?_;refine qa (hK11 _ _ (ct A ?_));refine wp_skip (hK10 _ _ (wp_block (wrl (sdm A λa A=>?_))));refine sdo (v:=iV (((j+1:Nat):Int))) A (qb rfl rfl (ar_add ((in_i64 (by omega) (by omega)).trans (by omega)))) λa A=>?_;refine sda A λa A=>?_;refine qa ?_;refine hK8 _ _ _ (by omega) ⟨j+1,rfl,⟨by omega,by rw[hj,jnh hb14 hb15,Nat.add_assoc]; omega⟩,A.keep _ (by repeat' constructor),M⟩
  ·refine gcl A M (ef rfl rfl) ((jdd hb15)) fun w19 hb18 M a A=>?_;refine sdk (v:=bV false) A λa A=>?_;refine qa (hK11 _ _ (cf A ?_));refine wp_exit (hK6 _ _ (wsk fun K20 hK20=>wrl ?_));iterate 2 refine sdm A λa A=>?_
   refine sdo (v:=iV (((q+j:Nat):Int))) A (qb rfl rfl (ar_add ((in_i64 (by omega) (by omega)).trans (by omega)))) λa A=>?_;refine sda A λa A=>?_;refine qa (hK20 _ _ (wsk fun K21 hK21=>wsk fun K22 hK22=>wrl (sdm A λa A=>?_)));rcases tf (decide (0<((j:Nat):Int)))with hb23 | hb23
   ·have hb23':=of_decide_eq_true hb23;refine sdc A zn hb23 λa A=>?_;iterate 3 refine sdm A λa A=>?_
    refine sdo (v:=.string ((tx (l.drop (q+j))))) A (kq (s:=l) (p:=q+j) Tryz.underlying9 rfl rfl rfl (by omega)) λa A=>?_;rcases tf (Lib.hasPrefix (l.drop (q+j)) [59])with hb24 | hb24
    ·refine gcl A M (ef rfl rfl) ((qyd hb24)) fun w26 hb25 M a A=>?_;refine sdk (v:=bV true) A λa A=>?_;refine qa (hK22 _ _ (ct A ?_));refine wrl (sdm A λa A=>?_);refine sdo (v:=iV (((q+j+1:Nat):Int))) A (qb rfl rfl (ar_add ((in_i64 (by omega) (by omega)).trans (by omega)))) λa A=>?_;refine sda A λa A=>?_;refine qa (hK21 _ _ (wsk fun K27 hK27=>wrl (sdm A λa A=>?_)));refine sda A λa A=>?_;refine qa (hK27 _ _ (wr1 hret A ?_));have hz:hxN (l.drop (q+j))=0:=by first | exact qia (by assumption) (by assumption) | exact qib (by omega)
     have hjj:hxN (l.drop q)=j:=(by omega);exact⟨by unfold ve; rw[hq,hjj,hb24,if_pos (by rw[decide_eq_true (by omega)]; rfl)],M.bel⟩
    ·refine gcl A M (ef rfl rfl) ((qyd hb24)) fun w29 hb28 M a A=>?_;refine sdk (v:=bV false) A λa A=>?_;refine qa (hK22 _ _ (cf A ?_));refine wp_skip (hK21 _ _ (wsk fun K30 hK30=>wrl (sdm A λa A=>?_)));refine sda A λa A=>?_;refine qa (hK30 _ _ (wr1 hret A ?_));have hz:hxN (l.drop (q+j))=0:=by first | exact qia (by assumption) (by assumption) | exact qib (by omega)
     have hjj:hxN (l.drop q)=j:=(by omega);exact⟨by unfold ve; rw[hq,hjj,hb24,if_neg (by rw[Bool.and_false]; decide)]; rfl,M.bel⟩
   ·have hb23':=of_decide_eq_false hb23;refine sdc A zn hb23 λa A=>?_;refine sdm A λa A=>?_;iterate 4 refine qf A rfl rfl rfl λa A=>?_
    refine sdk (v:=bV false) A λa A=>?_;refine qa (hK22 _ _ (cf A ?_));refine wp_skip (hK21 _ _ (wsk fun K31 hK31=>wrl (sdm A λa A=>?_)));refine sda A λa A=>?_;refine qa (hK31 _ _ (wr1 hret A ?_));have hz:hxN (l.drop (q+j))=0:=by first | exact qia (by assumption) (by assumption) | exact qib (by omega)
    have hjj:hxN (l.drop q)=j:=(by omega);exact⟨by unfold ve; rw[hq,hjj,if_neg (by rw[decide_eq_false (by omega),Bool.false_and]; decide)]; rfl,M.bel⟩
 ·have hb12':=of_decide_eq_false hb12;refine sdc A zs hb12 λa A=>?_;refine sdm A λa A=>?_;iterate 6 refine qf A rfl rfl rfl λa A=>?_
  refine sdk (v:=bV false) A λa A=>?_;refine qa (hK11 _ _ (cf A ?_));refine wp_exit (hK6 _ _ (wsk fun K32 hK32=>wrl ?_));iterate 2 refine sdm A λa A=>?_
  refine sdo (v:=iV (((q+j:Nat):Int))) A (qb rfl rfl (ar_add ((in_i64 (by omega) (by omega)).trans (by omega)))) λa A=>?_;refine sda A λa A=>?_;refine qa (hK32 _ _ (wsk fun K33 hK33=>wsk fun K34 hK34=>wrl (sdm A λa A=>?_)));rcases tf (decide (0<((j:Nat):Int)))with hb35 | hb35
  ·have hb35':=of_decide_eq_true hb35;refine sdc A zn hb35 λa A=>?_;iterate 3 refine sdm A λa A=>?_
   refine sdo (v:=.string ((tx (l.drop (q+j))))) A (kq (s:=l) (p:=q+j) Tryz.underlying9 rfl rfl rfl (by omega)) λa A=>?_;rcases tf (Lib.hasPrefix (l.drop (q+j)) [59])with hb36 | hb36
   ·refine gcl A M (ef rfl rfl) ((qyd hb36)) fun w38 hb37 M a A=>?_;refine sdk (v:=bV true) A λa A=>?_;refine qa (hK34 _ _ (ct A ?_));refine wrl (sdm A λa A=>?_);refine sdo (v:=iV (((q+j+1:Nat):Int))) A (qb rfl rfl (ar_add ((in_i64 (by omega) (by omega)).trans (by omega)))) λa A=>?_;refine sda A λa A=>?_;refine qa (hK33 _ _ (wsk fun K39 hK39=>wrl (sdm A λa A=>?_)));refine sda A λa A=>?_;refine qa (hK39 _ _ (wr1 hret A ?_));have hz:hxN (l.drop (q+j))=0:=by first | exact qia (by assumption) (by assumption) | exact qib (by omega)
    have hjj:hxN (l.drop q)=j:=(by omega);exact⟨by unfold ve; rw[hq,hjj,hb36,if_pos (by rw[decide_eq_true (by omega)]; rfl)],M.bel⟩
   ·refine gcl A M (ef rfl rfl) ((qyd hb36)) fun w41 hb40 M a A=>?_;refine sdk (v:=bV false) A λa A=>?_;refine qa (hK34 _ _ (cf A ?_));refine wp_skip (hK33 _ _ (wsk fun K42 hK42=>wrl (sdm A λa A=>?_)));refine sda A λa A=>?_;refine qa (hK42 _ _ (wr1 hret A ?_));have hz:hxN (l.drop (q+j))=0:=by first | exact qia (by assumption) (by assumption) | exact qib (by omega)
    have hjj:hxN (l.drop q)=j:=(by omega);exact⟨by unfold ve; rw[hq,hjj,hb36,if_neg (by rw[Bool.and_false]; decide)]; rfl,M.bel⟩
  ·have hb35':=of_decide_eq_false hb35;refine sdc A zn hb35 λa A=>?_;refine sdm A λa A=>?_;iterate 4 refine qf A rfl rfl rfl λa A=>?_
   refine sdk (v:=bV false) A λa A=>?_;refine qa (hK34 _ _ (cf A ?_));refine wp_skip (hK33 _ _ (wsk fun K43 hK43=>wrl (sdm A λa A=>?_)));refine sda A λa A=>?_;refine qa (hK43 _ _ (wr1 hret A ?_));have hz:hxN (l.drop (q+j))=0:=by first | exact qia (by assumption) (by assumption) | exact qib (by omega)
   have hjj:hxN (l.drop q)=j:=(by omega);exact⟨by unfold ve; rw[hq,hjj,if_neg (by rw[decide_eq_false (by omega),Bool.false_and]; decide)]; rfl,M.bel⟩
end Go.Proofs.YtgjohjfehgdgbaaGreatDoor.G
namespace Go.Proofs.YtgjohjfehgdgbaaGreatDoor.C
open Go.RowKit

def qpj(r:Int):Bool:=decide ((r≠304∧r≠305∧256≤r∧r≤311)∨(330≤r∧r≤375))
def zgf(r:Int):Bool:=decide ((313≤r∧r≤328)∨(377≤r∧r≤382))
def qwh(r:Int):Int:=
  if 97≤r∧r≤122 then 32
  else if 224≤r∧r≤254∧r≠247 then 32
  else if qpj r=true∧r%2=1 then 1
  else if zgf r=true∧r%2=0 then 1
  else if 945≤r∧r≤969∧r≠962 then 32
  else if 1072≤r∧r≤1103 then 32
  else if 1104≤r∧r≤1119 then 80
  else 0

def znf(r:Int):Int:=
  if qwh (wrap32 (r+1))=1 then 1 else if qwh (wrap32 (r+32))=32 then 32 else if qwh (wrap32 (r+80))=80 then 80 else 0
def zng(r:Int):Bool:=decide (r=170∨r=181∨r=186∨r=223∨r=255∨r=304∨r=305∨r=312∨r=329∨r=376∨r=383∨r=962)
def zbc(r:Int):Bool:=decide (qwh r≠0∨znf r≠0)||zng r
def blankB(r:Int):Bool:=decide (r=9∨r=10∨r=11∨r=12∨r=13∨r=32∨r=133∨r=160∨r=8232∨r=8233)

theorem qic(r:Int):(qpj r=true)=((r≠304∧r≠305∧256≤r∧r≤311)∨(330≤r∧r≤375)):=by simp[qpj]
theorem zbd(r:Int):(qpj r=false)=¬((r≠304∧r≠305∧256≤r∧r≤311)∨(330≤r∧r≤375)):=by rw[←qic]; simp
theorem qog(r:Int):(zgf r=true)=((313≤r∧r≤328)∨(377≤r∧r≤382)):=by simp[zgf]
theorem znh(r:Int):(zgf r=false)=¬((313≤r∧r≤328)∨(377≤r∧r≤382)):=by rw[←qog]; simp

theorem zni(r:Int):
    (qwh r=32∧((97≤r∧r≤122)∨(224≤r∧r≤254∧r≠247)∨(945≤r∧r≤969∧r≠962)∨(1072≤r∧r≤1103)))
    ∨ (qwh r = 1 ∧ ((((r ≠ 304 ∧ r ≠ 305 ∧ 256 ≤ r ∧ r ≤ 311) ∨ (330 ≤ r ∧ r ≤ 375)) ∧ r % 2 = 1) ∨ (((313 ≤ r ∧ r ≤ 328) ∨ (377 ≤ r ∧ r ≤ 382)) ∧ r % 2 = 0)))
    ∨ (qwh r = 80 ∧ 1104 ≤ r ∧ r ≤ 1119)
    ∨ (qwh r = 0 ∧ ¬ (97 ≤ r ∧ r ≤ 122) ∧ ¬ (224 ≤ r ∧ r ≤ 254 ∧ r ≠ 247) ∧ ¬ (945 ≤ r ∧ r ≤ 969 ∧ r ≠ 962) ∧ ¬ (1072 ≤ r ∧ r ≤ 1119)
        ∧ ¬ (((r ≠ 304 ∧ r ≠ 305 ∧ 256 ≤ r ∧ r ≤ 311) ∨ (330 ≤ r ∧ r ≤ 375)) ∧ r % 2 = 1) ∧ ¬ (((313 ≤ r ∧ r ≤ 328) ∨ (377 ≤ r ∧ r ≤ 382)) ∧ r % 2 = 0)) := by
  unfold qwh;simp only[qic,qog]
  split
  · omega
  · split
    · omega
    · split
      · omega
      · split
        · omega
        · split
          · omega
          · split
            · omega
            · split<;>omega
theorem qrg{k:IntKind}{a b:Int}(h:a=b):Ending.returned (.int k a)=.returned (.int k b):=by rw[h]
theorem um{a b:Bool}(h:a=b):Ending.returned (.bool a)=.returned (.bool b):=by rw[h]
theorem qth(r:Int)(w:World):
    Calls Tryz.prog 169 #[.int .i32 r] w fun e w'=>e=.returned (.bool (qpj r))∧w'=w:=by
  go_enter Tryz.func169,Tryz.ntmps169
  go_wp2
  all_goals go_ret
  all_goals refine⟨um ?_,rfl⟩
  all_goals (unfold qpj; rw[Bool.eq_iff_iff]; simp at *; omega)
theorem qbf(r:Int)(w:World):
    Calls Tryz.prog 170 #[.int .i32 r] w fun e w'=>e=.returned (.bool (zgf r))∧w'=w:=by
  go_enter Tryz.func170,Tryz.ntmps170
  go_wp2
  all_goals go_ret
  all_goals refine⟨um ?_,rfl⟩
  all_goals (unfold zgf; rw[Bool.eq_iff_iff]; simp at *; try omega)
theorem zxd(r:Int)(w:World):
    Calls Tryz.prog 146 #[.int .i32 r] w fun e w'=>e=.returned (.bool (zng r))∧w'=w:=by
  go_enter Tryz.func146,Tryz.ntmps146
  go_wp2
  all_goals go_ret
  all_goals refine⟨um ?_,rfl⟩
  all_goals (unfold zng; rw[Bool.eq_iff_iff]; simp at *; try omega)
theorem blank_any(r:Int)(w:World):
    Calls Tryz.prog 30 #[.int .i32 r] w fun e w'=>e=.returned (.bool (blankB r))∧w'=w:=by
  go_enter Tryz.func30,Tryz.ntmps30
  go_wp2
  all_goals go_ret
  all_goals refine⟨um ?_,rfl⟩
  all_goals (unfold blankB; rw[Bool.eq_iff_iff]; simp at *; try omega)
theorem ztg(r:Int)(w:World):
    Calls Tryz.prog 144 #[.int .i32 r] w fun e w'=>e=.returned (.int .i32 (qwh r))∧w'=w:=by
  have HC:Hid _:=zni r;have h0:qpj r=true→0≤r:=by rw[qic]; omega
  have h1:zgf r=true→0≤r:=by rw[qog]; omega
  by_cases he:qpj r=true
  · have hr:=h0 he;clear h0 h1
    go_enter Tryz.func144,Tryz.ntmps144
    go_wp2_with (first | (go_at_call 169; refine(qth _ _).mono ?_; rintro e w' ⟨rfl,rfl⟩) | (go_at_call 170; refine(qbf _ _).mono ?_; rintro e w' ⟨rfl,rfl⟩))
    all_goals go_ret
    all_goals refine⟨qrg ?_,rfl⟩
    all_goals (have hc:=HC.out; go_light; simp only[qic,qog,zbd,znh,Bool.not_eq_true,beq_iff_eq,bne_iff_ne,beq_eq_false_iff_ne,bne_eq_false_iff_eq,ne_eq]at *; omega)
  · by_cases ho:zgf r=true
    · have hr:=h1 ho;clear h0 h1
      go_enter Tryz.func144,Tryz.ntmps144
      go_wp2_with (first | (go_at_call 169; refine(qth _ _).mono ?_; rintro e w' ⟨rfl,rfl⟩) | (go_at_call 170; refine(qbf _ _).mono ?_; rintro e w' ⟨rfl,rfl⟩))
      all_goals go_ret
      all_goals refine⟨qrg ?_,rfl⟩
      all_goals (have hc:=HC.out; go_light; simp only[qic,qog,zbd,znh,Bool.not_eq_true,beq_iff_eq,bne_iff_ne,beq_eq_false_iff_ne,bne_eq_false_iff_eq,ne_eq]at *; omega)
    · clear h0 h1
      go_enter Tryz.func144,Tryz.ntmps144
      go_wp2_with (first | (go_at_call 169; refine(qth _ _).mono ?_; rintro e w' ⟨rfl,rfl⟩) | (go_at_call 170; refine(qbf _ _).mono ?_; rintro e w' ⟨rfl,rfl⟩))
      all_goals go_ret
      all_goals refine⟨qrg ?_,rfl⟩
      all_goals (have hc:=HC.out; go_light; simp only[qic,qog,zbd,znh,Bool.not_eq_true,beq_iff_eq,bne_iff_ne,beq_eq_false_iff_ne,bne_eq_false_iff_eq,ne_eq]at *; omega)
theorem znj(r:Int)(w:World):
    Calls Tryz.prog 145 #[.int .i32 r] w fun e w'=>e=.returned (.int .i32 (znf r))∧w'=w:=by
  go_enter Tryz.func145,Tryz.ntmps145
  go_wp2_with (go_at_call 144; refine(ztg _ _).mono ?_; rintro e w' ⟨rfl,rfl⟩)
  all_goals go_ret
  all_goals refine⟨qrg ?_,rfl⟩
  all_goals (unfold znf; simp at *; simp[*])
theorem zoa(r:Int)(w:World):
    Calls Tryz.prog 124 #[.int .i32 r] w fun e w'=>e=.returned (.bool (zbc r))∧w'=w:=by
  go_enter Tryz.func124,Tryz.ntmps124
  go_wp2_with (first | (go_at_call 144; refine(ztg _ _).mono ?_; rintro e w' ⟨rfl,rfl⟩) | (go_at_call 145; refine(znj _ _).mono ?_; rintro e w' ⟨rfl,rfl⟩) | (go_at_call 146; refine(zxd _ _).mono ?_; rintro e w' ⟨rfl,rfl⟩))
  all_goals go_ret
  all_goals refine⟨um ?_,rfl⟩
  all_goals (unfold zbc; simp at *; first | omega | simp[*])
end Go.Proofs.YtgjohjfehgdgbaaGreatDoor.C
namespace Go.Proofs
open Go.Shelf
def Tryz.lays151_ren: Go.Shelf.Ren:=⟨fun | 151=>115 | 152=>71 | 137=>105 | 119=>67 | 224=>106 | 225=>107 | 217=>133 | 266=>152 | n=>n,fun | 9=>9 | 21=>21 | 4=>4 | 3=>3 | 5=>5 | 0=>0 | 46=>71 | n=>n,fun | n=>n⟩
theorem Tryz.lays151: Go.Proofs.Lays.n151 Tryz.prog Tryz.lays151_ren:={
  mixed:=by kernel_rfl
  f119:=Tryz.func67.trans (congrArg some (by kernel_rfl))
  f137:=Tryz.func105.trans (congrArg some (by kernel_rfl))
  f151:=Tryz.func115.trans (congrArg some (by kernel_rfl))
  f152:=Tryz.func71.trans (congrArg some (by kernel_rfl))
  f217:=Tryz.func133.trans (congrArg some (by kernel_rfl))
  f224:=Tryz.func106.trans (congrArg some (by kernel_rfl))
  f225:=Tryz.func107.trans (congrArg some (by kernel_rfl))
  f266:=Tryz.func152.trans (congrArg some (by kernel_rfl))
  t0:=Tryz.underlying0
  a0:=Tryz.isAgg0
  z0:=Tryz.sizeOf0
  v0:=Tryz.zeroValue0
  t3:=Tryz.underlying3
  a3:=Tryz.isAgg3
  z3:=Tryz.sizeOf3
  v3:=Tryz.zeroValue3
  t4:=Tryz.underlying4
  a4:=Tryz.isAgg4
  z4:=Tryz.sizeOf4
  v4:=Tryz.zeroValue4
  t5:=Tryz.underlying5
  a5:=Tryz.isAgg5
  z5:=Tryz.sizeOf5
  v5:=Tryz.zeroValue5
  t9:=Tryz.underlying9
  a9:=Tryz.isAgg9
  z9:=Tryz.sizeOf9
  v9:=Tryz.zeroValue9
  t21:=Tryz.underlying21
  a21:=Tryz.isAgg21
  z21:=Tryz.sizeOf21
  v21:=Tryz.zeroValue21
  t46:=Tryz.underlying71
  a46:=Tryz.isAgg71
  z46:=Tryz.sizeOf71
  v46:=Tryz.zeroValue71 }
open Go.RowKit Go.Lib in
theorem Tryz.strings_ContainsRune_ascii(s:ByteArray)(r:Int)(w:World)(h0:0≤r)(h1:r<128):
    Calls Tryz.prog 115 #[.string s,.int .i32 r] w fun e w'=>e=.returned (.bool (decide (0≤Lib.indexByte s.data.toList r.toNat.toUInt8)))∧w'=w:=Any.strings_ContainsRune_ascii Tryz.lays151 s r w h0 h1
def Tryz.laysAppend_ren: Go.Shelf.Ren:=⟨fun | 242=>84 | 278=>114 | n=>n,fun | 37=>27 | 21=>21 | 51=>99 | 4=>4 | 5=>5 | 46=>71 | n=>n,fun | n=>n⟩
theorem Tryz.laysAppend: Go.Proofs.Lays.n242 Tryz.prog Tryz.laysAppend_ren:={
  mixed:=by kernel_rfl
  f242:=Tryz.func84.trans (congrArg some (by kernel_rfl))
  f278:=Tryz.func114.trans (congrArg some (by kernel_rfl))
  t4:=Tryz.underlying4
  a4:=Tryz.isAgg4
  z4:=Tryz.sizeOf4
  v4:=Tryz.zeroValue4
  t5:=Tryz.underlying5
  a5:=Tryz.isAgg5
  z5:=Tryz.sizeOf5
  v5:=Tryz.zeroValue5
  t21:=Tryz.underlying21
  a21:=Tryz.isAgg21
  z21:=Tryz.sizeOf21
  v21:=Tryz.zeroValue21
  t37:=Tryz.underlying27
  a37:=Tryz.isAgg27
  z37:=Tryz.sizeOf27
  v37:=Tryz.zeroValue27
  t46:=Tryz.underlying71
  a46:=Tryz.isAgg71
  z46:=Tryz.sizeOf71
  v46:=Tryz.zeroValue71
  t51:=Tryz.underlying99
  a51:=Tryz.isAgg99
  z51:=Tryz.sizeOf99
  v51:=Tryz.zeroValue99 }
def Tryz.lays119_ren: Go.Shelf.Ren:=⟨fun | 119=>67 | n=>n,fun | 21=>21 | 4=>4 | n=>n,fun | n=>n⟩
theorem Tryz.lays119: Go.Proofs.Lays.n119 Tryz.prog Tryz.lays119_ren:={
  mixed:=by kernel_rfl
  f119:=Tryz.func67.trans (congrArg some (by kernel_rfl))
  t4:=Tryz.underlying4
  a4:=Tryz.isAgg4
  z4:=Tryz.sizeOf4
  v4:=Tryz.zeroValue4
  t21:=Tryz.underlying21
  a21:=Tryz.isAgg21
  z21:=Tryz.sizeOf21
  v21:=Tryz.zeroValue21 }
theorem Tryz.utf8_ValidRune(r:Int)(w:World):
    Calls Tryz.prog 67 #[.int .i32 r] w fun e w'=>e=.returned (.bool (Lib.validRune r))∧w'=w:=Any.utf8_ValidRune Tryz.lays119 r w
def Tryz.laysValid_ren: Go.Shelf.Ren:=⟨fun | 196=>24 | 259=>41 | n=>n,fun | 9=>9 | 4=>4 | 3=>3 | 5=>5 | 12=>12 | 119=>67 | 0=>0 | 46=>71 | 139=>70 | 138=>69 | 53=>94 | n=>n,fun | 3=>0 | 4=>1 | n=>n⟩
theorem Tryz.laysValid: Go.Proofs.Lays.n196 Tryz.prog Tryz.laysValid_ren:={
  mixed:=by kernel_rfl
  f196:=Tryz.func24.trans (congrArg some (by kernel_rfl))
  f259:=Tryz.func41.trans (congrArg some (by kernel_rfl))
  t0:=Tryz.underlying0
  a0:=Tryz.isAgg0
  z0:=Tryz.sizeOf0
  v0:=Tryz.zeroValue0
  t3:=Tryz.underlying3
  a3:=Tryz.isAgg3
  z3:=Tryz.sizeOf3
  v3:=Tryz.zeroValue3
  t4:=Tryz.underlying4
  a4:=Tryz.isAgg4
  z4:=Tryz.sizeOf4
  v4:=Tryz.zeroValue4
  t5:=Tryz.underlying5
  a5:=Tryz.isAgg5
  z5:=Tryz.sizeOf5
  v5:=Tryz.zeroValue5
  t9:=Tryz.underlying9
  a9:=Tryz.isAgg9
  z9:=Tryz.sizeOf9
  v9:=Tryz.zeroValue9
  t12:=Tryz.underlying12
  a12:=Tryz.isAgg12
  z12:=Tryz.sizeOf12
  v12:=Tryz.zeroValue12
  t46:=Tryz.underlying71
  a46:=Tryz.isAgg71
  z46:=Tryz.sizeOf71
  v46:=Tryz.zeroValue71
  t53:=Tryz.underlying94
  a53:=Tryz.isAgg94
  z53:=Tryz.sizeOf94
  v53:=Tryz.zeroValue94
  t119:=Tryz.underlying67
  a119:=Tryz.isAgg67
  z119:=Tryz.sizeOf67
  t138:=Tryz.underlying69
  a138:=Tryz.isAgg69
  z138:=Tryz.sizeOf69
  v138:=Tryz.zeroValue69
  t139:=Tryz.underlying70
  a139:=Tryz.isAgg70
  z139:=Tryz.sizeOf70
  v139:=Tryz.zeroValue70
  g3:=by kernel_rfl
  g4:=by kernel_rfl }
end Go.Proofs
namespace Go.Proofs.YtgjohjfehgdgbaaGreatDoor.C
open Go.RowKit

def Asc(s:ByteArray):Prop:=∀(j:Nat) b,s.data.toList[j]?=some b→b.toNat<128
set_option maxRecDepth 1000000 in
theorem zxe(s:ByteArray)(hs:Asc s)(w:World):Calls Tryz.prog 71 #[.string s,.int .i32 65533] w fun e w'=>e=.returned (.int .i64 (-1))∧Below w.heap.size w w':=by
  go_enter Tryz.func71,Tryz.ntmps71
  go_wp2
  go_loopw [] (fun wr=>∃(pos:Nat),wr.heap[w.heap.size]?=some (.stringIter s pos)∧Below w.heap.size w wr) (fun wr=>s.size-wr.iterPos w.heap.size)
  case atStart=>
    refine⟨0,?_,(Below.refl _ w).alloc (Nat.le_refl _) _⟩;simpa using World.iter_heap w s 0
  case round=>
    obtain⟨pos,hit,hbw⟩:=hrel;have hsz:w.heap.size<wr.heap.size:=(Array.getElem?_eq_some_iff.1 hit).1;by_cases hp:pos<s.size
    · have hnx:∀ty,(Instr.next (.pointer (some ⟨w.heap.size,0,none⟩)) true ty).run Tryz.prog wr=_:=fun ty=>Lib.run_next_any_at wr w.heap.size s pos ty hit hp;have ha:(s[pos]'hp).toNat<128:=hs pos _ (by simp[hp]; rfl);have hd:=decode_ascii s pos hp ha;have hit2:=Lib.iterAt_heap wr w.heap.size s pos (pos+1) hit;have hbw2:=Lib.below_iterAt hbw (k:=w.heap.size) (by omega) s (pos+1);rw[hd]at hnx;have hq:((((s[pos]'hp).toNat:Nat):Int)==65533)=false:=by simp; omega
      go_wp2
      go_roundw
      case rel=>exact⟨pos+1,hit2,hbw2⟩
      case measure=>
        simp only[World.iterPos,hit2,hit];omega
    · have hnx:∀ty,(Instr.next (.pointer (some ⟨w.heap.size,0,none⟩)) true ty).run Tryz.prog wr=_:=fun ty=>Lib.run_next_end_at wr w.heap.size s pos ty hit hp
      go_wp2
      go_ret
      exact⟨rfl,hbw⟩
theorem qye{c:UInt8}:∀l:List UInt8,(∀b∈l,b≠c)→Lib.indexByte l c=-1
  | [], _ => rfl
  | b :: l, h => by
    have h1:b≠c:=h b (by simp);have h2:=qye l (fun x hx=>h x (by simp[hx]));simp[Lib.indexByte,h1,h2]
set_option maxRecDepth 1000000 in
theorem zxf(s:ByteArray)(hs:Asc s)(h4:4≤s.size)(h5:s.size≤100)(r:Int)(h0:128≤r)(h1:r≤1114111)(hl:Lib.validRune r=true)(hr:r≠65533)(w:World):Calls Tryz.prog 71 #[.string s,.int .i32 r] w fun e w'=>e=.returned (.int .i64 (-1))∧Below w.heap.size w w':=by
  go_enter Tryz.func71,Tryz.ntmps71
  go_wp2_with (go_at_call 67; refine(Tryz.utf8_ValidRune _ _).mono ?_; rintro e w' ⟨rfl,rfl⟩)
  have hv:Utf8.valid r=true:=by
    rw[validRune_eq]; unfold validRune; unfold Lib.validRune at hl; apply decide_eq_true; have:=of_decide_eq_true hl; omega
  have hE:2≤(Utf8.encode r).size∧(Utf8.encode r).size≤4∧∀h:(Utf8.encode r).size-1<(Utf8.encode r).size,128≤((Utf8.encode r)[(Utf8.encode r).size-1]'h).toNat:=encode_facts r hv h0;have hcv:∀w,(convert 21 9 (.int .i32 r)).run Tryz.prog w=.ok (.string (Utf8.encode r)) w:=fun w=>run_convert_int_string w _ _ .i32 r (by kernel_rfl) Tryz.underlying9;refine wp_scope_straight ?_
  go_wp2
  have mixed:Tryz.prog.follows .mixedOrders=true:=by kernel_rfl
  obtain⟨m,hm⟩:∃m:Nat,(Utf8.encode r).size=m+1:=⟨(Utf8.encode r).size-1,by omega⟩;have hm0:(((Utf8.encode r).size:Int)-1)=((m:Nat):Int):=by omega
  have hi1:m<s.size:=by omega
  have hi2:m<(Utf8.encode r).size:=by omega
  have hE3:128≤((Utf8.encode r)[m]'hi2).toNat:=by
    have:=hE.2.2;simp only[hm,Nat.add_sub_cancel]at this;exact this (by omega)
  have hsm:(s[m]'hi1).toNat<128:=hs m _ (by simp[hi1]; rfl);have hq:((s[m]'hi1).toNat != ((Utf8.encode r)[m]'hi2).toNat)=true:=by simp; omega
  clear hE hm
  go_loop [9] (fun i=>i=.int .i64 ((m:Nat):Int)) (fun i=>0)
  case atStart=>rw[hm0]
  case round=>
    subst hrel;rw[hm0]
    go_wp2
    refine wp_scope_straight ?_
    go_wp2
    go_region_o
    all_goals go_wp2
    have hib:Lib.indexByte (List.take (s.size-(m+1)) (List.drop (m+1) s.data.toList)) ((Utf8.encode r)[m]'hi2)=-1:=qye _ (fun b hb=>by
      obtain⟨k,hk,hkb⟩:=List.getElem_of_mem (List.mem_of_mem_drop (List.mem_of_mem_take hb));have:=hs k b (by rw[List.getElem?_eq_getElem hk,hkb]);intro e;rw[e]at this;omega)
    have hsl:((m:Nat):Int)+1≤(s.size:Int):=(by omega);have hsn:m+1≤s.size:=(by omega);have hs0:(0:Int)≤((m:Nat):Int)+1:=(by omega);have hsr:∀w k,(Instr.slice 9 (.string s) (some (.int k (((m:Nat):Int)+1))) none none).run Tryz.prog w=.ok (.string (s.extract (m+1) s.size)) w:=fun w k=>by
      rw[run_slice_string_from_if w _ s k _ Tryz.underlying9,if_pos ⟨hs0,hsl⟩]; rfl
    have hwr:IntKind.i64.wrap (((m:Nat):Int)+1)=((m:Nat):Int)+1:=wrap_small _ (by omega) (by omega);clear hsl hsn hs0
    go_region_with_o (go_at_call 105; refine(Tryz.strings_IndexByte _ _ _).mono ?_; rintro e w2 ⟨rfl,rfl⟩)
    all_goals go_wp2
    all_goals (show bodyPost Tryz.prog Tryz.f71 (fun e w1=>e=Ending.returned (Value.int .i64 (-1))∧Below w'.heap.size w' w1) .ret _ _; go_ret; exact⟨rfl,((Below.refl _ _).drew).drew⟩)
def OkR(r:Int):Prop:=(0≤r∧r<55296)∨(57343<r∧r≤1114111)
theorem OkR.valid{r:Int}(h:OkR r):Lib.validRune r=true:=decide_eq_true h
theorem qti(s:ByteArray)(hs:Asc s)(h4:4≤s.size)(h5:s.size≤100)(r:Int)(h:OkR r)(h0:128≤r)(w:World):Calls Tryz.prog 115 #[.string s,.int .i32 r] w fun e w'=>e=.returned (.bool false)∧Below w.heap.size w w':=by
  have HC:Hid (Calls Tryz.prog 71 #[.string s,.int .i32 r] w fun e w'=>e=.returned (.int .i64 (-1))∧Below w.heap.size w w'):=by
    by_cases hr:r=65533
    · subst hr; exact zxe s hs w
    · exact zxf s hs h4 h5 r h0 (by unfold OkR at h; omega) h.valid hr w
  go_enter Tryz.func115,Tryz.ntmps115
  go_wp2_with (go_at_call 71; refine HC.out.mono ?_; rintro e w' ⟨rfl,hb⟩)
  go_ret
  exact⟨rfl,hb⟩
def S4: ByteArray:=⟨#[43,45,46,64]⟩
def S14: ByteArray:=⟨#[33,36,37,38,42,47,58,60,61,62,63,94,95,126]⟩
theorem xdc: Asc S4:=fun j b h=>(by decide +kernel:∀b∈S4.data.toList,b.toNat<128) b (List.mem_of_getElem? h)
theorem jzc: Asc S14:=fun j b h=>(by decide +kernel:∀b∈S14.data.toList,b.toNat<128) b (List.mem_of_getElem? h)
def in4(r:Int):Bool:=decide (r=43∨r=45∨r=46∨r=64)
def jdf(r:Int):Bool:=decide (r=33∨r=36∨r=37∨r=38∨r=42∨r=47∨r=58∨r=60∨r=61∨r=62∨r=63∨r=94∨r=95∨r=126)
theorem ix4: ∀k:Nat,k<128→decide (0≤Lib.indexByte S4.data.toList (k:Int).toNat.toUInt8)=in4 k:=by decide +kernel
theorem xdd: ∀k:Nat,k<128→decide (0≤Lib.indexByte S14.data.toList (k:Int).toNat.toUInt8)=jdf k:=by decide +kernel
theorem jzd(r:Int)(h:OkR r)(w:World):Calls Tryz.prog 115 #[.string S4,.int .i32 r] w fun e w'=>e=.returned (.bool (in4 r))∧Below w.heap.size w w':=by
  by_cases hr:r<128
  · have h0:0≤r:=(by unfold OkR at h; omega);refine(Tryz.strings_ContainsRune_ascii S4 r w h0 hr).mono ?_;rintro e w' ⟨rfl,rfl⟩;have:=ix4 r.toNat (by omega);rw[Int.toNat_of_nonneg h0]at this;exact⟨by rw[this],Below.refl _ _⟩
  · refine(qti S4 xdc (by decide) (by decide) r h (by omega) w).mono ?_;rintro e w' ⟨rfl,hb⟩;exact⟨by rw[show in4 r=false from by unfold in4; apply decide_eq_false; omega],hb⟩
theorem jvh(r:Int)(h:OkR r)(w:World):Calls Tryz.prog 115 #[.string S14,.int .i32 r] w fun e w'=>e=.returned (.bool (jdf r))∧Below w.heap.size w w':=by
  by_cases hr:r<128
  · have h0:0≤r:=(by unfold OkR at h; omega);refine(Tryz.strings_ContainsRune_ascii S14 r w h0 hr).mono ?_;rintro e w' ⟨rfl,rfl⟩;have:=xdd r.toNat (by omega);rw[Int.toNat_of_nonneg h0]at this;exact⟨by rw[this],Below.refl _ _⟩
  · refine(qti S14 jzc (by decide) (by decide) r h (by omega) w).mono ?_;rintro e w' ⟨rfl,hb⟩;exact⟨by rw[show jdf r=false from by unfold jdf; apply decide_eq_false; omega],hb⟩
def firstB(r:Int):Bool:=zbc r||jdf r||(decide (127<r) && !blankB r)
def restB(r:Int):Bool:=decide (48≤r∧r≤57)||in4 r
def S6: ByteArray:=⟨#[40,41,91,93,34,59]⟩
theorem xde: Asc S6:=fun j b h=>(by decide +kernel:∀b∈S6.data.toList,b.toNat<128) b (List.mem_of_getElem? h)
def in6(r:Int):Bool:=decide (r=40∨r=41∨r=91∨r=93∨r=34∨r=59)
theorem ix6: ∀k:Nat,k<128→decide (0≤Lib.indexByte S6.data.toList (k:Int).toNat.toUInt8)=in6 k:=by decide +kernel
theorem jze(r:Int)(h:OkR r)(w:World):Calls Tryz.prog 115 #[.string S6,.int .i32 r] w fun e w'=>e=.returned (.bool (in6 r))∧Below w.heap.size w w':=by
  by_cases hr:r<128
  · have h0:0≤r:=(by unfold OkR at h; omega);refine(Tryz.strings_ContainsRune_ascii S6 r w h0 hr).mono ?_;rintro e w' ⟨rfl,rfl⟩;have:=ix6 r.toNat (by omega);rw[Int.toNat_of_nonneg h0]at this;exact⟨by rw[this],Below.refl _ _⟩
  · refine(qti S6 xde (by decide) (by decide) r h (by omega) w).mono ?_;rintro e w' ⟨rfl,hb⟩;exact⟨by rw[show in6 r=false from by unfold in6; apply decide_eq_false; omega],hb⟩
def delimB(r:Int):Bool:=blankB r||in6 r
theorem delimits_any(r:Int)(h:OkR r)(w:World):Calls Tryz.prog 85 #[.int .i32 r] w fun e w'=>e=.returned (.bool (delimB r))∧Below w.heap.size w w':=by
  have HC:Hid _:=jze r h w;clear h
  go_enter Tryz.func85,Tryz.ntmps85
  go_wp2_with (first | (go_at_call 115; refine Calls.mono HC.out ?_; rintro e w' ⟨rfl,hb⟩) | (go_at_call 30; refine(blank_any _ _).mono ?_; rintro e w' ⟨rfl,rfl⟩))
  all_goals go_ret
  all_goals refine⟨um ?_,by first | assumption | exact Below.refl _ _⟩
  all_goals (show(_:Bool)=delimB r; unfold delimB; simp[*])
theorem isRestD_any(r:Int)(h:OkR r)(w:World):Calls Tryz.prog 99 #[.int .i32 r] w fun e w'=>e=.returned (.bool (restB r))∧Below w.heap.size w w':=by
  have HC:Hid _:=jzd r h w;clear h
  go_enter Tryz.func99,Tryz.ntmps99
  go_wp2_with (go_at_call 115; refine Calls.mono HC.out ?_; rintro e w' ⟨rfl,hb⟩)
  all_goals go_ret
  all_goals refine⟨um ?_,by first | assumption | exact Below.refl _ _⟩
  all_goals (show(_:Bool)=restB r; unfold restB; cases in4 r<;>simp at * <;> omega)
theorem isFirstD_any(r:Int)(h:OkR r)(w:World):Calls Tryz.prog 97 #[.int .i32 r] w fun e w'=>e=.returned (.bool (firstB r))∧Below w.heap.size w w':=by
  have HC:Hid _:=jvh r h w;clear h
  go_enter Tryz.func97,Tryz.ntmps97
  go_wp2_with (first | (go_at_call 115; refine Calls.mono HC.out ?_; rintro e w' ⟨rfl,hb⟩) | (go_at_call 124; refine(zoa _ _).mono ?_; rintro e w' ⟨rfl,rfl⟩) | (go_at_call 30; refine(blank_any _ _).mono ?_; rintro e w' ⟨rfl,rfl⟩))
  all_goals go_ret
  all_goals refine⟨um ?_,by first | assumption | exact Below.refl _ _⟩
  all_goals (show(_:Bool)=firstB r; unfold firstB; simp[*]; try (intro _; omega))
end Go.Proofs.YtgjohjfehgdgbaaGreatDoor.C
namespace Go.Proofs.YtgjohjfehgdgbaaGreatDoor.G
open Go.RowKit
set_option maxRecDepth 100000

theorem qgg(l:List UInt8):C.OkR (((dcX l).1:Nat):Int):=by
 by_cases h:l=[]
 ·subst h; exact .inr ⟨by decide,by decide⟩
 ·rw[yi h];have:=qse l;unfold C.OkR;omega
def kh: Nat→List UInt8→Nat
 | 0, _ => 0
 | f + 1, l => if l.isEmpty = true then 0 else if C.delimB (((dcX l).1 : Nat) : Int) = true then 0 else (if (((dcX l).1 : Nat) : Int) = 92 then (dcX l).2 + ve (l.drop (dcX l).2) else (dcX l).2) + kh f (l.drop (if (((dcX l).1 : Nat) : Int) = 92 then (dcX l).2 + ve (l.drop (dcX l).2) else (dcX l).2))
theorem jnj(f:Nat):kh f []=0:=by cases f<;>rfl
theorem qdf{f:Nat}{l:List UInt8}(hd:C.delimB (((dcX l).1:Nat):Int)=true):kh f l=0:=by
 cases f with
 | zero => rfl
 | succ f =>
  rw[kh];by_cases he:l.isEmpty=true
  ·rw[if_pos he]
  ·rw[if_neg he,if_pos hd]
theorem qgh{f:Nat}{l:List UInt8}{m:Nat}(hne:l≠[])(hd:C.delimB (((dcX l).1:Nat):Int)=false)(hm:(if(((dcX l).1:Nat):Int)=92 then(dcX l).2+ve (l.drop (dcX l).2)else(dcX l).2)=m):kh (f+1) l=m+kh f (l.drop m):=by
 rw[kh,if_neg (fun k=>hne (List.isEmpty_iff.1 k)),if_neg (by rw[hd]; decide),hm]
theorem zgg{w:World}{r:Int}{b:Bool}(h:C.OkR r)(hb:C.delimB r=b):Calls Tryz.prog 85 #[.int .i32 r] w fun e w'=>e=.returned (bV b)∧Below w.heap.size w w':=hb▸C.delimits_any r h w
theorem qoh{w:World}{l:List UInt8}(hT:Tb w)(hl:l.length≤1000000000):Calls Tryz.prog 61 #[.string (tx l)] w fun e w'=>e=.returned (.string (tx (l.take (kh (l.length+1) l))))∧Below w.heap.size w w':=by
 have M:Mg w w ([]):=Mg.start w;refine qn (l:=[(0,.string ((tx l)))]) Tryz.func61 rfl Tryz.ntmps61 rfl rfl ?_;intro Q hret hnorm hP a A;refine wsk fun K1 hK1=>wrl (sda A λa A=>?_);refine qa (hK1 _ _ (wsk fun K2 hK2=>wrl (sda A λa A=>?_)));refine qa (hK2 _ _ (wsk fun K3 hK3=>wp_block (jd (fun m_ a w1=>∃(n:Nat) (f:Nat),m_=1+(l.length-n)∧(n≤l.length∧l.length-n<f∧kh (l.length+1) l=n+kh f (l.drop n))∧Sl a 33 [(0,.string ((tx l))),(2,.string (⟨#[]⟩)),(3,iV (((n:Nat):Int)))]∧Mg w w1 ([])) _ ⟨0,l.length+1,rfl,⟨Nat.zero_le _,by omega,by rw[Nat.zero_add]; rfl⟩,A.keep _ ⟨rfl,rfl,rfl,trivial⟩,M⟩ ?_)));clear M A;rintro m_ a w4 ⟨n,f,rfl,hinv6,A,M⟩ K5 hK5;obtain⟨hn0,hf0,hn⟩:=hinv6;obtain⟨f,rfl⟩:∃f1,f=f1+1:=⟨f-1,by omega⟩;refine wsk fun K7 hK7=>wsk fun K8 hK8=>wrl ?_;iterate 2 refine sdm A λa A=>?_
 refine sdo (v:=iV (((l.length:Nat):Int))) A (xy (s:=l) Tryz.underlying9 rfl) λa A=>?_;rcases tf (decide (((n:Nat):Int)<((l.length:Nat):Int)))with hb9 | hb9
 ·have hb9':=of_decide_eq_true hb9;refine sdc A zs hb9 λa A=>?_;refine qa (hK8 _ _ (ct A ?_));refine wp_skip (hK7 _ _ (wp_block (wsk fun K10 hK10=>wrl ?_)));iterate 2 refine sdm A λa A=>?_
  refine sdo (v:=.string ((tx (l.drop n)))) A (kq (s:=l) (p:=n) Tryz.underlying9 rfl rfl rfl (by omega)) λa A=>?_;have hne:l.drop n≠[]:=fun k=>by have:=congrArg List.length k; rw[List.length_drop]at this; simp at this; omega
  obtain⟨hw1,hw2⟩:=jg hne;rw[List.length_drop]at hw2;refine gcl A M (ef rfl rfl) (qof (l:=l.drop n) (hT.below M.bel)) fun w12 hb11 M a A=>?_;refine sdm A λa A=>?_;iterate 2 refine sdo A (qi (vs:=[.int .i32 ((((dcX (l.drop n)).1:Nat):Int)),iV ((((dcX (l.drop n)).2:Nat):Int))]) rfl rfl) λa A=>?_
  iterate 2 refine sda A λa A=>?_
  refine qa (hK10 _ _ (wsk fun K13 hK13=>wsk fun K14 hK14=>wrl (sdm A λa A=>?_)));rcases tf (C.delimB (((dcX (l.drop n)).1:Nat):Int))with hb15 | hb15
  ·refine gcl A M (ef rfl rfl) ((zgg (qgg _) hb15)) fun w17 hb16 M a A=>?_;refine qa (hK14 _ _ (ct A ?_));refine wp_exit (hK3 _ _ (wsk fun K18 hK18=>wrl ?_));iterate 2 refine sdm A λa A=>?_
   refine sdo (v:=.string ((tx (l.take n)))) A (qah (s:=l) (p:=n) Tryz.underlying9 rfl rfl rfl (by omega)) λa A=>?_;refine sda A λa A=>?_;refine qa (hK18 _ _ (wr1 hret A ?_));exact⟨by rw[hn,show kh (f+1) (l.drop n)=0 from qdf hb15,Nat.add_zero],M.bel⟩
  ·refine gcl A M (ef rfl rfl) ((zgg (qgg _) hb15)) fun w20 hb19 M a A=>?_;refine qa (hK14 _ _ (cf A ?_));refine wp_skip (hK13 _ _ (wsk fun K21 hK21=>wrl ?_));iterate 2 refine sdm A λa A=>?_
   refine sdo (v:=iV (((n+(dcX (l.drop n)).2:Nat):Int))) A (qb rfl rfl (ar_add ((in_i64 (by omega) (by omega)).trans (by omega)))) λa A=>?_;refine sda A λa A=>?_;refine qa (hK21 _ _ (wsk fun K22 hK22=>wrl (sdm A λa A=>?_)));rcases tf (((((dcX (l.drop n)).1:Nat):Int)==92))with hb23 | hb23
   ·have hb23':=eq_of_beq hb23;refine sdc A qg hb23 λa A=>?_;refine qa (hK22 _ _ (ct A ?_));refine wrl ?_;iterate 3 refine sdm A λa A=>?_
    refine sdo (v:=.string ((tx (l.drop (n+(dcX (l.drop n)).2))))) A (kq (s:=l) (p:=n+(dcX (l.drop n)).2) Tryz.underlying9 rfl rfl rfl (by omega)) λa A=>?_;have ht25:=zge (l.drop (n+(dcX (l.drop n)).2));rw[List.length_drop]at ht25;refine gcl A M (ef rfl rfl) (jde (l:=l.drop (n+(dcX (l.drop n)).2)) (hT.below M.bel) (by rw[List.length_drop]; omega)) fun w26 hb24 M a A=>?_;refine sdo (v:=iV (((n+(dcX (l.drop n)).2+ve (l.drop (n+(dcX (l.drop n)).2)):Nat):Int))) A (qb rfl rfl (ar_add ((in_i64 (by omega) (by omega)).trans (by omega)))) λa A=>?_;refine sda A λa A=>?_;refine qa ?_;have e7:=qgh (f:=f) hne hb15 (if_pos (eq_of_beq hb23));simp only[List.drop_drop]at e7;refine hK5 _ _ _ (by omega) ⟨n+(dcX (l.drop n)).2+ve (l.drop (n+(dcX (l.drop n)).2)),f,rfl,⟨by omega,by omega,by rw[hn,e7,Nat.add_assoc n (dcX (l.drop n)).2 _]; exact(Nat.add_assoc _ _ _).symm⟩,A.keep _ ⟨rfl,rfl,rfl,trivial⟩,M⟩
   ·have hb23':=ne_of_beq_false hb23;refine sdc A qg hb23 λa A=>?_;refine qa (hK22 _ _ (cf A ?_));refine wp_skip ?_;refine hK5 _ _ _ (by omega) ⟨n+(dcX (l.drop n)).2,f,rfl,⟨by omega,by omega,by rw[hn,qgh hne hb15 (if_neg (ne_of_beq_false hb23)),List.drop_drop,Nat.add_assoc]⟩,A.keep _ ⟨rfl,rfl,rfl,trivial⟩,M⟩
 ·have hb9':=of_decide_eq_false hb9;refine sdc A zs hb9 λa A=>?_;refine qa (hK8 _ _ (cf A ?_));refine wp_exit (hK3 _ _ (wsk fun K27 hK27=>wrl ?_));iterate 2 refine sdm A λa A=>?_
  refine sdo (v:=.string ((tx (l.take n)))) A (qah (s:=l) (p:=n) Tryz.underlying9 rfl rfl rfl (by omega)) λa A=>?_;refine sda A λa A=>?_;refine qa (hK27 _ _ (wr1 hret A ?_));exact⟨by rw[hn,show kh (f+1) (l.drop n)=0 from(by rw[List.drop_eq_nil_of_le (by omega)]; exact jnj _),Nat.add_zero],M.bel⟩
def yz(l:List UInt8):Option Int:=if l=[110,117,108]then some 0 else if l=[97,108,97,114,109]then some 7 else if l=[98,97,99,107,115,112,97,99,101]then some 8 else if l=[116,97,98]then some 9 else if l=[108,105,110,101,102,101,101,100]then some 10 else if l=[110,101,119,108,105,110,101]then some 10 else if l=[118,116,97,98]then some 11 else if l=[112,97,103,101]then some 12 else if l=[114,101,116,117,114,110]then some 13 else if l=[101,115,99]then some 27 else if l=[115,112,97,99,101]then some 32 else if l=[100,101,108,101,116,101]then some 127 else none
def qef(l:List UInt8):Bool:=decide (l.take (kh (l.length+1) l)=[46])
theorem zth{l:List UInt8}(h:l.take (kh (l.length+1) l)=[46]):Lib.hasPrefix l [46]=true:=by
 refine List.isPrefixOf_iff_prefix.2 ?_;rw[←h];exact List.take_prefix _ _
theorem zxg{w:World}{l:List UInt8}:Calls Tryz.prog 89 #[.string (tx l)] w fun e w'=>e=.returned (.tuple #[.int .i32 ((yz l).getD 0),bV (yz l).isSome])∧Below w.heap.size w w':=by
 have M:Mg w w ([]):=Mg.start w;refine qn (l:=[(0,.string ((tx l)))]) Tryz.func89 rfl Tryz.ntmps89 rfl rfl ?_;intro Q hret hnorm hP a A;refine wsk fun K1 hK1=>wrl ?_;iterate 2 refine sda A λa A=>?_
 refine qa (hK1 _ _ (wsk fun K2 hK2=>wsk fun K3 hK3=>wrl (sdm A λa A=>?_)));refine qa (hK3 _ _ (wp_block (wsk fun K4 hK4=>wrl ?_)));rcases tf (decide (l=[110,117,108]))with hb5 | hb5
 ·have hb5':=of_decide_eq_true hb5;refine sdo (v:=bV true) A (qb rfl rfl (fun w=>(zl (a:=l) (b:=[110,117,108]) Tryz.underlying9 w).trans (by rw[hb5]<;>rfl))) λa A=>?_;refine sda A λa A=>?_;refine qa (hK4 _ _ (ct A ?_));refine wsk fun K6 hK6=>wrl ?_;iterate 2 refine sda A λa A=>?_
  refine qa (hK6 _ _ (wp_ret (hret _ _ (en2 A rfl (qj rfl) (qj rfl) ?_))));exact⟨by unfold yz; rw[if_pos (of_decide_eq_true hb5)]; rfl,M.bel⟩
 ·have hb5':=of_decide_eq_false hb5;refine sdo (v:=bV false) A (qb rfl rfl (fun w=>(zl (a:=l) (b:=[110,117,108]) Tryz.underlying9 w).trans (by rw[hb5]<;>rfl))) λa A=>?_;refine sda A λa A=>?_;refine qa (hK4 _ _ (cf A ?_));refine wsk fun K7 hK7=>wrl ?_;rcases tf (decide (l=[97,108,97,114,109]))with hb8 | hb8
  ·have hb8':=of_decide_eq_true hb8;refine sdo (v:=bV true) A (qb rfl rfl (fun w=>(zl (a:=l) (b:=[97,108,97,114,109]) Tryz.underlying9 w).trans (by rw[hb8]<;>rfl))) λa A=>?_;refine sda A λa A=>?_;refine qa (hK7 _ _ (ct A ?_));refine wsk fun K9 hK9=>wrl ?_;iterate 2 refine sda A λa A=>?_
   refine qa (hK9 _ _ (wp_ret (hret _ _ (en2 A rfl (qj rfl) (qj rfl) ?_))));exact⟨by unfold yz; rw[if_neg (of_decide_eq_false hb5),if_pos (of_decide_eq_true hb8)]; rfl,M.bel⟩
  ·have hb8':=of_decide_eq_false hb8;refine sdo (v:=bV false) A (qb rfl rfl (fun w=>(zl (a:=l) (b:=[97,108,97,114,109]) Tryz.underlying9 w).trans (by rw[hb8]<;>rfl))) λa A=>?_;refine sda A λa A=>?_;refine qa (hK7 _ _ (cf A ?_));refine wsk fun K10 hK10=>wrl ?_;rcases tf (decide (l=[98,97,99,107,115,112,97,99,101]))with hb11 | hb11
   ·have hb11':=of_decide_eq_true hb11;refine sdo (v:=bV true) A (qb rfl rfl (fun w=>(zl (a:=l) (b:=[98,97,99,107,115,112,97,99,101]) Tryz.underlying9 w).trans (by rw[hb11]<;>rfl))) λa A=>?_;refine sda A λa A=>?_;refine qa (hK10 _ _ (ct A ?_));refine wsk fun K12 hK12=>wrl ?_;iterate 2 refine sda A λa A=>?_
    refine qa (hK12 _ _ (wp_ret (hret _ _ (en2 A rfl (qj rfl) (qj rfl) ?_))));exact⟨by unfold yz; rw[if_neg (of_decide_eq_false hb5),if_neg (of_decide_eq_false hb8),if_pos (of_decide_eq_true hb11)]; rfl,M.bel⟩
   ·have hb11':=of_decide_eq_false hb11;refine sdo (v:=bV false) A (qb rfl rfl (fun w=>(zl (a:=l) (b:=[98,97,99,107,115,112,97,99,101]) Tryz.underlying9 w).trans (by rw[hb11]<;>rfl))) λa A=>?_;refine sda A λa A=>?_;refine qa (hK10 _ _ (cf A ?_));refine wsk fun K13 hK13=>wrl ?_;rcases tf (decide (l=[116,97,98]))with hb14 | hb14
    ·have hb14':=of_decide_eq_true hb14;refine sdo (v:=bV true) A (qb rfl rfl (fun w=>(zl (a:=l) (b:=[116,97,98]) Tryz.underlying9 w).trans (by rw[hb14]<;>rfl))) λa A=>?_;refine sda A λa A=>?_;refine qa (hK13 _ _ (ct A ?_));refine wsk fun K15 hK15=>wrl ?_;iterate 2 refine sda A λa A=>?_
     refine qa (hK15 _ _ (wp_ret (hret _ _ (en2 A rfl (qj rfl) (qj rfl) ?_))));exact⟨by unfold yz; rw[if_neg (of_decide_eq_false hb5),if_neg (of_decide_eq_false hb8),if_neg (of_decide_eq_false hb11),if_pos (of_decide_eq_true hb14)]; rfl,M.bel⟩
    ·have hb14':=of_decide_eq_false hb14;refine sdo (v:=bV false) A (qb rfl rfl (fun w=>(zl (a:=l) (b:=[116,97,98]) Tryz.underlying9 w).trans (by rw[hb14]<;>rfl))) λa A=>?_;refine sda A λa A=>?_;refine qa (hK13 _ _ (cf A ?_));refine wsk fun K16 hK16=>wsk fun K17 hK17=>wrl ?_;rcases tf (decide (l=[108,105,110,101,102,101,101,100]))with hb18 | hb18
     ·have hb18':=of_decide_eq_true hb18;refine sdo (v:=bV true) A (qb rfl rfl (fun w=>(zl (a:=l) (b:=[108,105,110,101,102,101,101,100]) Tryz.underlying9 w).trans (by rw[hb18]<;>rfl))) λa A=>?_;refine sda A λa A=>?_;refine qa (hK17 _ _ (ct A ?_));refine wp_skip (hK16 _ _ (ct A ?_));refine wsk fun K19 hK19=>wrl ?_;iterate 2 refine sda A λa A=>?_
      refine qa (hK19 _ _ (wp_ret (hret _ _ (en2 A rfl (qj rfl) (qj rfl) ?_))));exact⟨by unfold yz; rw[if_neg (of_decide_eq_false hb5),if_neg (of_decide_eq_false hb8),if_neg (of_decide_eq_false hb11),if_neg (of_decide_eq_false hb14),if_pos (of_decide_eq_true hb18)]; rfl,M.bel⟩
     ·have hb18':=of_decide_eq_false hb18;refine sdo (v:=bV false) A (qb rfl rfl (fun w=>(zl (a:=l) (b:=[108,105,110,101,102,101,101,100]) Tryz.underlying9 w).trans (by rw[hb18]<;>rfl))) λa A=>?_;refine sda A λa A=>?_;refine qa (hK17 _ _ (cf A ?_));refine wrl ?_;rcases tf (decide (l=[110,101,119,108,105,110,101]))with hb20 | hb20
      ·have hb20':=of_decide_eq_true hb20;refine sdo (v:=bV true) A (qb rfl rfl (fun w=>(zl (a:=l) (b:=[110,101,119,108,105,110,101]) Tryz.underlying9 w).trans (by rw[hb20]<;>rfl))) λa A=>?_;refine sda A λa A=>?_;refine qa (hK16 _ _ (ct A ?_));refine wsk fun K21 hK21=>wrl ?_;iterate 2 refine sda A λa A=>?_
       refine qa (hK21 _ _ (wp_ret (hret _ _ (en2 A rfl (qj rfl) (qj rfl) ?_))));exact⟨by unfold yz; rw[if_neg (of_decide_eq_false hb5),if_neg (of_decide_eq_false hb8),if_neg (of_decide_eq_false hb11),if_neg (of_decide_eq_false hb14),if_neg (of_decide_eq_false hb18),if_pos (of_decide_eq_true hb20)]; rfl,M.bel⟩
      ·have hb20':=of_decide_eq_false hb20;refine sdo (v:=bV false) A (qb rfl rfl (fun w=>(zl (a:=l) (b:=[110,101,119,108,105,110,101]) Tryz.underlying9 w).trans (by rw[hb20]<;>rfl))) λa A=>?_;refine sda A λa A=>?_;refine qa (hK16 _ _ (cf A ?_));refine wsk fun K22 hK22=>wrl ?_;rcases tf (decide (l=[118,116,97,98]))with hb23 | hb23
       ·have hb23':=of_decide_eq_true hb23;refine sdo (v:=bV true) A (qb rfl rfl (fun w=>(zl (a:=l) (b:=[118,116,97,98]) Tryz.underlying9 w).trans (by rw[hb23]<;>rfl))) λa A=>?_;refine sda A λa A=>?_;refine qa (hK22 _ _ (ct A ?_));refine wsk fun K24 hK24=>wrl ?_;iterate 2 refine sda A λa A=>?_
        refine qa (hK24 _ _ (wp_ret (hret _ _ (en2 A rfl (qj rfl) (qj rfl) ?_))));exact⟨by unfold yz; rw[if_neg (of_decide_eq_false hb5),if_neg (of_decide_eq_false hb8),if_neg (of_decide_eq_false hb11),if_neg (of_decide_eq_false hb14),if_neg (of_decide_eq_false hb18),if_neg (of_decide_eq_false hb20),if_pos (of_decide_eq_true hb23)]; rfl,M.bel⟩
       ·have hb23':=of_decide_eq_false hb23;refine sdo (v:=bV false) A (qb rfl rfl (fun w=>(zl (a:=l) (b:=[118,116,97,98]) Tryz.underlying9 w).trans (by rw[hb23]<;>rfl))) λa A=>?_;refine sda A λa A=>?_;refine qa (hK22 _ _ (cf A ?_));refine wsk fun K25 hK25=>wrl ?_;rcases tf (decide (l=[112,97,103,101]))with hb26 | hb26
        ·have hb26':=of_decide_eq_true hb26;refine sdo (v:=bV true) A (qb rfl rfl (fun w=>(zl (a:=l) (b:=[112,97,103,101]) Tryz.underlying9 w).trans (by rw[hb26]<;>rfl))) λa A=>?_;refine sda A λa A=>?_;refine qa (hK25 _ _ (ct A ?_));refine wsk fun K27 hK27=>wrl ?_;iterate 2 refine sda A λa A=>?_
         refine qa (hK27 _ _ (wp_ret (hret _ _ (en2 A rfl (qj rfl) (qj rfl) ?_))));exact⟨by unfold yz; rw[if_neg (of_decide_eq_false hb5),if_neg (of_decide_eq_false hb8),if_neg (of_decide_eq_false hb11),if_neg (of_decide_eq_false hb14),if_neg (of_decide_eq_false hb18),if_neg (of_decide_eq_false hb20),if_neg (of_decide_eq_false hb23),if_pos (of_decide_eq_true hb26)]; rfl,M.bel⟩
        ·have hb26':=of_decide_eq_false hb26;refine sdo (v:=bV false) A (qb rfl rfl (fun w=>(zl (a:=l) (b:=[112,97,103,101]) Tryz.underlying9 w).trans (by rw[hb26]<;>rfl))) λa A=>?_;refine sda A λa A=>?_;refine qa (hK25 _ _ (cf A ?_));refine wsk fun K28 hK28=>wrl ?_;rcases tf (decide (l=[114,101,116,117,114,110]))with hb29 | hb29
         ·have hb29':=of_decide_eq_true hb29;refine sdo (v:=bV true) A (qb rfl rfl (fun w=>(zl (a:=l) (b:=[114,101,116,117,114,110]) Tryz.underlying9 w).trans (by rw[hb29]<;>rfl))) λa A=>?_;refine sda A λa A=>?_;refine qa (hK28 _ _ (ct A ?_));refine wsk fun K30 hK30=>wrl ?_;iterate 2 refine sda A λa A=>?_
          refine qa (hK30 _ _ (wp_ret (hret _ _ (en2 A rfl (qj rfl) (qj rfl) ?_))));exact⟨by unfold yz; rw[if_neg (of_decide_eq_false hb5),if_neg (of_decide_eq_false hb8),if_neg (of_decide_eq_false hb11),if_neg (of_decide_eq_false hb14),if_neg (of_decide_eq_false hb18),if_neg (of_decide_eq_false hb20),if_neg (of_decide_eq_false hb23),if_neg (of_decide_eq_false hb26),if_pos (of_decide_eq_true hb29)]; rfl,M.bel⟩
         ·have hb29':=of_decide_eq_false hb29;refine sdo (v:=bV false) A (qb rfl rfl (fun w=>(zl (a:=l) (b:=[114,101,116,117,114,110]) Tryz.underlying9 w).trans (by rw[hb29]<;>rfl))) λa A=>?_;refine sda A λa A=>?_;refine qa (hK28 _ _ (cf A ?_));refine wsk fun K31 hK31=>wrl ?_;rcases tf (decide (l=[101,115,99]))with hb32 | hb32
          ·have hb32':=of_decide_eq_true hb32;refine sdo (v:=bV true) A (qb rfl rfl (fun w=>(zl (a:=l) (b:=[101,115,99]) Tryz.underlying9 w).trans (by rw[hb32]<;>rfl))) λa A=>?_;refine sda A λa A=>?_;refine qa (hK31 _ _ (ct A ?_));refine wsk fun K33 hK33=>wrl ?_;iterate 2 refine sda A λa A=>?_
           refine qa (hK33 _ _ (wp_ret (hret _ _ (en2 A rfl (qj rfl) (qj rfl) ?_))));exact⟨by unfold yz; rw[if_neg (of_decide_eq_false hb5),if_neg (of_decide_eq_false hb8),if_neg (of_decide_eq_false hb11),if_neg (of_decide_eq_false hb14),if_neg (of_decide_eq_false hb18),if_neg (of_decide_eq_false hb20),if_neg (of_decide_eq_false hb23),if_neg (of_decide_eq_false hb26),if_neg (of_decide_eq_false hb29),if_pos (of_decide_eq_true hb32)]; rfl,M.bel⟩
          ·have hb32':=of_decide_eq_false hb32;refine sdo (v:=bV false) A (qb rfl rfl (fun w=>(zl (a:=l) (b:=[101,115,99]) Tryz.underlying9 w).trans (by rw[hb32]<;>rfl))) λa A=>?_;refine sda A λa A=>?_;refine qa (hK31 _ _ (cf A ?_));refine wsk fun K34 hK34=>wrl ?_;rcases tf (decide (l=[115,112,97,99,101]))with hb35 | hb35
           ·have hb35':=of_decide_eq_true hb35;refine sdo (v:=bV true) A (qb rfl rfl (fun w=>(zl (a:=l) (b:=[115,112,97,99,101]) Tryz.underlying9 w).trans (by rw[hb35]<;>rfl))) λa A=>?_;refine sda A λa A=>?_;refine qa (hK34 _ _ (ct A ?_));refine wsk fun K36 hK36=>wrl ?_;iterate 2 refine sda A λa A=>?_
            refine qa (hK36 _ _ (wp_ret (hret _ _ (en2 A rfl (qj rfl) (qj rfl) ?_))));exact⟨by unfold yz; rw[if_neg (of_decide_eq_false hb5),if_neg (of_decide_eq_false hb8),if_neg (of_decide_eq_false hb11),if_neg (of_decide_eq_false hb14),if_neg (of_decide_eq_false hb18),if_neg (of_decide_eq_false hb20),if_neg (of_decide_eq_false hb23),if_neg (of_decide_eq_false hb26),if_neg (of_decide_eq_false hb29),if_neg (of_decide_eq_false hb32),if_pos (of_decide_eq_true hb35)]; rfl,M.bel⟩
           ·have hb35':=of_decide_eq_false hb35;refine sdo (v:=bV false) A (qb rfl rfl (fun w=>(zl (a:=l) (b:=[115,112,97,99,101]) Tryz.underlying9 w).trans (by rw[hb35]<;>rfl))) λa A=>?_;refine sda A λa A=>?_;refine qa (hK34 _ _ (cf A ?_));refine wsk fun K37 hK37=>wrl ?_;rcases tf (decide (l=[100,101,108,101,116,101]))with hb38 | hb38
            ·have hb38':=of_decide_eq_true hb38;refine sdo (v:=bV true) A (qb rfl rfl (fun w=>(zl (a:=l) (b:=[100,101,108,101,116,101]) Tryz.underlying9 w).trans (by rw[hb38]<;>rfl))) λa A=>?_;refine sda A λa A=>?_;refine qa (hK37 _ _ (ct A ?_));refine wsk fun K39 hK39=>wrl ?_;iterate 2 refine sda A λa A=>?_
             refine qa (hK39 _ _ (wp_ret (hret _ _ (en2 A rfl (qj rfl) (qj rfl) ?_))));exact⟨by unfold yz; rw[if_neg (of_decide_eq_false hb5),if_neg (of_decide_eq_false hb8),if_neg (of_decide_eq_false hb11),if_neg (of_decide_eq_false hb14),if_neg (of_decide_eq_false hb18),if_neg (of_decide_eq_false hb20),if_neg (of_decide_eq_false hb23),if_neg (of_decide_eq_false hb26),if_neg (of_decide_eq_false hb29),if_neg (of_decide_eq_false hb32),if_neg (of_decide_eq_false hb35),if_pos (of_decide_eq_true hb38)]; rfl,M.bel⟩
            ·have hb38':=of_decide_eq_false hb38;refine sdo (v:=bV false) A (qb rfl rfl (fun w=>(zl (a:=l) (b:=[100,101,108,101,116,101]) Tryz.underlying9 w).trans (by rw[hb38]<;>rfl))) λa A=>?_;refine sda A λa A=>?_;refine qa (hK37 _ _ (cf A ?_));refine wp_skip (hK2 _ _ (wsk fun K40 hK40=>wrl ?_));iterate 2 refine sda A λa A=>?_
             refine qa (hK40 _ _ (wp_ret (hret _ _ (en2 A rfl (qj rfl) (qj rfl) ?_))));exact⟨by unfold yz; rw[if_neg (of_decide_eq_false hb5),if_neg (of_decide_eq_false hb8),if_neg (of_decide_eq_false hb11),if_neg (of_decide_eq_false hb14),if_neg (of_decide_eq_false hb18),if_neg (of_decide_eq_false hb20),if_neg (of_decide_eq_false hb23),if_neg (of_decide_eq_false hb26),if_neg (of_decide_eq_false hb29),if_neg (of_decide_eq_false hb32),if_neg (of_decide_eq_false hb35),if_neg (of_decide_eq_false hb38)]; rfl,M.bel⟩
theorem zxh{w0 w:World}{g p:Nat}{lg:Bool}{L:List UInt8}{T:List Ck}(hT:Tb w0)(hp:p≤L.length)(hl:L.length≤1000000000)(hd0:qef (L.drop p)=true)(hM0:Mg w0 w (.obj g (rC L p lg)::T)):Calls Tryz.prog 55 #[pA g 0] w fun e w'=>e=.returned (bV true)∧Mg w0 w' (.obj g (rC L (p+1) lg)::T):=by
 have hd:decide ((L.drop p).take (kh ((L.drop p).length+1) (L.drop p))=[46])=true:=hd0;have hpf:=zth (of_decide_eq_true hd);have M:Mg w0 w (.obj g (rC L p lg)::T):=hM0;refine qn (l:=[(0,pA g 0)]) Tryz.func55 rfl Tryz.ntmps55 rfl rfl ?_;intro Q hret hnorm hP a A;refine wsk fun K1 hK1=>wrl (sda A λa A=>?_);refine qa (hK1 _ _ (wsk fun K2 hK2=>wrl (sdm A λa A=>?_)));refine sct A (ef rfl rfl) (vd (p:=p) (L:=L) (T:=(T)) (by omega) M) ?_;rintro _ w4 ⟨rfl,hM3⟩;replace M:Mg w0 w4 (.obj g (rC L p lg)::T):=hM3;refine⟨_,rfl,?_⟩;intro a A;refine gcl A M (ef rfl rfl) (qoh (l:=L.drop p) (hT.below M.bel) (by rw[List.length_drop]; omega)) fun w6 hb5 M a A=>?_;refine sdo (v:=bV true) A (qb rfl rfl (fun w=>(zl (a:=(L.drop p).take (kh ((L.drop p).length+1) (L.drop p))) (b:=[46]) Tryz.underlying9 w).trans (by rw[hd]<;>rfl))) λa A=>?_;iterate 2 refine sdm A λa A=>?_
 have htl9:1≤(L.drop p).length:=(List.isPrefixOf_iff_prefix.1 hpf).length_le;rw[List.length_drop]at htl9;refine sct A (ef rfl rfl) (kg (p:=p) (L:=L) (T:=(T)) (by omega) (by omega) hpf M) ?_;rintro _ w10 ⟨rfl,hM8⟩;replace M:Mg w0 w10 (.obj g (rC L (p+1) lg)::T):=hM8;refine⟨_,rfl,?_⟩;intro a A;refine sdk (v:=bV true) A λa A=>?_;refine sda A λa A=>?_;refine qa (hK2 _ _ (wr1 hret A ?_));exact⟨rfl,M⟩
theorem zxi{w0 w:World}{g p:Nat}{lg:Bool}{L:List UInt8}{T:List Ck}(hT:Tb w0)(hp:p≤L.length)(hl:L.length≤1000000000)(hd0:qef (L.drop p)=false)(hM0:Mg w0 w (.obj g (rC L p lg)::T)):Calls Tryz.prog 55 #[pA g 0] w fun e w'=>e=.returned (bV false)∧Mg w0 w' (.obj g (rC L p lg)::T):=by
 have hd:decide ((L.drop p).take (kh ((L.drop p).length+1) (L.drop p))=[46])=false:=hd0
 
 have M:Mg w0 w (.obj g (rC L p lg)::T):=hM0;refine qn (l:=[(0,pA g 0)]) Tryz.func55 rfl Tryz.ntmps55 rfl rfl ?_;intro Q hret hnorm hP a A;refine wsk fun K1 hK1=>wrl (sda A λa A=>?_);refine qa (hK1 _ _ (wsk fun K2 hK2=>wrl (sdm A λa A=>?_)));refine sct A (ef rfl rfl) (vd (p:=p) (L:=L) (T:=(T)) (by omega) M) ?_;rintro _ w4 ⟨rfl,hM3⟩;replace M:Mg w0 w4 (.obj g (rC L p lg)::T):=hM3;refine⟨_,rfl,?_⟩;intro a A;refine gcl A M (ef rfl rfl) (qoh (l:=L.drop p) (hT.below M.bel) (by rw[List.length_drop]; omega)) fun w6 hb5 M a A=>?_;refine sdo (v:=bV false) A (qb rfl rfl (fun w=>(zl (a:=(L.drop p).take (kh ((L.drop p).length+1) (L.drop p))) (b:=[46]) Tryz.underlying9 w).trans (by rw[hd]<;>rfl))) λa A=>?_;refine sdm A λa A=>?_;iterate 2 refine qf A rfl rfl rfl λa A=>?_
 refine sdk (v:=bV false) A λa A=>?_;refine sda A λa A=>?_;refine qa (hK2 _ _ (wr1 hret A ?_));exact⟨rfl,M⟩
theorem qme{P:Program}{Q:Exit→Act→World→Prop}{a:Act}{w:World}{c rest:Code}(l:Nat)(hf:findLabel c l=some rest)(h:c.wp P (Exit.jump l (fun a w=>rest.wp P (Exit.noGoto Q) a w) Q) a w):(Code.scope c).wp P Q a w:=
  wp_scope_jumps l _ (fun _ _=>0) hf h fun a w hJ=>wp_mono hJ fun e a w hq=>by
    cases e with
    | goto l' => exact hq.elim
    | normal => exact hq
    | exit id => exact hq
    | ret => exact hq
    | panic ch => exact hq
    | outgrown => exact hq
end Go.Proofs.YtgjohjfehgdgbaaGreatDoor.G
namespace Go.Proofs
open Go.Shelf
def Tryz.lays153_ren: Go.Shelf.Ren:=⟨fun | 153=>51 | 152=>71 | 226=>72 | 227=>73 | 228=>74 | 137=>105 | 119=>67 | 224=>106 | 225=>107 | 217=>133 | 266=>152 | n=>n,fun | 9=>9 | 3=>3 | 4=>4 | 5=>5 | 21=>21 | 117=>103 | 116=>102 | 0=>0 | 46=>71 | 124=>133 | n=>n,fun | n=>n⟩
theorem Tryz.lays153: Go.Proofs.Lays.n153 Tryz.prog Tryz.lays153_ren:={
  mixed:=by kernel_rfl
  f119:=Tryz.func67.trans (congrArg some (by kernel_rfl))
  f137:=Tryz.func105.trans (congrArg some (by kernel_rfl))
  f152:=Tryz.func71.trans (congrArg some (by kernel_rfl))
  f153:=Tryz.func51.trans (congrArg some (by kernel_rfl))
  f217:=Tryz.func133.trans (congrArg some (by kernel_rfl))
  f224:=Tryz.func106.trans (congrArg some (by kernel_rfl))
  f225:=Tryz.func107.trans (congrArg some (by kernel_rfl))
  f226:=Tryz.func72.trans (congrArg some (by kernel_rfl))
  f227:=Tryz.func73.trans (congrArg some (by kernel_rfl))
  f228:=Tryz.func74.trans (congrArg some (by kernel_rfl))
  f266:=Tryz.func152.trans (congrArg some (by kernel_rfl))
  t0:=Tryz.underlying0
  a0:=Tryz.isAgg0
  z0:=Tryz.sizeOf0
  v0:=Tryz.zeroValue0
  t3:=Tryz.underlying3
  a3:=Tryz.isAgg3
  z3:=Tryz.sizeOf3
  v3:=Tryz.zeroValue3
  t4:=Tryz.underlying4
  a4:=Tryz.isAgg4
  z4:=Tryz.sizeOf4
  v4:=Tryz.zeroValue4
  t5:=Tryz.underlying5
  a5:=Tryz.isAgg5
  z5:=Tryz.sizeOf5
  v5:=Tryz.zeroValue5
  t9:=Tryz.underlying9
  a9:=Tryz.isAgg9
  z9:=Tryz.sizeOf9
  v9:=Tryz.zeroValue9
  t21:=Tryz.underlying21
  a21:=Tryz.isAgg21
  z21:=Tryz.sizeOf21
  v21:=Tryz.zeroValue21
  t46:=Tryz.underlying71
  a46:=Tryz.isAgg71
  z46:=Tryz.sizeOf71
  v46:=Tryz.zeroValue71
  t116:=Tryz.underlying102
  a116:=Tryz.isAgg102
  z116:=Tryz.sizeOf102
  t117:=Tryz.underlying103
  a117:=Tryz.isAgg103
  z117:=Tryz.sizeOf103
  v117:=Tryz.zeroValue103
  t124:=Tryz.underlying133
  a124:=Tryz.isAgg133
  z124:=Tryz.sizeOf133
  v124:=Tryz.zeroValue133 }
end Go.Proofs
namespace Go.Proofs.YtgjohjfehgdgbaaGreatDoor.C
open Go.RowKit Go.Shelf Go.Lib

def ln7(r:Int):Bool:=decide (r=10∨r=13∨r=133∨r=8232)
def lnN: Nat→List UInt8→Nat
  | 0, _ => 0
  | f + 1, l => if l.isEmpty = true then 0 else if ln7 (((Lib.decodeL l).1 : Nat) : Int) = true then 0 else (Lib.decodeL l).2 + lnN f (l.drop (Lib.decodeL l).2)
def LnI(s:ByteArray)(pos:Nat):Prop:=∃f,s.size-pos≤f∧lnN s.size s.data.toList=pos+lnN f (s.data.toList.drop pos)
theorem LnI.zero(s:ByteArray):LnI s 0:=⟨s.size,by omega,by simp⟩
theorem qrh{s:ByteArray}{pos:Nat}(hp:pos<s.size):(s.data.toList.drop pos).isEmpty=false:=by
  rw[List.isEmpty_eq_false_iff];intro h;have:=List.drop_eq_nil_iff.1 h;rw[←Lib.size_eq]at this;omega
theorem LnI.hit{s:ByteArray}{pos:Nat}(h:LnI s pos)(hp:pos<s.size)(hc:ln7 (((Utf8.decode s pos).1:Nat):Int)=true):lnN s.size s.data.toList=pos:=by
  obtain⟨f,hf,e⟩:=h;obtain⟨k,rfl⟩:∃k,f=k+1:=⟨f-1,by omega⟩;rw[e,lnN,if_neg (by rw[qrh hp]; decide),Lib.decodeL_drop,if_pos hc,Nat.add_zero]
theorem LnI.step{s:ByteArray}{pos:Nat}(h:LnI s pos)(hp:pos<s.size)(hc:ln7 (((Utf8.decode s pos).1:Nat):Int)=false):LnI s (pos+(Utf8.decode s pos).2):=by
  obtain⟨f,hf,e⟩:=h;obtain⟨k,rfl⟩:∃k,f=k+1:=⟨f-1,by omega⟩;have hw:=Lib.decodeL_width (s.data.toList.drop pos);rw[Lib.decodeL_drop]at hw;refine⟨k,by omega,?_⟩;rw[e,lnN,if_neg (by rw[qrh hp]; decide),Lib.decodeL_drop,if_neg (by rw[hc]; decide),List.drop_drop];omega
theorem joa(f:Nat):lnN f []=0:=by cases f<;>rfl
theorem LnI.over{s:ByteArray}{pos:Nat}(h:LnI s pos)(hp:¬pos<s.size)(hq:pos≤s.size):lnN s.size s.data.toList=s.size:=by
  obtain⟨f,hf,e⟩:=h;rw[e,List.drop_of_length_le (by rw[←Lib.size_eq]; omega),joa];omega
theorem jdg(s:ByteArray)(pos:Nat)(hp:pos<s.size):OkR (((Utf8.decode s pos).1:Nat):Int):=by
  have:=G.qse (s.data.toList.drop pos);rw[Lib.decodeL_drop]at this;unfold OkR;omega
section
variable {P:Program} {ρ:Ren}
set_option maxRecDepth 1000000 in
theorem jvi(L:Lays.n227 P ρ)(hv116:∀w,(zeroValue (ρ.t 116)).run P w=.ok (.agg (Array.replicate 256 (.bool false))) w)(hi116:(P.info? (ρ.t 116)).map (·.size)=some 256)(chars:ByteArray)(hl:chars.data.toList=[10,13,194,133,226,128,168])(w:World):
    Calls P (ρ.f 227) #[.string chars] w fun e w'=>e=.returned (.tuple #[.agg (Lib.setCells [10,13]),.bool false])∧w'=w.alloc (.cells (Lib.setCells [10,13]) (ρ.t 116)):=by
  have hz:chars.size=7:=by rw[Lib.size_eq,hl]; rfl
  have HA:Aside (chars.data.toList=[10,13,194,133,226,128,168]):=hl;clear hl;have t3:=L.t3; have a3:=L.a3; have z3:=L.z3; have v3:=L.v3;have t4:=L.t4; have a4:=L.a4; have z4:=L.z4; have v4:=L.v4;have t5:=L.t5; have a5:=L.a5; have z5:=L.z5; have v5:=L.v5;have t9:=L.t9; have a9:=L.a9; have z9:=L.z9; have v9:=L.v9;have t116:=L.t116
  go_enter L.f227,Body.n227_ntmps ρ
  go_wp2
  rw[←Lib.setCells_nil]
  go_loopg [4] 2 (fun g s4 wx=>∃i:Nat,i+g=2∧s4=.int .i64 i∧wx=w.alloc (.cells (Lib.setCells (([10,13]:List UInt8).take i)) (ρ.t 116)))
  case atStart=>exact⟨0,by omega,rfl,rfl⟩
  case round=>
    obtain⟨i,hig,rfl,rfl⟩:=hrel;have hi:i<chars.size:=(by omega);have hiz:(i:Int)<(chars.size:Int):=(by omega);obtain⟨x,hx⟩:∃x:UInt8,chars[i]'hi=x:=⟨_,rfl⟩;have hxl:chars.data.toList[i]?=some x:=(by rw[←hx]; exact Lib.data_getElem? chars i hi);cases gk with
    | zero =>
      obtain rfl:i=2:=(by omega);obtain rfl:x=194:=(by rw[HA.out]at hxl; exact(Option.some.inj hxl).symm);clear hxl;have hx128:((128:Int)≤(((194:UInt8).toNat:Nat):Int)):=(by decide);rw[show([10,13]:List UInt8).take 2=[10,13]from rfl];have hld:=run_loadVar_new (P:=P) w (ρ.t 116) (Lib.setCells [10,13]) 256 (ρ.t 4) L.t116 (by rw[Lib.setCells_size]; exact hi116);have hsz:=Lib.setCells_size [10,13];have hlc:=run_loadCellsFrom_new (P:=P) w (ρ.t 116) (Lib.setCells [10,13]) 256 hsz;have hsc:=run_storeCells_new (P:=P) w (ρ.t 116) (Lib.setCells [10,13]) (Lib.setCells [10,13]) (by rw[hsz]; exact hi116) rfl (Lib.setCells_one _);obtain⟨A,hA⟩:∃A,Lib.setCells [10,13]=A:=⟨_,rfl⟩;rw[hA]at hld hsz hlc hsc ⊢
      go_wp2
      simp only[L.a116,L.z116,Result.andThen,↓reduceIte,hlc];rw[Oper.upon_value]
      go_wp2
      simp only[L.z116,Result.andThen,↓reduceIte,hsc];rw[Oper.upon_skip]
      go_wp2
      (try simp only[Exit.inBlock,Exit.then])
      refine bodyPost_ret (v:=.tuple #[.agg A,.bool false]) ?_ rfl ⟨by rw[hA],by rw[hA]⟩;rw[results_cell_tmp rfl];simp[asAddr,Result.andThen,hld]
    | succ g =>
      have hx128:¬((128:Int)≤(x.toNat:Int)):=by
        rw[HA.out]at hxl
        match i,hxl with
        | 0, h => obtain rfl := Option.some.inj h; decide
        | 1, h => obtain rfl := Option.some.inj h; decide
        | n + 2, h => omega
      have hx256:(x.toNat:Int)<256:=(by omega);have hcell:=Lib.setCells_at (([10,13]:List UInt8).take i) x;have Hx:Aside (([10,13]:List UInt8)[i]?=some x):=by
        rw[HA.out]at hxl
        match i,hxl with
        | 0, h => exact h
        | 1, h => exact h
        | n + 2, h => omega
      clear hxl
      go_wp2
      go_roundg g
      case measure=>omega
      case rel=>exact⟨i+1,by omega,by first | rfl | simp,by rw[List.take_add_one,Hx.out]; simp only[Option.toList]; rw[Lib.setCells_snoc]⟩
set_option maxRecDepth 1000000 in
theorem zgh(L:Lays.n153 P ρ)(hv116:∀w,(zeroValue (ρ.t 116)).run P w=.ok (.agg (Array.replicate 256 (.bool false))) w)(hi116:(P.info? (ρ.t 116)).map (·.size)=some 256)(s chars:ByteArray)(hl:chars.data.toList=[10,13,194,133,226,128,168])(hir:∀(r:Int) (w:World),OkR r→Calls P (ρ.f 152) #[.string chars,.int .i32 r] w fun e w'=>∃v:Int,e=.returned (.int .i64 v)∧decide (0≤v)=ln7 r∧Below w.heap.size w w')(w:World)(h8:s.size≤8)(hs:s.size<4294967281):
    Calls P (ρ.f 153) #[.string s,.string chars] w fun e w'=>(∃v:Int,e=.returned (.int .i64 v)∧(v=((lnN s.size s.data.toList:Nat):Int)∧lnN s.size s.data.toList<s.size∨v=-1∧lnN s.size s.data.toList=s.size))∧Below w.heap.size w w':=by
  have hz:chars.size=7:=by rw[Lib.size_eq,hl]; rfl
  have hemp:chars.toList.isEmpty=false:=by rw[Lib.toList_data,hl]; rfl
  have hn1:((chars.size:Int)==1)=false:=beq_eq_false_iff_ne.2 (by omega);have h8z:decide ((8:Int)<(s.size:Int))=false:=decide_eq_false (by omega);have HR:Aside (∀(r:Int) (w:World),OkR r→Calls P (ρ.f 152) #[.string chars,.int .i32 r] w fun e w'=>∃v:Int,e=.returned (.int .i64 v)∧decide (0≤v)=ln7 r∧Below w.heap.size w w'):=hir;clear hir hl;have t3:=L.t3; have a3:=L.a3; have z3:=L.z3; have v3:=L.v3;have t4:=L.t4; have a4:=L.a4; have z4:=L.z4; have v4:=L.v4;have t5:=L.t5; have a5:=L.a5; have z5:=L.z5; have v5:=L.v5;have t9:=L.t9; have a9:=L.a9; have z9:=L.z9; have v9:=L.v9;have t21:=L.t21; have a21:=L.a21; have z21:=L.z21; have v21:=L.v21;have t116:=L.t116;have e152:∀args w,(callFunc (ρ.f 152) args).run P w=.ok (.enter (ρ.f 152) args) w:=enters_of L.f152 (by kernel_rfl) rfl;have e226:∀args w,(callFunc (ρ.f 226) args).run P w=.ok (.enter (ρ.f 226) args) w:=enters_of L.f226 (by kernel_rfl) rfl;have e227:∀args w,(callFunc (ρ.f 227) args).run P w=.ok (.enter (ρ.f 227) args) w:=enters_of L.f227 (by kernel_rfl) rfl
  go_enter L.f153,Body.n153_ntmps ρ
  go_wp2_with (first
    | (go_at_fn (ρ.f 226); refine (Any.strings_shouldUseASCIISet { L with } _ _).mono ?_; rintro e w' ⟨rfl, hw⟩; rw [hw, h8z])
    | (go_at_fn (ρ.f 227); fail))
  go_loopw [9,10] (fun _ _ wr=>∃(pos:Nat),wr.heap[w.heap.size]?=some (.stringIter s pos)∧Below w.heap.size w wr∧LnI s pos∧pos≤s.size) (fun _ _ wr=>s.size-wr.iterPos w.heap.size)
  case atStart=>
    refine⟨0,?_,?_,LnI.zero s,Nat.zero_le _⟩
    · simpa using World.iter_heap w s 0
    · exact(Below.refl _ w).alloc (Nat.le_refl _) _
  case round=>
    obtain⟨pos,hit,hbw,hno,hq⟩:=hrel;have HN:Aside (LnI s pos):=hno;clear hno;have hsz:w.heap.size<wr.heap.size:=(Array.getElem?_eq_some_iff.1 hit).1;by_cases hp:pos<s.size
    · have hnx:∀ty,(Instr.next (.pointer (some ⟨w.heap.size,0,none⟩)) true ty).run P wr=_:=fun ty=>Lib.run_next_any_at wr w.heap.size s pos ty hit hp;have hit2:=Lib.iterAt_heap wr w.heap.size s pos (pos+(Utf8.decode s pos).2) hit;have hbw2:=Lib.below_iterAt hbw (k:=w.heap.size) (by omega) s (pos+(Utf8.decode s pos).2);have HO:Aside (OkR (((Utf8.decode s pos).1:Nat):Int)):=jdg s pos hp;have HH:Aside (ln7 (((Utf8.decode s pos).1:Nat):Int)=true→lnN s.size s.data.toList=pos):=fun h=>HN.out.hit hp h;have HS:Aside (ln7 (((Utf8.decode s pos).1:Nat):Int)=false→LnI s (pos+(Utf8.decode s pos).2)):=fun h=>HN.out.step hp h;have hle:pos+(Utf8.decode s pos).2≤s.size:=by
        have:=Lib.decodeL_le (s.data.toList.drop pos) (by have:=qrh hp; intro h; rw[h]at this; cases this);rw[Lib.decodeL_drop,List.length_drop,←Lib.size_eq]at this;omega
      have hwd:=Lib.decodeL_width (s.data.toList.drop pos);rw[Lib.decodeL_drop]at hwd;generalize Utf8.decode s pos=d at hnx hit2 hbw2 HO HH HS hle hwd;obtain⟨c,wd⟩:=d;dsimp only at hnx hit2 hbw2 HO HH HS hle hwd;cases hc:ln7 ((c:Nat):Int)
      · go_wp2_with (go_at_fn (ρ.f 152); refine(HR.out _ _ HO.out).mono ?_; rintro e w' ⟨v,rfl,hv,hbv⟩; rw[hc]at hv; have hv0:¬((0:Int)≤v):=of_decide_eq_false hv)
        go_roundw
        case rel=>exact⟨pos+wd,heap_below hit2 hbv,hbw2.trans (hbv.mono hbw2.size),HS.out hc,hle⟩
        case measure=>
          simp only[World.iterPos,heap_below hit2 hbv,hit];omega
      · go_wp2_with (go_at_fn (ρ.f 152); refine(HR.out _ _ HO.out).mono ?_; rintro e w' ⟨v,rfl,hv,hbv⟩; rw[hc]at hv; have hv0:(0:Int)≤v:=of_decide_eq_true hv)
        go_ret
        exact⟨⟨_,rfl,.inl ⟨by rw[HH.out hc],by rw[HH.out hc]; exact hp⟩⟩,hbw2.trans (hbv.mono hbw2.size)⟩
    · have hnx:∀ty,(Instr.next (.pointer (some ⟨w.heap.size,0,none⟩)) true ty).run P wr=_:=fun ty=>Lib.run_next_end_at wr w.heap.size s pos ty hit hp
      go_wp2
      go_ret
      exact⟨⟨_,rfl,.inr ⟨rfl,HN.out.over hp hq⟩⟩,hbw⟩
set_option maxRecDepth 1000000 in
theorem zob(L:Lays.n153 P ρ)(hv116:∀w,(zeroValue (ρ.t 116)).run P w=.ok (.agg (Array.replicate 256 (.bool false))) w)(hi116:(P.info? (ρ.t 116)).map (·.size)=some 256)(s chars:ByteArray)(hl:chars.data.toList=[10,13,194,133,226,128,168])(hir:∀(r:Int) (w:World),OkR r→Calls P (ρ.f 152) #[.string chars,.int .i32 r] w fun e w'=>∃v:Int,e=.returned (.int .i64 v)∧decide (0≤v)=ln7 r∧Below w.heap.size w w')(w:World)(h8:8<s.size)(hs:s.size<4294967281):
    Calls P (ρ.f 153) #[.string s,.string chars] w fun e w'=>(∃v:Int,e=.returned (.int .i64 v)∧(v=((lnN s.size s.data.toList:Nat):Int)∧lnN s.size s.data.toList<s.size∨v=-1∧lnN s.size s.data.toList=s.size))∧Below w.heap.size w w':=by
  have hM:=jvi { L with } hv116 hi116 chars hl w;have hsc:(storeCells ⟨w.heap.size+1,0,none⟩ (Lib.setCells [10,13]).toList 0).run P ((w.alloc (.cells (Lib.setCells [10,13]) (ρ.t 116))).alloc (.cells (Array.replicate 256 (.bool false)) (ρ.t 116)))=.ok () ((w.alloc (.cells (Lib.setCells [10,13]) (ρ.t 116))).alloc (.cells (Lib.setCells [10,13]) (ρ.t 116))):=by
    have:=run_storeCells_new (P:=P) (w.alloc (.cells (Lib.setCells [10,13]) (ρ.t 116))) (ρ.t 116) (Array.replicate 256 (.bool false)) (Lib.setCells [10,13]) (by rw[Lib.setCells_size]; exact hi116) (by rw[Lib.setCells_size,Array.size_replicate]) (Lib.setCells_one _);simpa using this
  obtain⟨A,hA⟩:∃A,Lib.setCells [10,13]=A:=⟨_,rfl⟩;have hsz:A.size=256:=by rw[←hA]; exact Lib.setCells_size _
  rw[hA]at hM hsc;clear hA;have hz:chars.size=7:=by rw[Lib.size_eq,hl]; rfl
  have hemp:chars.toList.isEmpty=false:=by rw[Lib.toList_data,hl]; rfl
  have hn1:((chars.size:Int)==1)=false:=beq_eq_false_iff_ne.2 (by omega);have h8z:decide ((8:Int)<(s.size:Int))=true:=decide_eq_true (by omega);have HR:Aside (∀(r:Int) (w:World),OkR r→Calls P (ρ.f 152) #[.string chars,.int .i32 r] w fun e w'=>∃v:Int,e=.returned (.int .i64 v)∧decide (0≤v)=ln7 r∧Below w.heap.size w w'):=hir;clear hir hl;have t3:=L.t3; have a3:=L.a3; have z3:=L.z3; have v3:=L.v3;have t4:=L.t4; have a4:=L.a4; have z4:=L.z4; have v4:=L.v4;have t5:=L.t5; have a5:=L.a5; have z5:=L.z5; have v5:=L.v5;have t9:=L.t9; have a9:=L.a9; have z9:=L.z9; have v9:=L.v9;have t21:=L.t21; have a21:=L.a21; have z21:=L.z21; have v21:=L.v21;have t116:=L.t116;have e152:∀args w,(callFunc (ρ.f 152) args).run P w=.ok (.enter (ρ.f 152) args) w:=enters_of L.f152 (by kernel_rfl) rfl;have e226:∀args w,(callFunc (ρ.f 226) args).run P w=.ok (.enter (ρ.f 226) args) w:=enters_of L.f226 (by kernel_rfl) rfl;have e227:∀args w,(callFunc (ρ.f 227) args).run P w=.ok (.enter (ρ.f 227) args) w:=enters_of L.f227 (by kernel_rfl) rfl
  go_enter L.f153,Body.n153_ntmps ρ
  go_wp2_with (first
    | (go_at_fn (ρ.f 226); refine (Any.strings_shouldUseASCIISet { L with } _ _).mono ?_; rintro e w' ⟨rfl, hw⟩; rw [hw, h8z])
    | (go_at_fn (ρ.f 227); refine hM.mono ?_; rintro e w' ⟨rfl, hw⟩; rw [hw]))
  simp only[L.z116,Result.andThen,↓reduceIte,hsc];rw[Oper.upon_skip]
  go_wp2
  clear hM hsc
  go_loopw [9,10] (fun _ _ wr=>∃(pos:Nat),wr.heap[(w.heap.size+1+1)]?=some (.stringIter s pos)∧Below w.heap.size w wr∧LnI s pos∧pos≤s.size) (fun _ _ wr=>s.size-wr.iterPos (w.heap.size+1+1))
  case atStart=>
    refine⟨0,?_,?_,LnI.zero s,Nat.zero_le _⟩
    · rw[show w.heap.size+1+1=((w.alloc (.cells A (ρ.t 116))).alloc (.cells A (ρ.t 116))).heap.size from by rw[World.alloc,World.alloc,Array.size_push,Array.size_push]];exact World.iter_heap _ s 0
    · exact(((Below.refl _ w).alloc (Nat.le_refl _) _).alloc (by rw[World.alloc,Array.size_push]; omega) _).alloc (by rw[World.alloc,World.alloc,Array.size_push,Array.size_push]; omega) _
  case round=>
    obtain⟨pos,hit,hbw,hno,hq⟩:=hrel;have HN:Aside (LnI s pos):=hno;clear hno;have hsz:(w.heap.size+1+1)<wr.heap.size:=(Array.getElem?_eq_some_iff.1 hit).1;by_cases hp:pos<s.size
    · have hnx:∀ty,(Instr.next (.pointer (some ⟨(w.heap.size+1+1),0,none⟩)) true ty).run P wr=_:=fun ty=>Lib.run_next_any_at wr (w.heap.size+1+1) s pos ty hit hp;have hit2:=Lib.iterAt_heap wr (w.heap.size+1+1) s pos (pos+(Utf8.decode s pos).2) hit;have hbw2:=Lib.below_iterAt hbw (k:=(w.heap.size+1+1)) (by omega) s (pos+(Utf8.decode s pos).2);have HO:Aside (OkR (((Utf8.decode s pos).1:Nat):Int)):=jdg s pos hp;have HH:Aside (ln7 (((Utf8.decode s pos).1:Nat):Int)=true→lnN s.size s.data.toList=pos):=fun h=>HN.out.hit hp h;have HS:Aside (ln7 (((Utf8.decode s pos).1:Nat):Int)=false→LnI s (pos+(Utf8.decode s pos).2)):=fun h=>HN.out.step hp h;have hle:pos+(Utf8.decode s pos).2≤s.size:=by
        have:=Lib.decodeL_le (s.data.toList.drop pos) (by have:=qrh hp; intro h; rw[h]at this; cases this);rw[Lib.decodeL_drop,List.length_drop,←Lib.size_eq]at this;omega
      have hwd:=Lib.decodeL_width (s.data.toList.drop pos);rw[Lib.decodeL_drop]at hwd;generalize Utf8.decode s pos=d at hnx hit2 hbw2 HO HH HS hle hwd;obtain⟨c,wd⟩:=d;dsimp only at hnx hit2 hbw2 HO HH HS hle hwd;cases hc:ln7 ((c:Nat):Int)
      · go_wp2_with (go_at_fn (ρ.f 152); refine(HR.out _ _ HO.out).mono ?_; rintro e w' ⟨v,rfl,hv,hbv⟩; rw[hc]at hv; have hv0:¬((0:Int)≤v):=of_decide_eq_false hv)
        go_roundw
        case rel=>exact⟨pos+wd,heap_below hit2 hbv,hbw2.trans (hbv.mono hbw2.size),HS.out hc,hle⟩
        case measure=>
          simp only[World.iterPos,heap_below hit2 hbv,hit];omega
      · go_wp2_with (go_at_fn (ρ.f 152); refine(HR.out _ _ HO.out).mono ?_; rintro e w' ⟨v,rfl,hv,hbv⟩; rw[hc]at hv; have hv0:(0:Int)≤v:=of_decide_eq_true hv)
        go_ret
        exact⟨⟨_,rfl,.inl ⟨by rw[HH.out hc],by rw[HH.out hc]; exact hp⟩⟩,hbw2.trans (hbv.mono hbw2.size)⟩
    · have hnx:∀ty,(Instr.next (.pointer (some ⟨(w.heap.size+1+1),0,none⟩)) true ty).run P wr=_:=fun ty=>Lib.run_next_end_at wr (w.heap.size+1+1) s pos ty hit hp
      go_wp2
      go_ret
      exact⟨⟨_,rfl,.inr ⟨rfl,HN.out.over hp hq⟩⟩,hbw⟩
end
def S7: ByteArray:=⟨#[10,13,194,133,226,128,168]⟩
def At7(pos:Nat):Prop:=pos=0∨pos=1∨pos=2∨pos=4∨pos=7
theorem at7(pos:Nat)(h:At7 pos)(hp:pos<S7.size):(((Utf8.decode S7 pos).1:Nat):Int)≠65533∧At7 (pos+(Utf8.decode S7 pos).2)∧1≤(Utf8.decode S7 pos).2:=by
  rcases h with rfl | rfl | rfl | rfl | rfl
  · exact⟨by decide +kernel,.inr (.inl (by decide +kernel)),by decide +kernel⟩
  · exact⟨by decide +kernel,.inr (.inr (.inl (by decide +kernel))),by decide +kernel⟩
  · exact⟨by decide +kernel,.inr (.inr (.inr (.inl (by decide +kernel)))),by decide +kernel⟩
  · exact⟨by decide +kernel,.inr (.inr (.inr (.inr (by decide +kernel)))),by decide +kernel⟩
  · exact absurd hp (by decide)
set_option maxRecDepth 1000000 in
theorem irune_err7(w:World):Calls Tryz.prog 71 #[.string S7,.int .i32 65533] w fun e w'=>e=.returned (.int .i64 (-1))∧Below w.heap.size w w':=by
  have HA:Aside (∀(pos:Nat),At7 pos→pos<S7.size→(((Utf8.decode S7 pos).1:Nat):Int)≠65533∧At7 (pos+(Utf8.decode S7 pos).2)∧1≤(Utf8.decode S7 pos).2):=at7;generalize S7=s at HA
  go_enter Tryz.func71,Tryz.ntmps71
  go_wp2
  go_loopw [] (fun wr=>∃(pos:Nat),wr.heap[w.heap.size]?=some (.stringIter s pos)∧Below w.heap.size w wr∧At7 pos) (fun wr=>s.size-wr.iterPos w.heap.size)
  case atStart=>
    refine⟨0,?_,(Below.refl _ w).alloc (Nat.le_refl _) _,.inl rfl⟩;simpa using World.iter_heap w s 0
  case round=>
    obtain⟨pos,hit,hbw,hat⟩:=hrel;have hsz:w.heap.size<wr.heap.size:=(Array.getElem?_eq_some_iff.1 hit).1;by_cases hp:pos<s.size
    · have hnx:∀ty,(Instr.next (.pointer (some ⟨w.heap.size,0,none⟩)) true ty).run Tryz.prog wr=_:=fun ty=>Lib.run_next_any_at wr w.heap.size s pos ty hit hp;obtain⟨hd,ha2,hw1⟩:=HA.out pos hat hp;have hit2:=Lib.iterAt_heap wr w.heap.size s pos (pos+(Utf8.decode s pos).2) hit;have hbw2:=Lib.below_iterAt hbw (k:=w.heap.size) (by omega) s (pos+(Utf8.decode s pos).2);generalize Utf8.decode s pos=d at hnx hit2 hbw2 hd ha2 hw1;obtain⟨c,wd⟩:=d;dsimp only at hnx hit2 hbw2 hd ha2 hw1;have hq:(((c:Nat):Int)==65533)=false:=beq_eq_false_iff_ne.2 hd;have HB:Aside (At7 (pos+wd)):=ha2;clear hat ha2 hd
      go_wp2
      go_roundw
      case rel=>exact⟨pos+wd,hit2,hbw2,HB.out⟩
      case measure=>
        simp only[World.iterPos,hit2,hit];omega
    · have hnx:∀ty,(Instr.next (.pointer (some ⟨w.heap.size,0,none⟩)) true ty).run Tryz.prog wr=_:=fun ty=>Lib.run_next_end_at wr w.heap.size s pos ty hit hp;clear hat
      go_wp2
      go_ret
      exact⟨rfl,hbw⟩
theorem ix7: ∀k:Nat,k<128→decide (0≤Lib.indexByte S7.data.toList (k:Int).toNat.toUInt8)=ln7 k:=by decide +kernel
theorem iany7(s:ByteArray)(hir:∀(r:Int) (w:World),OkR r→Calls Tryz.prog 71 #[.string S7,.int .i32 r] w fun e w'=>∃v:Int,e=.returned (.int .i64 v)∧decide (0≤v)=ln7 r∧Below w.heap.size w w')(w:World)(hs:s.size<4294967281):
    Calls Tryz.prog 51 #[.string s,.string S7] w fun e w'=>(∃v:Int,e=.returned (.int .i64 v)∧(v=((lnN s.size s.data.toList:Nat):Int)∧lnN s.size s.data.toList<s.size∨v=-1∧lnN s.size s.data.toList=s.size))∧Below w.heap.size w w':=by
  by_cases h8:8<s.size
  · exact zob Tryz.lays153 (fun w=>by kernel_rfl) (by kernel_rfl) s S7 rfl hir w h8 hs
  · exact zgh Tryz.lays153 (fun w=>by kernel_rfl) (by kernel_rfl) s S7 rfl hir w (by omega) hs
end Go.Proofs.YtgjohjfehgdgbaaGreatDoor.C
namespace Go.Proofs.YtgjohjfehgdgbaaGreatDoor.G
open Go.RowKit
set_option maxRecDepth 100000

open C (ln7)
theorem jte{w:World}{l:List UInt8}{b:UInt8}{v:Int}(h:Lib.indexByte l b=v):Calls Tryz.prog 105 #[.string (tx l),.int .u8 ((b.toNat:Nat):Int)] w fun e w'=>e=.returned (iV v)∧Below w.heap.size w w':=
 (Tryz.strings_IndexByte (tx l) ((b.toNat:Nat):Int) w).mono fun e w' h1=>⟨by rw[h1.1,xv,Int.toNat_natCast,show b.toNat.toUInt8=b from UInt8.ofNat_toNat,h],by rw[h1.2]; exact Below.refl _ _⟩
theorem jzf{w:World}{r:Int}(h:Lib.validRune r=true):Calls Tryz.prog 67 #[.int .i32 r] w fun e w'=>e=.returned (bV true)∧Below w.heap.size w w':=
 (Tryz.utf8_ValidRune r w).mono fun e w' h1=>⟨by rw[h1.1,h],by rw[h1.2]; exact Below.refl _ _⟩
theorem zoc{r:Int}(hv:Lib.validRune r=true){l:List UInt8}(h:Lib.encodeRune r=l):Utf8.encode r=tx l:=by
 have:=encode_valid r (by obtain h | h:=of_decide_eq_true hv<;>exact⟨by omega,by omega,by omega⟩);rw[h]at this;rw[←this,jtc]
theorem qeg{x:Int}(h0:0≤x)(h1:x≤255):((x.toNat.toUInt8.toNat:Nat):Int)=x:=by
 rw[show x.toNat.toUInt8.toNat=x.toNat from by simp; omega];omega
theorem jzg{w:World}:Calls Tryz.prog 106 #[iV 1] w fun e w'=>e=.returned (iV 2)∧Below w.heap.size w w':=by
 have M:Mg w w ([]):=Mg.start w;refine qn (l:=[(0,iV 1)]) Tryz.func106 rfl Tryz.ntmps106 rfl rfl ?_;intro Q hret hnorm hP a A;refine wsk fun K1 hK1=>wrl (sda A λa A=>?_);refine qa (hK1 _ _ (wsk fun K2 hK2=>wrl (sdm A λa A=>?_)));refine sdo (v:=iV 17) A (qb rfl rfl (ar_add rfl)) λa A=>?_;refine sdo (v:=iV 2) A (qb rfl rfl (ar_quo (by decide) (by decide))) λa A=>?_;refine sda A λa A=>?_;refine qa (hK2 _ _ (wr1 hret A ?_));exact⟨rfl,M.bel⟩
theorem jzh{w:World}:Calls Tryz.prog 106 #[iV 2] w fun e w'=>e=.returned (iV 2)∧Below w.heap.size w w':=by
 have M:Mg w w ([]):=Mg.start w;refine qn (l:=[(0,iV 2)]) Tryz.func106 rfl Tryz.ntmps106 rfl rfl ?_;intro Q hret hnorm hP a A;refine wsk fun K1 hK1=>wrl (sda A λa A=>?_);refine qa (hK1 _ _ (wsk fun K2 hK2=>wrl (sdm A λa A=>?_)));refine sdo (v:=iV 18) A (qb rfl rfl (ar_add rfl)) λa A=>?_;refine sdo (v:=iV 2) A (qb rfl rfl (ar_quo (by decide) (by decide))) λa A=>?_;refine sda A λa A=>?_;refine qa (hK2 _ _ (wr1 hret A ?_));exact⟨rfl,M.bel⟩
theorem jzi{w:World}:Calls Tryz.prog 106 #[iV 3] w fun e w'=>e=.returned (iV 2)∧Below w.heap.size w w':=by
 have M:Mg w w ([]):=Mg.start w;refine qn (l:=[(0,iV 3)]) Tryz.func106 rfl Tryz.ntmps106 rfl rfl ?_;intro Q hret hnorm hP a A;refine wsk fun K1 hK1=>wrl (sda A λa A=>?_);refine qa (hK1 _ _ (wsk fun K2 hK2=>wrl (sdm A λa A=>?_)));refine sdo (v:=iV 19) A (qb rfl rfl (ar_add rfl)) λa A=>?_;refine sdo (v:=iV 2) A (qb rfl rfl (ar_quo (by decide) (by decide))) λa A=>?_;refine sda A λa A=>?_;refine qa (hK2 _ _ (wr1 hret A ?_));exact⟨rfl,M.bel⟩
theorem jzj{w:World}:Calls Tryz.prog 106 #[iV 4] w fun e w'=>e=.returned (iV 2)∧Below w.heap.size w w':=by
 have M:Mg w w ([]):=Mg.start w;refine qn (l:=[(0,iV 4)]) Tryz.func106 rfl Tryz.ntmps106 rfl rfl ?_;intro Q hret hnorm hP a A;refine wsk fun K1 hK1=>wrl (sda A λa A=>?_);refine qa (hK1 _ _ (wsk fun K2 hK2=>wrl (sdm A λa A=>?_)));refine sdo (v:=iV 20) A (qb rfl rfl (ar_add rfl)) λa A=>?_;refine sdo (v:=iV 2) A (qb rfl rfl (ar_quo (by decide) (by decide))) λa A=>?_;refine sda A λa A=>?_;refine qa (hK2 _ _ (wr1 hret A ?_));exact⟨rfl,M.bel⟩
theorem xaa{w:World}:Calls Tryz.prog 106 #[iV 5] w fun e w'=>e=.returned (iV 2)∧Below w.heap.size w w':=by
 have M:Mg w w ([]):=Mg.start w;refine qn (l:=[(0,iV 5)]) Tryz.func106 rfl Tryz.ntmps106 rfl rfl ?_;intro Q hret hnorm hP a A;refine wsk fun K1 hK1=>wrl (sda A λa A=>?_);refine qa (hK1 _ _ (wsk fun K2 hK2=>wrl (sdm A λa A=>?_)));refine sdo (v:=iV 21) A (qb rfl rfl (ar_add rfl)) λa A=>?_;refine sdo (v:=iV 2) A (qb rfl rfl (ar_quo (by decide) (by decide))) λa A=>?_;refine sda A λa A=>?_;refine qa (hK2 _ _ (wr1 hret A ?_));exact⟨rfl,M.bel⟩
theorem xab{w:World}:Calls Tryz.prog 106 #[iV 6] w fun e w'=>e=.returned (iV 2)∧Below w.heap.size w w':=by
 have M:Mg w w ([]):=Mg.start w;refine qn (l:=[(0,iV 6)]) Tryz.func106 rfl Tryz.ntmps106 rfl rfl ?_;intro Q hret hnorm hP a A;refine wsk fun K1 hK1=>wrl (sda A λa A=>?_);refine qa (hK1 _ _ (wsk fun K2 hK2=>wrl (sdm A λa A=>?_)));refine sdo (v:=iV 22) A (qb rfl rfl (ar_add rfl)) λa A=>?_;refine sdo (v:=iV 2) A (qb rfl rfl (ar_quo (by decide) (by decide))) λa A=>?_;refine sda A λa A=>?_;refine qa (hK2 _ _ (wr1 hret A ?_));exact⟨rfl,M.bel⟩
theorem xac{w:World}:Calls Tryz.prog 106 #[iV 7] w fun e w'=>e=.returned (iV 2)∧Below w.heap.size w w':=by
 have M:Mg w w ([]):=Mg.start w;refine qn (l:=[(0,iV 7)]) Tryz.func106 rfl Tryz.ntmps106 rfl rfl ?_;intro Q hret hnorm hP a A;refine wsk fun K1 hK1=>wrl (sda A λa A=>?_);refine qa (hK1 _ _ (wsk fun K2 hK2=>wrl (sdm A λa A=>?_)));refine sdo (v:=iV 23) A (qb rfl rfl (ar_add rfl)) λa A=>?_;refine sdo (v:=iV 2) A (qb rfl rfl (ar_quo (by decide) (by decide))) λa A=>?_;refine sda A λa A=>?_;refine qa (hK2 _ _ (wr1 hret A ?_));exact⟨rfl,M.bel⟩
def s7: List UInt8:=[10,13,194,133,226,128,168]
theorem qtj: s7.length=7:=rfl
theorem xad{i k:Nat}(h1:i<k)(h2:k<7):s7.getD i 0≠s7.getD k 0:=by
 have h:∀i k:Fin 7,i<k→s7.getD i 0≠s7.getD k 0:=by decide
 exact h ⟨i,by omega⟩ ⟨k,h2⟩ h1
theorem qqa{l:List UInt8}{i:Nat}(h:i<l.length):l[i]?=some (l.getD i 0):=by
 rw[List.getD_eq_getElem?_getD,List.getElem?_eq_getElem h]; rfl
theorem qua{a b:UInt8}(h:((a.toNat:Nat):Int)=((b.toNat:Nat):Int)):a=b:=UInt8.toNat_inj.1 (by omega)
def atS(B:List UInt8)(k:Nat):Prop:=B.length-1≤k∧k<7∧∀t,t<B.length→s7.getD (k-t) 0=B.getD (B.length-1-t) 0
theorem xae{B:List UInt8}{i:Nat}(hB:2≤B.length)(h:Lib.indexByte (s7.drop (i+1)) (B.getD (B.length-1) 0)=-1)(hn:s7.getD i 0≠B.getD (B.length-1) 0)(hlt:∀k,k<i→¬atS B k):∀k,¬atS B k:=fun k hk=>by
 have h0:s7.getD k 0=B.getD (B.length-1) 0:=hk.2.2 0 (by omega);have hk7:=hk.2.1;by_cases h1:k<i
 ·exact hlt k h1 hk
 by_cases h2:k=i
 ·subst h2; exact hn h0
 refine Lib.indexByte_none h (k-(i+1)) ?_;rw[List.getElem?_drop,show i+1+(k-(i+1))=k by omega,qqa (by rw[qtj]; exact hk7),h0]
theorem jdh{B:List UInt8}{i o:Nat}(hB:2≤B.length)(h:Lib.indexByte (s7.drop (i+1)) (B.getD (B.length-1) 0)=((o:Nat):Int))(hn:s7.getD i 0≠B.getD (B.length-1) 0)(hlt:∀k,k<i→¬atS B k):i+o+1<7∧s7.getD (i+o+1) 0=B.getD (B.length-1) 0∧∀k,k<i+o+1→¬atS B k:=by
 obtain⟨h1,h2⟩:=Lib.indexByte_some h;rw[List.getElem?_drop,show i+1+o=i+o+1 by omega]at h1;obtain⟨h3,h4⟩:=List.getElem?_eq_some_iff.1 h1;rw[qtj]at h3;have h5:=h1;rw[qqa (by rw[qtj]; exact h3)]at h5;refine⟨h3,Option.some.inj h5,fun k hk hs=>?_⟩;have h0:s7.getD k 0=B.getD (B.length-1) 0:=hs.2.2 0 (by omega);by_cases h6:k<i
 ·exact hlt k h6 hs
 by_cases h7:k=i
 ·subst h7; exact hn h0
 refine h2 (k-(i+1)) (by omega) ?_;rw[List.getElem?_drop,show i+1+(k-(i+1))=k by omega,qqa (by rw[qtj]; omega),h0]
theorem job{w:World}{i:Nat}(h1:1≤i)(h:i≤7):Calls Tryz.prog 106 #[iV ((i:Nat):Int)] w fun e w'=>e=.returned (iV 2)∧Below w.heap.size w w':=by
 match i,h1,h with
 | 1, _, _ => exact jzg
 | 2, _, _ => exact jzh
 | 3, _, _ => exact jzi
 | 4, _, _ => exact jzj
 | 5, _, _ => exact xaa
 | 6, _, _ => exact xab
 | 7, _, _ => exact xac
theorem joc{w:World}{r:Int}{B:List UInt8}(h2:2≤B.length)(h4:B.length≤4)(h0:128≤r)(hne:r≠65533)(hv:Lib.validRune r=true)(henc:Utf8.encode r=tx B):Calls Tryz.prog 71 #[.string (tx s7),.int .i32 r] w fun e w'=>∃v:Int,e=.returned (iV v)∧(0≤v∧(∃k,atS B k)∨v<0∧∀k,¬atS B k)∧Below w.heap.size w w':=by
 have hs7:=qtj;have M:Mg w w ([]):=Mg.start w;refine qn (l:=[(0,.string ((tx s7))),(1,.int .i32 r)]) Tryz.func71 rfl Tryz.ntmps71 rfl rfl ?_;intro Q hret hnorm hP a A;refine wsk fun K1 hK1=>wrl (sda A λa A=>?_);refine qa (hK1 _ _ (wp_block (wsk fun K2 hK2=>wrl (sdm A λa A=>?_))));refine sdo (v:=bV true) A (qb rfl rfl (fun w=>(jh w).trans (by rw[show(decide (0≤r))=true from(decide_eq_true (by omega))]))) λa A=>?_;iterate 2 refine sdm A λa A=>?_
 refine sdo (v:=bV false) A (qb rfl rfl (fun w=>(zs w).trans (by rw[show(decide (r<128))=false from(decide_eq_false (by omega))]))) λa A=>?_;refine sdk (v:=bV false) A λa A=>?_;refine sda A λa A=>?_;refine qa (hK2 _ _ (cf A ?_));refine wsk fun K3 hK3=>wrl (sdm A λa A=>?_);refine sdo (v:=bV false) A (qb rfl rfl (fun w=>(qg w).trans (by rw[show((r==65533))=false from(beq_eq_false_iff_ne.2 (by omega))]))) λa A=>?_;refine sda A λa A=>?_;refine qa (hK3 _ _ (cf A ?_));refine wsk fun K4 hK4=>wrl (sdm A λa A=>?_);refine gcl A M (ef rfl rfl) (jzf hv) fun w6 hb5 M a A=>?_;refine sdo (v:=bV false) A (qp rfl ze) λa A=>?_;refine sda A λa A=>?_;refine qa (hK4 _ _ (cf A ?_));refine qme 1 rfl ?_;refine wsk fun K7 hK7=>wrl (sdm A λa A=>?_);refine sdo (v:=.string ((tx B))) A (zt rfl (fun w=>(run_convert_int_string w _ _ .i32 r (by kernel_rfl) Tryz.underlying9).trans (by rw[henc]))) λa A=>?_;refine sda A λa A=>?_;refine qa (hK7 _ _ (wsk fun K8 hK8=>wrl (sdm A λa A=>?_)));refine sdo (v:=iV (((B.length:Nat):Int))) A (xy (s:=B) Tryz.underlying9 rfl) λa A=>?_;refine sdo (v:=iV (((B.length-1:Nat):Int))) A (qb rfl rfl (ar_sub ((in_i64 (by omega) (by omega)).trans (by omega)))) λa A=>?_;refine sda A λa A=>?_;refine qa (hK8 _ _ (wsk fun K9 hK9=>wrl (sdm A λa A=>?_)));refine sda A λa A=>?_;refine qa (hK9 _ _ (wsk fun K10 hK10=>wrl (sda A λa A=>?_)))
 refine qa (hK10 _ _ (wsk fun K11 hK11=>wp_block (jd (fun m_ a w1=>∃(i:Nat) (f:Nat),m_=8-i∧(B.length-1≤i∧i≤7∧(∀k,k<i→¬atS B k)∧(f=0∨f=1∧∀k,i≤k→k<7→s7.getD k 0≠B.getD (B.length-1) 0))∧Sl a 187 [(0,.string ((tx s7))),(1,.int .i32 r),(7,.string ((tx B))),(8,iV (((B.length-1:Nat):Int))),(9,iV (((i:Nat):Int))),(10,iV (((f:Nat):Int))),(17,.int .i32 r),(18,.string ((tx B))),(19,.string ((tx B))),(20,iV (((B.length:Nat):Int))),(21,iV (((B.length-1:Nat):Int))),(22,iV (((B.length-1:Nat):Int))),(160,bV false),(161,.int .i32 r),(162,bV true),(163,bV true),(164,.int .i32 r),(165,bV false),(166,bV false),(171,bV false),(172,.int .i32 r),(173,bV false),(183,bV false),(184,.int .i32 r),(185,bV true),(186,bV false)]∧Mg w w1 ([])) _ ⟨B.length-1,0,rfl,⟨Nat.le_refl _,by omega,fun k hk hs=>absurd hs.1 (by omega),.inl rfl⟩,A.keep _ (by repeat' constructor),M⟩ ?_)));clear M A;rintro m_ a w12 ⟨i,f,rfl,hinv14,A,M⟩ K13 hK13;obtain⟨hi1,hi2,hi3,hi4⟩:=hinv14;refine wsk fun K15 hK15=>wsk fun K16 hK16=>wrl ?_;iterate 2 refine sdm A λa A=>?_
 refine sdo (v:=iV (((s7.length:Nat):Int))) A (xy (s:=s7) Tryz.underlying9 rfl) λa A=>?_;rcases tf (decide (((i:Nat):Int)<((s7.length:Nat):Int)))with hb17 | hb17
 ·have hb17':=of_decide_eq_true hb17;refine sdc A zs hb17 λa A=>?_;refine qa (hK16 _ _ (ct A ?_));refine wp_skip (hK15 _ _ (wp_block (qme 0 rfl ?_)));refine wsk fun K18 hK18=>?_;have hJ19:∀a w1,(∃(q:Nat),(B.length-1≤q∧i≤q∧q<7∧s7.getD q 0=B.getD (B.length-1) 0∧(∀k,k<q→¬atS B k)∧f=0)∧Sl a 187 [(0,.string ((tx s7))),(1,.int .i32 r),(7,.string ((tx B))),(8,iV (((B.length-1:Nat):Int))),(9,iV (((q:Nat):Int))),(10,iV (((f:Nat):Int))),(17,.int .i32 r),(18,.string ((tx B))),(19,.string ((tx B))),(20,iV (((B.length:Nat):Int))),(21,iV (((B.length-1:Nat):Int))),(22,iV (((B.length-1:Nat):Int))),(23,iV (((i:Nat):Int))),(24,.string ((tx s7))),(25,iV (((s7.length:Nat):Int))),(26,bV true),(160,bV false),(161,.int .i32 r),(162,bV true),(163,bV true),(164,.int .i32 r),(165,bV false),(166,bV false),(171,bV false),(172,.int .i32 r),(173,bV false),(183,bV false),(184,.int .i32 r),(185,bV true),(186,bV false)]∧Mg w w1 ([]))→K18 a w1:=by
   clear A M;rintro a w20 ⟨q,hf21,A,M⟩;obtain⟨hq1,hqi,hq2,hq3,hq4,hf0⟩:=hf21;refine hK18 _ _ (wsk fun K22 hK22=>wsk fun K23 hK23=>wrl (sda A λa A=>?_));refine qa (hK23 _ _ (wp_block (jd (fun m_ a w1=>∃(j:Nat),m_=B.length-j∧(1≤j∧j≤B.length∧∀t,t<j→s7.getD (q-t) 0=B.getD (B.length-1-t) 0)∧Sl a 187 [(0,.string ((tx s7))),(1,.int .i32 r),(7,.string ((tx B))),(8,iV (((B.length-1:Nat):Int))),(9,iV (((q:Nat):Int))),(10,iV (((f:Nat):Int))),(12,iV (((j:Nat):Int))),(17,.int .i32 r),(18,.string ((tx B))),(19,.string ((tx B))),(20,iV (((B.length:Nat):Int))),(21,iV (((B.length-1:Nat):Int))),(22,iV (((B.length-1:Nat):Int))),(23,iV (((i:Nat):Int))),(24,.string ((tx s7))),(25,iV (((s7.length:Nat):Int))),(26,bV true),(160,bV false),(161,.int .i32 r),(162,bV true),(163,bV true),(164,.int .i32 r),(165,bV false),(166,bV false),(171,bV false),(172,.int .i32 r),(173,bV false),(183,bV false),(184,.int .i32 r),(185,bV true),(186,bV false)]∧Mg w w1 ([])) _ ⟨1,rfl,⟨Nat.le_refl _,by omega,fun t ht=>by rw[show t=0 by omega]; exact hq3⟩,A.keep _ (by repeat' constructor),M⟩ ?_)));clear M A;rintro m_ a w24 ⟨j,rfl,hinv26,A,M⟩ K25 hK25;obtain⟨hj1,hj2,hj3⟩:=hinv26;refine wsk fun K27 hK27=>wsk fun K28 hK28=>wrl ?_;iterate 2 refine sdm A λa A=>?_
   refine sdo (v:=iV (((B.length:Nat):Int))) A (xy (s:=B) Tryz.underlying9 rfl) λa A=>?_;rcases tf (decide (((j:Nat):Int)<((B.length:Nat):Int)))with hb29 | hb29
   ·have hb29':=of_decide_eq_true hb29;refine sdc A zs hb29 λa A=>?_;refine qa (hK28 _ _ (ct A ?_));refine wp_skip (hK27 _ _ (wsk fun K30 hK30=>wp_block (wsk fun K31 hK31=>jt (S:=fun w1=>Mg w w1 ([])) (by kernel_rfl) ?_)));replace M:=M.drew;refine amv A 0 rfl hP (M.sub ns) λa A=>?_;refine amv A 1 rfl hP (M.sub ns) λa A=>?_;refine amv A 2 rfl hP (M.sub ns) λa A=>?_;refine atk (v:=iV (((q-j:Nat):Int))) A 3 rfl hP (M.sub ns) (λ_ M=>qb rfl rfl (ar_sub ((in_i64 (by omega) (by omega)).trans (by omega)))) λa A=>?_;refine atk (v:=.int .u8 ((((s7.getD (q-j) 0).toNat:Nat):Int))) A 4 rfl hP (M.sub ns) (λ_ M=>qde (s:=s7) (i:=q-j) (b:=s7.getD (q-j) 0) Tryz.underlying9 rfl rfl rfl (qqa (by omega))) λa A=>?_;refine amv A 5 rfl hP (M.sub ns) λa A=>?_;refine amv A 6 rfl hP (M.sub ns) λa A=>?_;refine amv A 7 rfl hP (M.sub ns) λa A=>?_;refine atk (v:=iV (((B.length-1-j:Nat):Int))) A 8 rfl hP (M.sub ns) (λ_ M=>qb rfl rfl (ar_sub ((in_i64 (by omega) (by omega)).trans (by omega)))) λa A=>?_;refine atk (v:=.int .u8 ((((B.getD (B.length-1-j) 0).toNat:Nat):Int))) A 9 rfl hP (M.sub ns) (λ_ M=>qde (s:=B) (i:=B.length-1-j) (b:=B.getD (B.length-1-j) 0) Tryz.underlying9 rfl rfl rfl (qqa (by omega))) λa A=>?_;rcases tf (((((s7.getD (q-j) 0).toNat:Nat):Int) != (((B.getD (B.length-1-j) 0).toNat:Nat):Int)))with hb32 | hb32
    ·have hb32':=bne_iff_ne.1 hb32;refine atk (v:=bV true) A 10 rfl hP (M.sub ns) (λ_ M=>qb rfl rfl (fun w=>(za w).trans (by rw[hb32]))) λa A=>?_;refine zx (by kernel_rfl) ?_;refine hK31 _ _ (ct A ?_);refine wp_goto (And.intro rfl ?_);refine wsk fun K33 hK33=>wp_skip (hK33 _ _ (wsk fun K34 hK34=>wrl (sdm A λa A=>?_)));refine sdo (v:=iV (((f+1:Nat):Int))) A (qb rfl rfl (ar_add ((in_i64 (by omega) (by omega)).trans (by omega)))) λa A=>?_;refine sda A λa A=>?_;refine qa (hK34 _ _ (wsk fun K35 hK35=>wrl (sdm A λa A=>?_)));refine sdo (v:=iV (((q+1:Nat):Int))) A (qb rfl rfl (ar_add ((in_i64 (by omega) (by omega)).trans (by omega)))) λa A=>?_;refine sda A λa A=>?_;refine qa (hK35 _ _ (wsk fun K36 hK36=>wrl ?_));iterate 3 refine sdm A λa A=>?_
     refine gcl A M (ef rfl rfl) (job (by omega) (by omega)) fun w38 hb37 M a A=>?_;refine sdo (v:=bV false) A (qb rfl rfl (fun w=>(zn w).trans (by rw[show(decide (2<((f+1:Nat):Int)))=false from(decide_eq_false (by omega))]))) λa A=>?_;refine sdk (v:=bV false) A λa A=>?_;refine sdm A λa A=>?_;iterate 4 refine qf A rfl rfl rfl λa A=>?_
     refine sdk (v:=bV false) A λa A=>?_;iterate 2 refine sdm A λa A=>?_
     iterate 5 refine qf A rfl rfl rfl λa A=>?_
     refine sdk (v:=bV false) A λa A=>?_;refine sdm A λa A=>?_;iterate 4 refine qf A rfl rfl rfl λa A=>?_
     iterate 2 refine sdk (v:=bV false) A λa A=>?_
     refine qa (hK36 _ _ (cf A ?_));refine wp_skip ?_;refine hK13 _ _ _ (by omega) ⟨q+1,f+1,rfl,⟨by omega,by omega,fun k hk hs=>by by_cases h9:k<q; exact hq4 k h9 hs; rw[show k=q by omega]at hs; exact bne_iff_ne.1 hb32 (by rw[hs.2.2 j (by omega)]),.inr ⟨by omega,fun k h8 h9 k9=>xad (i:=q) (k:=k) (by omega) h9 (hq3.trans k9.symm)⟩⟩,A.keep _ (by repeat' constructor),M⟩
    ·have hb32':=bne_eq_false_iff_eq.1 hb32;refine atk (v:=bV false) A 10 rfl hP (M.sub ns) (λ_ M=>qb rfl rfl (fun w=>(za w).trans (by rw[hb32]))) λa A=>?_;refine zx (by kernel_rfl) ?_;refine hK31 _ _ (cf A ?_);refine wp_skip (hK30 _ _ (wrl (sdm A λa A=>?_)));refine sdo (v:=iV (((j+1:Nat):Int))) A (qb rfl rfl (ar_add ((in_i64 (by omega) (by omega)).trans (by omega)))) λa A=>?_;refine sda A λa A=>?_;refine qa ?_;refine hK25 _ _ _ (by omega) ⟨j+1,rfl,⟨by omega,by omega,fun t ht=>by by_cases h9:t<j; exact hj3 t h9; rw[show t=j by omega]; exact qua (by simpa using hb32)⟩,A.keep _ (by repeat' constructor),M⟩
   ·have hb29':=of_decide_eq_false hb29;refine sdc A zs hb29 λa A=>?_;refine qa (hK28 _ _ (cf A ?_));refine wp_exit (hK22 _ _ (wsk fun K39 hK39=>wsk fun K40 hK40=>wrl ?_));iterate 2 refine sdm A λa A=>?_
    refine sdo (v:=iV (((q-(B.length-1):Nat):Int))) A (qb rfl rfl (ar_sub ((in_i64 (by omega) (by omega)).trans (by omega)))) λa A=>?_;refine sda A λa A=>?_;refine qa (hK40 _ _ (wr1 hret A ?_));exact⟨_,rfl,.inl ⟨by omega,q,hq1,hq2,fun t ht=>hj3 t (by have h9:=of_decide_eq_false hb29; omega)⟩,M.bel⟩
  refine wsk fun K41 hK41=>jt (S:=fun w1=>Mg w w1 ([])) (by kernel_rfl) ?_;replace M:=M.drew;refine amv A 0 rfl hP (M.sub ns) λa A=>?_;refine amv A 1 rfl hP (M.sub ns) λa A=>?_;refine atk (v:=.int .u8 ((((s7.getD i 0).toNat:Nat):Int))) A 2 rfl hP (M.sub ns) (λ_ M=>qde (s:=s7) (i:=i) (b:=s7.getD i 0) Tryz.underlying9 rfl rfl rfl (qqa (by omega))) λa A=>?_;refine amv A 3 rfl hP (M.sub ns) λa A=>?_;refine amv A 4 rfl hP (M.sub ns) λa A=>?_;refine atk (v:=.int .u8 ((((B.getD (B.length-1) 0).toNat:Nat):Int))) A 5 rfl hP (M.sub ns) (λ_ M=>qde (s:=B) (i:=B.length-1) (b:=B.getD (B.length-1) 0) Tryz.underlying9 rfl rfl rfl (qqa (by omega))) λa A=>?_;rcases tf (((((s7.getD i 0).toNat:Nat):Int) != (((B.getD (B.length-1) 0).toNat:Nat):Int)))with hb42 | hb42
  ·have hb42':=bne_iff_ne.1 hb42;refine atk (v:=bV true) A 6 rfl hP (M.sub ns) (λ_ M=>qb rfl rfl (fun w=>(za w).trans (by rw[hb42]))) λa A=>?_;refine zx (by kernel_rfl) ?_;refine hK41 _ _ (ct A ?_);refine wsk fun K43 hK43=>jt (S:=fun w1=>Mg w w1 ([])) (by kernel_rfl) ?_;replace M:=M.drew;refine amv A 0 rfl hP (M.sub ns) λa A=>?_;refine amv A 1 rfl hP (M.sub ns) λa A=>?_;refine atk (v:=iV (((i+1:Nat):Int))) A 2 rfl hP (M.sub ns) (λ_ M=>qb rfl rfl (ar_add ((in_i64 (by omega) (by omega)).trans (by omega)))) λa A=>?_;refine atk (v:=.string ((tx (s7.drop (i+1))))) A 3 rfl hP (M.sub ns) (λ_ M=>kq (s:=s7) (p:=i+1) Tryz.underlying9 rfl rfl rfl (by omega)) λa A=>?_;refine amv A 4 rfl hP (M.sub ns) λa A=>?_;refine amv A 5 rfl hP (M.sub ns) λa A=>?_;refine atk (v:=.int .u8 ((((B.getD (B.length-1) 0).toNat:Nat):Int))) A 6 rfl hP (M.sub ns) (λ_ M=>qde (s:=B) (i:=B.length-1) (b:=B.getD (B.length-1) 0) Tryz.underlying9 rfl rfl rfl (qqa (by omega))) λa A=>?_;rcases tf (decide (0≤Lib.indexByte (s7.drop (i+1)) (B.getD (B.length-1) 0)))with hb45 | hb45
   ·have hb45':=of_decide_eq_true hb45;obtain⟨o,ho47⟩:=Int.eq_ofNat_of_zero_le (of_decide_eq_true hb45);have hoB:=(jdh h2 ho47 (fun k9=>bne_iff_ne.1 hb42 (by rw[k9])) hi3).1;refine zm (by kernel_rfl) (xk A 7 rfl rfl rfl rfl (ef rfl rfl) (jte (l:=s7.drop (i+1)) (b:=B.getD (B.length-1) 0) ho47) ?_);rintro _ w48 ⟨rfl,hb46⟩;replace M:=M.call hb46;refine⟨_,rfl,(M.sub ns),?_⟩;intro a A;refine atk A 8 rfl hP (M.sub ns) (λ_ M=>zk rfl) λa A=>?_;refine zx (by kernel_rfl) ?_;refine hK43 _ _ (wsk fun K49 hK49=>wsk fun K50 hK50=>wrl (sdm A λa A=>?_));refine sdo (v:=bV false) A (qb rfl rfl (fun w=>(zs w).trans (by rw[show(decide (((o:Nat):Int)<0))=false from(decide_eq_false (by omega))]))) λa A=>?_;refine qa (hK50 _ _ (cf A ?_));refine wp_skip (hK49 _ _ (wrl ?_));iterate 2 refine sdm A λa A=>?_
    refine sdo (v:=iV (((o+1:Nat):Int))) A (qb rfl rfl (ar_add ((in_i64 (by omega) (by omega)).trans (by omega)))) λa A=>?_;refine sdo (v:=iV (((i+o+1:Nat):Int))) A (qb rfl rfl (ar_add ((in_i64 (by omega) (by omega)).trans (by omega)))) λa A=>?_;refine sda A λa A=>?_;refine qa ?_;exact hJ19 _ _ ⟨i+o+1,(by obtain⟨y1,y2,y3⟩:=jdh h2 ho47 (fun k9=>bne_iff_ne.1 hb42 (by rw[k9])) hi3; exact⟨by omega,by omega,y1,y2,y3,hi4.elim id fun k=>absurd y2 (k.2 _ (by omega) y1)⟩),A.keep _ (by repeat' constructor),M⟩
   ·have hb45':=of_decide_eq_false hb45;have ho52:Lib.indexByte (s7.drop (i+1)) (B.getD (B.length-1) 0)=-1:=(by have h8:=Lib.indexByte_ge (s7.drop (i+1)) (B.getD (B.length-1) 0); have h9:=of_decide_eq_false hb45; omega);refine zm (by kernel_rfl) (xk A 7 rfl rfl rfl rfl (ef rfl rfl) (jte (l:=s7.drop (i+1)) (b:=B.getD (B.length-1) 0) ho52) ?_);rintro _ w53 ⟨rfl,hb51⟩;replace M:=M.call hb51;refine⟨_,rfl,(M.sub ns),?_⟩;intro a A;refine atk A 8 rfl hP (M.sub ns) (λ_ M=>zk rfl) λa A=>?_;refine zx (by kernel_rfl) ?_;refine hK43 _ _ (wsk fun K54 hK54=>wsk fun K55 hK55=>wrl (sdm A λa A=>?_));refine sdo (v:=bV true) A dbK λa A=>?_;refine qa (hK55 _ _ (ct A ?_));refine wsk fun K56 hK56=>wrl (sda A λa A=>?_);refine qa (hK56 _ _ (wr1 hret A ?_));exact⟨_,rfl,.inr ⟨by decide,xae h2 ho52 (fun k9=>bne_iff_ne.1 hb42 (by rw[k9])) hi3⟩,M.bel⟩
  ·have hb42':=bne_eq_false_iff_eq.1 hb42;refine atk (v:=bV false) A 6 rfl hP (M.sub ns) (λ_ M=>qb rfl rfl (fun w=>(za w).trans (by rw[hb42]))) λa A=>?_;refine zx (by kernel_rfl) ?_;refine hK41 _ _ (cf A ?_);refine wp_skip ?_;exact hJ19 _ _ ⟨i,(by have y2:s7.getD i 0=B.getD (B.length-1) 0:=qua (by simpa using hb42); exact⟨hi1,Nat.le_refl _,by omega,y2,hi3,hi4.elim id fun k=>absurd y2 (k.2 _ (Nat.le_refl _) (by omega))⟩),A.keep _ (by repeat' constructor),M⟩
 ·have hb17':=of_decide_eq_false hb17;refine sdc A zs hb17 λa A=>?_;refine qa (hK16 _ _ (cf A ?_));refine wp_exit (hK11 _ _ (wsk fun K57 hK57=>wsk fun K58 hK58=>wrl (sda A λa A=>?_)));refine qa (hK58 _ _ (wr1 hret A ?_));exact⟨_,rfl,.inr ⟨by decide,fun k hk=>hi3 k (by have h8:=hk.2.1; have h9:=of_decide_eq_false hb17; omega) hk⟩,M.bel⟩
theorem zbe{w:World}{r:Int}{B:List UInt8}(h2:2≤B.length)(h4:B.length≤4)(h0:128≤r)(hne:r≠65533)(hv:Lib.validRune r=true)(henc:Utf8.encode r=tx B)(hx:(∃k,atS B k)↔ln7 r=true):Calls Tryz.prog 71 #[.string (tx s7),.int .i32 r] w fun e w'=>∃v:Int,e=.returned (iV v)∧decide (0≤v)=ln7 r∧Below w.heap.size w w':=(joc h2 h4 h0 hne hv henc).mono fun e w' ⟨v,h1,h3,h5⟩=>by
 refine⟨v,h1,?_,h5⟩;rcases h3 with⟨h6,h7⟩ | ⟨h6,h7⟩
 ·rw[hx.1 h7]; exact decide_eq_true h6
 ·rw[show ln7 r=false from Bool.eq_false_iff.2 fun k=>(hx.2 k).elim h7]; exact decide_eq_false (by omega)
theorem jdi{k:Nat}(h:k<7):k=0∨k=1∨k=2∨k=3∨k=4∨k=5∨k=6:=by omega
theorem xdf{r:Int}{b0 b1:UInt8}(h0:128≤r)(h1:r≤2047)(e0:((b0.toNat:Nat):Int)=192+r / 64)(e1:((b1.toNat:Nat):Int)=128+r%64):(∃k,atS [b0,b1] k)↔ln7 r=true:=by
 constructor
 ·rintro⟨k,q1,q2,q3⟩;have z1:s7.getD k 0=b1:=q3 0 (by simp);have z0:s7.getD (k-1) 0=b0:=q3 1 (by simp);subst z1 z0;apply decide_eq_true;rcases jdi q2 with rfl | rfl | rfl | rfl | rfl | rfl | rfl<;>simp[s7]at e0 e1<;>omega
 ·intro h;have hr:r=133:=by have:=of_decide_eq_true h; omega
  subst hr;obtain rfl:b0=194:=qua (e0.trans (by decide));obtain rfl:b1=133:=qua (e1.trans (by decide));exact⟨3,by decide,by decide,by decide⟩
theorem xdg{r:Int}{b0 b1 b2:UInt8}(h0:2048≤r)(h1:r≤65535)(e0:((b0.toNat:Nat):Int)=224+r / 4096)(e1:((b1.toNat:Nat):Int)=128+r / 64%64)(e2:((b2.toNat:Nat):Int)=128+r%64):(∃k,atS [b0,b1,b2] k)↔ln7 r=true:=by
 constructor
 ·rintro⟨k,q1,q2,q3⟩;have z2:s7.getD k 0=b2:=q3 0 (by simp);have z1:s7.getD (k-1) 0=b1:=q3 1 (by simp);have z0:s7.getD (k-2) 0=b0:=q3 2 (by simp);subst z2 z1 z0;apply decide_eq_true;rcases jdi q2 with rfl | rfl | rfl | rfl | rfl | rfl | rfl<;>simp[s7]at e0 e1 e2<;>omega
 ·intro h;have hr:r=8232:=by have:=of_decide_eq_true h; omega
  subst hr;obtain rfl:b0=226:=qua (e0.trans (by decide));obtain rfl:b1=128:=qua (e1.trans (by decide));obtain rfl:b2=168:=qua (e2.trans (by decide));exact⟨6,by decide,by decide,by decide⟩
theorem xdh{r:Int}{b0 b1 b2 b3:UInt8}(h0:65536≤r)(h1:r≤1114111)(e0:((b0.toNat:Nat):Int)=240+r / 262144):(∃k,atS [b0,b1,b2,b3] k)↔ln7 r=true:=by
 constructor
 ·rintro⟨k,q1,q2,q3⟩;have z0:s7.getD (k-3) 0=b0:=q3 3 (by simp);subst z0;exfalso;rcases jdi q2 with rfl | rfl | rfl | rfl | rfl | rfl | rfl<;>simp[s7]at e0<;>omega
 ·intro h;have:=of_decide_eq_true h;omega
theorem jvj{w:World}{r:Int}(h:C.OkR r):Calls Tryz.prog 71 #[.string (tx [10,13,194,133,226,128,168]),.int .i32 r] w fun e w'=>∃v:Int,e=.returned (iV v)∧decide (0≤v)=ln7 r∧Below w.heap.size w w':=by
 by_cases h128:r<128
 ·have h0:0≤r:=by unfold C.OkR at h; omega
  refine(Tryz.strings_IndexRune_ascii (tx [10,13,194,133,226,128,168]) r w h0 h128).mono ?_;rintro e w' ⟨rfl,rfl⟩;have:=C.ix7 r.toNat (by omega);rw[Int.toNat_of_nonneg h0]at this;exact⟨_,rfl,this,Below.refl _ _⟩
 ·by_cases he:r=65533
  ·subst he;refine(C.irune_err7 w).mono ?_;rintro e w' ⟨rfl,hb⟩;exact⟨_,rfl,by decide,hb⟩
  ·have hv:=h.valid;unfold C.OkR at h;by_cases h2:r≤2047
   ·exact zbe (by simp) (by simp) (by omega) he hv (zoc hv (by unfold Lib.encodeRune; rw[Lib.encodeRuneZ_two (by omega) h2]; rfl)) (xdf (by omega) h2 (qeg (x:=192+r / 64) (by omega) (by omega)) (qeg (x:=128+r%64) (by omega) (by omega)))
   ·by_cases h3:r≤65535
    ·exact zbe (by simp) (by simp) (by omega) he hv (zoc hv (by unfold Lib.encodeRune; rw[Lib.encodeRuneZ_three (by omega)]; rfl)) (xdg (by omega) h3 (qeg (x:=224+r / 4096) (by omega) (by omega)) (qeg (x:=128+r / 64%64) (by omega) (by omega)) (qeg (x:=128+r%64) (by omega) (by omega)))
    ·exact zbe (by simp) (by simp) (by omega) he hv (zoc hv (by unfold Lib.encodeRune; rw[Lib.encodeRuneZ_four (by omega) (by omega)]; rfl)) (xdh (by omega) (by omega) (qeg (x:=240+r / 262144) (by omega) (by omega)))
def lnX(l:List UInt8):Nat:=C.lnN l.length l
theorem zti{w:World}{l:List UInt8}(hl:l.length<4294967281):Calls Tryz.prog 51 #[.string (tx l),.string (tx [10,13,194,133,226,128,168])] w fun e w'=>(∃v:Int,e=.returned (iV v)∧(v=((lnX l:Nat):Int)∧lnX l<l.length∨v=-1∧lnX l=l.length))∧Below w.heap.size w w':=by
 have:=C.iany7 (tx l) (fun r w h=>jvj h) w (by rw[jx]; exact hl)
 rwa [jx,xv]at this
theorem jwa{w:World}{l:List UInt8}(hl:l.length<4294967281)(h:decide (lnX l<l.length)=true):Calls Tryz.prog 51 #[.string (tx l),.string (tx [10,13,194,133,226,128,168])] w fun e w'=>e=.returned (iV ((lnX l:Nat):Int))∧Below w.heap.size w w':=(zti hl).mono fun e w' h1=>by
 obtain⟨⟨v,rfl,h2 | h2⟩,hb⟩:=h1
 ·exact⟨by rw[h2.1],hb⟩
 ·exact absurd (of_decide_eq_true h) (by omega)
theorem jwb{w:World}{l:List UInt8}(hl:l.length<4294967281)(h:decide (lnX l<l.length)=false):Calls Tryz.prog 51 #[.string (tx l),.string (tx [10,13,194,133,226,128,168])] w fun e w'=>e=.returned (iV (-1))∧lnX l=l.length∧Below w.heap.size w w':=(zti hl).mono fun e w' h1=>by
 obtain⟨⟨v,rfl,h2 | h2⟩,hb⟩:=h1
 ·exact absurd h2.2 (of_decide_eq_false h)
 ·exact⟨by rw[h2.1],h2.2,hb⟩
theorem RdH_is1_3: Is1 Tryz.prog 3:=⟨⟨_,Tryz.underlying3,rfl⟩,by kernel_rfl⟩
theorem RdH_fld_50_1: FieldAt Tryz.prog 50 1 1:=⟨_,_,Tryz.underlying50,rfl,rfl,by kernel_rfl⟩
theorem zbf{w0 w:World}{g p:Nat}{lg:Bool}{L:List UInt8}{T:List Ck}(hp:p≤L.length)(hl:L.length≤1000000000)(hM0:Mg w0 w (.obj g (rC L p lg)::T)):Calls Tryz.prog 31 #[pA g 0] w fun e w'=>e=.returned (.tuple #[])∧Mg w0 w' (.obj g (rC L (p+lnX (L.drop p)) lg)::T):=by
 have M:Mg w0 w (.obj g (rC L p lg)::T):=hM0;refine qn (l:=[(0,pA g 0)]) Tryz.func31 rfl Tryz.ntmps31 rfl rfl ?_;intro Q hret hnorm hP a A;refine wsk fun K1 hK1=>wrl (sdm A λa A=>?_);refine sct A (ef rfl rfl) (vd (p:=p) (L:=L) (T:=(T)) (by omega) M) ?_;rintro _ w3 ⟨rfl,hM2⟩;replace M:Mg w0 w3 (.obj g (rC L p lg)::T):=hM2;refine⟨_,rfl,?_⟩;intro a A;rcases tf (decide (lnX (L.drop p)<(L.drop p).length))with hb5 | hb5
 ·have hb5':=of_decide_eq_true hb5;refine sct A (ef rfl rfl) (jwa (l:=L.drop p) (by rw[List.length_drop]; omega) hb5) ?_;rintro _ w7 ⟨rfl,hb6⟩;have hlx:=of_decide_eq_true hb5;rw[List.length_drop]at hlx;replace M:=M.call hb6;refine⟨_,rfl,?_⟩;intro a A;refine sda A λa A=>?_;refine qa (hK1 _ _ (wsk fun K8 hK8=>wsk fun K9 hK9=>wrl (sdm A λa A=>?_)));refine sdo (v:=bV false) A (qb rfl rfl (fun w=>(zs w).trans (by rw[show(decide (((lnX (L.drop p):Nat):Int)<0))=false from(decide_eq_false (by omega))]))) λa A=>?_;refine qa (hK9 _ _ (cf A ?_));refine wp_skip (hK8 _ _ (wrl (sdm A λa A=>?_)));refine sdo A (je rfl) λa A=>?_;refine sdo (v:=pA g 1) A (qe RdH_fld_50_1 rfl rfl) λa A=>?_;refine sdo A (qt M RdH_is1_3 rfl 0 rfl rfl) λa A=>?_;refine sdm A λa A=>?_;refine sdo (v:=iV (((p+lnX (L.drop p):Nat):Int))) A (qb rfl rfl (ar_add ((in_i64 (by omega) (by omega)).trans (by omega)))) λa A=>?_;refine sdo A (je rfl) λa A=>?_;refine sdo (v:=pA g 1) A (qe RdH_fld_50_1 rfl rfl) λa A=>?_;refine zi (L':=(.obj g (rC L (p+lnX (L.drop p)) lg)::T)) A M rfl rfl (qw rfl rfl rfl (by kernel_rfl) M 0 rfl rfl rfl) 0 rfl rfl rfl ?_;intro w10 M;refine qa (hnorm _ _ (qch (v:=.tuple #[]) A rfl .nil rfl ?_));exact⟨rfl,M⟩
 ·have hb5':=of_decide_eq_false hb5;refine sct A (ef rfl rfl) (jwb (l:=L.drop p) (by rw[List.length_drop]; omega) hb5) ?_;rintro _ w12 ⟨rfl,hlx,hb11⟩;have hdl:(L.drop p).length=L.length-p:=List.length_drop;replace M:=M.call hb11;refine⟨_,rfl,?_⟩;intro a A;refine sda A λa A=>?_;refine qa (hK1 _ _ (wsk fun K13 hK13=>wsk fun K14 hK14=>wrl (sdm A λa A=>?_)));refine sdo (v:=bV true) A (qb rfl rfl (fun w=>(zs w).trans (by rw[show(decide ((-1)<0))=true from rfl]))) λa A=>?_;refine qa (hK14 _ _ (ct A ?_));refine wrl (sdm A λa A=>?_);refine sct A (ef rfl rfl) (vd (p:=p) (L:=L) (T:=(T)) (by omega) M) ?_;rintro _ w16 ⟨rfl,hM15⟩;replace M:Mg w0 w16 (.obj g (rC L p lg)::T):=hM15;refine⟨_,rfl,?_⟩;intro a A;refine sdo (v:=iV ((((L.drop p).length:Nat):Int))) A (xy (s:=L.drop p) Tryz.underlying9 rfl) λa A=>?_;refine sda A λa A=>?_;refine qa (hK13 _ _ (wrl (sdm A λa A=>?_)));refine sdo A (je rfl) λa A=>?_;refine sdo (v:=pA g 1) A (qe RdH_fld_50_1 rfl rfl) λa A=>?_;refine sdo A (qt M RdH_is1_3 rfl 0 rfl rfl) λa A=>?_;refine sdm A λa A=>?_;refine sdo (v:=iV (((p+(L.drop p).length:Nat):Int))) A (qb rfl rfl (ar_add ((in_i64 (by omega) (by omega)).trans (by omega)))) λa A=>?_;refine sdo A (je rfl) λa A=>?_;refine sdo (v:=pA g 1) A (qe RdH_fld_50_1 rfl rfl) λa A=>?_;refine zi (L':=(.obj g (rC L (p+(L.drop p).length) lg)::T)) A M rfl rfl (qw rfl rfl rfl (by kernel_rfl) M 0 rfl rfl rfl) 0 rfl rfl rfl ?_;intro w17 M;refine qa (hnorm _ _ (qch (v:=.tuple #[]) A rfl .nil rfl ?_));rw[←hlx]at M;exact⟨rfl,M⟩
end Go.Proofs.YtgjohjfehgdgbaaGreatDoor.G
namespace Go.Proofs
open Go.Shelf
def Tryz.laysC245_ren: Go.Shelf.Ren:=⟨fun | 245=>139 | 279=>158 | 280=>159 | 281=>160 | 282=>161 | 316=>123 | 171=>179 | 205=>178 | 243=>191 | 246=>196 | 283=>197 | 284=>198 | 285=>199 | 286=>200 | 129=>202 | 317=>201 | 318=>203 | 319=>204 | 320=>205 | 337=>206 | 338=>207 | n=>n,fun | 9=>9 | 3=>3 | 75=>85 | 167=>168 | 4=>4 | 168=>170 | 210=>182 | 37=>27 | 0=>0 | 127=>114 | 145=>195 | 143=>193 | 2=>2 | 171=>200 | 53=>94 | 5=>5 | 173=>203 | 212=>206 | 51=>99 | 20=>20 | 213=>207 | 46=>71 | 232=>209 | 233=>210 | 80=>51 | n=>n,fun | 15=>3 | 16=>4 | 17=>6 | 18=>7 | 19=>8 | n=>n⟩
theorem Tryz.laysC245: Go.Proofs.LaysC.n245 Tryz.prog Tryz.laysC245_ren:={
  mixed:=by kernel_rfl
  f129:=Tryz.func202.trans (congrArg some (by kernel_rfl))
  f171:=Tryz.func179.trans (congrArg some (by kernel_rfl))
  f205:=Tryz.func178.trans (congrArg some (by kernel_rfl))
  f243:=Tryz.func191.trans (congrArg some (by kernel_rfl))
  f245:=Tryz.func139.trans (congrArg some (by kernel_rfl))
  f246:=Tryz.func196.trans (congrArg some (by kernel_rfl))
  f279:=Tryz.func158.trans (congrArg some (by kernel_rfl))
  f280:=Tryz.func159.trans (congrArg some (by kernel_rfl))
  f281:=Tryz.func160.trans (congrArg some (by kernel_rfl))
  f282:=Tryz.func161.trans (congrArg some (by kernel_rfl))
  f283:=Tryz.func197.trans (congrArg some (by kernel_rfl))
  f284:=Tryz.func198.trans (congrArg some (by kernel_rfl))
  f285:=Tryz.func199.trans (congrArg some (by kernel_rfl))
  f286:=Tryz.func200.trans (congrArg some (by kernel_rfl))
  f316:=Tryz.func123.trans (congrArg some (by kernel_rfl))
  f317:=Tryz.func201.trans (congrArg some (by kernel_rfl))
  f318:=Tryz.func203.trans (congrArg some (by kernel_rfl))
  f319:=Tryz.func204.trans (congrArg some (by kernel_rfl))
  f320:=Tryz.func205.trans (congrArg some (by kernel_rfl))
  f337:=Tryz.func206.trans (congrArg some (by kernel_rfl))
  f338:=Tryz.func207.trans (congrArg some (by kernel_rfl))
  t0:=Tryz.underlying0
  a0:=Tryz.isAgg0
  z0:=Tryz.sizeOf0
  v0:=Tryz.zeroValue0
  t2:=Tryz.underlying2
  a2:=Tryz.isAgg2
  z2:=Tryz.sizeOf2
  v2:=Tryz.zeroValue2
  t3:=Tryz.underlying3
  a3:=Tryz.isAgg3
  z3:=Tryz.sizeOf3
  v3:=Tryz.zeroValue3
  t4:=Tryz.underlying4
  a4:=Tryz.isAgg4
  z4:=Tryz.sizeOf4
  v4:=Tryz.zeroValue4
  t5:=Tryz.underlying5
  a5:=Tryz.isAgg5
  z5:=Tryz.sizeOf5
  v5:=Tryz.zeroValue5
  t9:=Tryz.underlying9
  a9:=Tryz.isAgg9
  z9:=Tryz.sizeOf9
  v9:=Tryz.zeroValue9
  t20:=Tryz.underlying20
  a20:=Tryz.isAgg20
  z20:=Tryz.sizeOf20
  v20:=Tryz.zeroValue20
  t37:=Tryz.underlying27
  a37:=Tryz.isAgg27
  z37:=Tryz.sizeOf27
  v37:=Tryz.zeroValue27
  t46:=Tryz.underlying71
  a46:=Tryz.isAgg71
  z46:=Tryz.sizeOf71
  v46:=Tryz.zeroValue71
  t51:=Tryz.underlying99
  a51:=Tryz.isAgg99
  z51:=Tryz.sizeOf99
  v51:=Tryz.zeroValue99
  t53:=Tryz.underlying94
  a53:=Tryz.isAgg94
  z53:=Tryz.sizeOf94
  v53:=Tryz.zeroValue94
  t75:=Tryz.underlying85
  a75:=Tryz.isAgg85
  z75:=Tryz.sizeOf85
  v75:=Tryz.zeroValue85
  t127:=Tryz.underlying114
  a127:=Tryz.isAgg114
  z127:=Tryz.sizeOf114
  v127:=Tryz.zeroValue114
  t143:=Tryz.underlying193
  a143:=Tryz.isAgg193
  z143:=Tryz.sizeOf193
  v143:=Tryz.zeroValue193
  t145:=Tryz.underlying195
  a145:=Tryz.isAgg195
  z145:=Tryz.sizeOf195
  v145:=Tryz.zeroValue195
  t167:=Tryz.underlying168
  a167:=Tryz.isAgg168
  z167:=Tryz.sizeOf168
  v167:=Tryz.zeroValue168
  t168:=Tryz.underlying170
  a168:=Tryz.isAgg170
  z168:=Tryz.sizeOf170
  v168:=Tryz.zeroValue170
  t171:=Tryz.underlying200
  a171:=Tryz.isAgg200
  z171:=Tryz.sizeOf200
  v171:=Tryz.zeroValue200
  t173:=Tryz.underlying203
  a173:=Tryz.isAgg203
  z173:=Tryz.sizeOf203
  v173:=Tryz.zeroValue203
  t210:=Tryz.underlying182
  a210:=Tryz.isAgg182
  z210:=Tryz.sizeOf182
  v210:=Tryz.zeroValue182
  t212:=Tryz.underlying206
  a212:=Tryz.isAgg206
  z212:=Tryz.sizeOf206
  v212:=Tryz.zeroValue206
  t213:=Tryz.underlying207
  a213:=Tryz.isAgg207
  z213:=Tryz.sizeOf207
  t232:=Tryz.underlying209
  a232:=Tryz.isAgg209
  z232:=Tryz.sizeOf209
  v232:=Tryz.zeroValue209
  t233:=Tryz.underlying210
  a233:=Tryz.isAgg210
  z233:=Tryz.sizeOf210
  v233:=Tryz.zeroValue210
  g15:=by kernel_rfl
  g16:=by kernel_rfl
  g17:=by kernel_rfl
  g18:=by kernel_rfl
  g19:=by kernel_rfl
  t80:=Tryz.underlying51
  a80:=Tryz.isAgg51
  z80:=Tryz.sizeOf51
  v80:=Tryz.zeroValue51
  i0:=by kernel_rfl
  i2:=by kernel_rfl
  i3:=by kernel_rfl
  i4:=by kernel_rfl
  i5:=by kernel_rfl
  i9:=by kernel_rfl
  i20:=by kernel_rfl
  i37:=by kernel_rfl
  i46:=by kernel_rfl
  i51:=by kernel_rfl
  i53:=by kernel_rfl
  i75:=by kernel_rfl
  i80:=by kernel_rfl
  i127:=by kernel_rfl
  i143:=by kernel_rfl
  i145:=by kernel_rfl
  i167:=by kernel_rfl
  i168:=by kernel_rfl
  i171:=by kernel_rfl
  i173:=by kernel_rfl
  i210:=by kernel_rfl
  i212:=by kernel_rfl
  i232:=by kernel_rfl
  i233:=by kernel_rfl
  m15:=by kernel_rfl
  m16:=by kernel_rfl
  m17:=by kernel_rfl
  m18:=by kernel_rfl
  m19:=by kernel_rfl
  c0:=by kernel_rfl
  c2:=by kernel_rfl
  c3:=by kernel_rfl
  c4:=by kernel_rfl
  c5:=by kernel_rfl
  c9:=by kernel_rfl
  c20:=by kernel_rfl
  c37:=by kernel_rfl
  c46:=by kernel_rfl
  c51:=by kernel_rfl
  c53:=by kernel_rfl
  c75:=by kernel_rfl
  c80:=by kernel_rfl
  c127:=by kernel_rfl
  c143:=by kernel_rfl
  c145:=by kernel_rfl
  c167:=by kernel_rfl
  c168:=by kernel_rfl
  c171:=by kernel_rfl
  c173:=by kernel_rfl
  c210:=by kernel_rfl
  c212:=by kernel_rfl
  c213:=by kernel_rfl
  c232:=by kernel_rfl
  c233:=by kernel_rfl }
open Go.RowKit in
theorem Tryz.strconv_toError_syntax(fn s:ByteArray)(base bits:Int)(ev:Value)(w:World)(hlim:s.size≤281474976710656)(hv:w.cell? ⟨3,0,none⟩=some ev)(hev:ev=.nilIface∨∃te pe,ev=.iface te pe):
    Calls Tryz.prog 139 #[.string fn,.string s,.int .i64 base,.int .i64 bits,.iface 168 (.int .i64 2)] w fun e w'=>∃N,e=.returned (.iface 170 (.pointer (some ⟨N,0,none⟩)))∧w.heap.size≤N∧w'.heap[N]?=some (.cells #[.string fn,.string s,ev] 182 (0,0))∧Below w.heap.size w w':=Any.strconv_toError_syntax Tryz.laysC245 fn s base bits ev w hlim hv hev
def Tryz.lays321_ren: Go.Shelf.Ren:=⟨fun | 321=>156 | n=>n,fun | 5=>5 | n=>n,fun | n=>n⟩
theorem Tryz.lays321: Go.Proofs.Lays.n321 Tryz.prog Tryz.lays321_ren:={
  mixed:=by kernel_rfl
  f321:=Tryz.func156.trans (congrArg some (by kernel_rfl))
  t5:=Tryz.underlying5
  a5:=Tryz.isAgg5
  z5:=Tryz.sizeOf5
  v5:=Tryz.zeroValue5 }
open Go.RowKit in
theorem Tryz.internal_strconv_lower(c:Int)(w:World):
    Calls Tryz.prog 156 #[.int .u8 c] w fun e w'=>e=.returned (.int .u8 (bits .or .u8 c 32))∧w'=w:=Any.internal_strconv_lower Tryz.lays321 c w
open Go.RowKit in
theorem Tryz.strconv_toError_range(fn s:ByteArray)(base bits:Int)(ev:Value)(w:World)(hlim:s.size≤281474976710656)(hv:w.cell? ⟨4,0,none⟩=some ev)(hev:ev=.nilIface∨∃te pe,ev=.iface te pe):
    Calls Tryz.prog 139 #[.string fn,.string s,.int .i64 base,.int .i64 bits,.iface 168 (.int .i64 1)] w fun e w'=>∃N,e=.returned (.iface 170 (.pointer (some ⟨N,0,none⟩)))∧w.heap.size≤N∧w'.heap[N]?=some (.cells #[.string fn,.string s,ev] 182 (0,0))∧Below w.heap.size w w':=Any.strconv_toError_range Tryz.laysC245 fn s base bits ev w hlim hv hev
end Go.Proofs
namespace Go.Proofs.YtgjohjfehgdgbaaGreatDoor.C
open Go.RowKit

def hexB(c:UInt8):Bool:=decide (48≤c.toNat∧c.toNat≤57∨97≤c.toNat∧c.toNat≤102∨65≤c.toNat∧c.toNat≤70)
def hxv(c:UInt8):Nat:=if c.toNat≤57 then c.toNat-48 else if 97≤c.toNat then c.toNat-87 else c.toNat-55
def puN: Nat→List UInt8→Option Nat
  | n, [] => some n
  | n, c :: t => if hexB c = true then (if 4294967295 < n * 16 + hxv c then none else puN (n * 16 + hxv c) t) else none
theorem jod: ∀c:Fin 256,((65≤c.val∧c.val≤70)→bits .or .u8 ((c.val:Nat):Int) 32=((c.val:Nat):Int)+32)∧((97≤c.val∧c.val≤102)→bits .or .u8 ((c.val:Nat):Int) 32=((c.val:Nat):Int))∧(¬(48≤c.val∧c.val≤57∨97≤c.val∧c.val≤102∨65≤c.val∧c.val≤70)→bits .or .u8 ((c.val:Nat):Int) 32<97∨(103≤bits .or .u8 ((c.val:Nat):Int) 32∧bits .or .u8 ((c.val:Nat):Int) 32≤122)∨122<bits .or .u8 ((c.val:Nat):Int) 32):=by decide +kernel
theorem jdj{n:Nat}{c:UInt8}{t:List UInt8}(h:hexB c=true)(h2:¬4294967295<n*16+hxv c):puN n (c::t)=puN (n*16+hxv c) t:=by rw[puN,if_pos h,if_neg h2]
theorem ztj{n:Nat}{c:UInt8}{t:List UInt8}(h:hexB c=true)(h2:4294967295<n*16+hxv c):puN n (c::t)=none:=by rw[puN,if_pos h,if_pos h2]
theorem xaf{n:Nat}{c:UInt8}{t:List UInt8}(h:hexB c=false):puN n (c::t)=none:=by rw[puN,if_neg (by rw[h]; decide)]
def PuA(r:Option Nat)(e:Ending):Prop:=(∃u:Nat,r=some u∧u≤4294967295∧e=.returned (.tuple #[.int .u64 ((u:Nat):Int),.nilIface]))∨(r=none∧∃v k:Int,(k=1∨k=2)∧e=.returned (.tuple #[.int .u64 v,.iface 168 (.int .i64 k)]))
set_option maxRecDepth 100000 in
theorem xag(t:ByteArray)(hne:t.size≠0)(hmax:t.size≤9223372036854775806)(w:World):Calls Tryz.prog 138 #[.string t,.int .i64 16,.int .i64 32] w fun e w'=>PuA (puN 0 t.data.toList) e∧w'=Lib.bytesWorld w 5 t:=by
  have hemp:t.toList.isEmpty=false:=by
    rw[←decide_eq_emptyBytes];exact decide_eq_false (fun h=>hne (by rw[h]; rfl))
  have hcv:=Lib.run_convert_string_bytes (P:=Tryz.prog) w 9 27 5 t (u:=.string) Tryz.underlying9 Tryz.underlying27 Tryz.underlying5;have hB:∀j,j<t.size→(Lib.bytesWorld w 5 t).cell? ⟨w.heap.size,j,none⟩=some (.int .u8 (t.data.toList.getD j 0).toNat):=fun j hj=>Lib.bytesWorld_cell w 5 t j hj;obtain⟨W1,hW1⟩:∃W1,W1=Lib.bytesWorld w 5 t:=⟨_,rfl⟩;rw[←hW1]at hcv hB ⊢;clear hW1;obtain⟨bs,hL⟩:∃bs,bs=t.data.toList:=⟨_,rfl⟩;have hLn:bs.length=t.size:=by rw[hL,Lib.size_eq]
  rw[←hL]at hB ⊢;clear hL;have hmv:IntKind.u64.wrap (IntKind.u64.wrap 4294967296-1)=4294967295:=by
    rw[IntKind.wrap_u64,IntKind.wrap_u64];decide
  go_enter Tryz.func138,Tryz.ntmps138
  go_wp2
  go_loop [12,13,101] (fun vu vn vi=>∃(k acc:Nat) (a:Int),vu=.bool false∧vn=.int .u64 a∧vi=.int .i64 k∧k≤t.size∧Hid (a=(acc:Int)∧acc≤4294967295∧puN 0 bs=puN acc (bs.drop k)))
    (fun _ _ vi=>t.size-(intOf vi).toNat)
  case atStart=>exact⟨0,0,0,rfl,rfl,rfl,by omega,rfl,by omega,rfl⟩
  case round=>
    obtain⟨k,acc,a,rfl,rfl,rfl,hk,hh⟩:=hrel;obtain⟨ha,hacc,hdec⟩:=hh.out;clear hh;have a0:0≤a:=(by omega);have a1:a≤4294967295:=(by omega);by_cases hkn:k<t.size
    · have hc:=hB k hkn;have hdrop:bs.drop k=bs[k]'(by omega)::bs.drop (k+1):=List.drop_eq_getElem_cons (by omega);have hget:bs.getD k 0=bs[k]'(by omega):=(by simp[List.getD,List.getElem?_eq_getElem (show k<bs.length by omega)]);rw[hdrop]at hdec;rw[hget]at hc;generalize bs[k]'(by omega)=c at hc hdec;have hc256:c.toNat<256:=c.toNat_lt;obtain⟨lw1,lw2,lw3⟩:=jod ⟨c.toNat,hc256⟩;dsimp only at lw1 lw2 lw3;clear hB hdrop hget;cases hhx:hexB c
      · have hno:=of_decide_eq_false hhx;rw[xaf hhx]at hdec;have hl3:=lw3 hno;have hdg:¬(48≤c.toNat∧c.toNat≤57):=fun h=>hno (.inl h);have HD:Aside (puN 0 bs=none):=hdec;clear lw1 lw2 lw3 hno hhx hacc ha hdec;have HL:Aside (∀(w:World),Calls Tryz.prog 156 #[.int .u8 ((c.toNat:Nat):Int)] w fun e w'=>e=.returned (.int .u8 (bits .or .u8 ((c.toNat:Nat):Int) 32))∧w'=w):=fun w=>Tryz.internal_strconv_lower _ w;generalize bits .or .u8 ((c.toNat:Nat):Int) 32=x at hl3 HL;have h95:((((c.toNat:Nat):Int))==95)=true∨((((c.toNat:Nat):Int))==95)=false:=by cases ((((c.toNat:Nat):Int))==95)<;>simp
        rcases hl3 with h | h | h;all_goals (rcases h95 with h95 | h95)
        all_goals go_wp2_with (go_at_call 156; refine(HL.out _).mono ?_; rintro e w' ⟨rfl,rfl⟩)
        all_goals go_ret2
        all_goals exact⟨.inr ⟨HD.out,_,_,.inr rfl,rfl⟩,rfl⟩
      · have hyes:=of_decide_eq_true hhx;by_cases hdig:48≤c.toNat∧c.toNat≤57
        · obtain⟨hd0,hd1⟩:=hdig;have hv:hxv c=c.toNat-48:=(by unfold hxv; rw[if_pos hd1]);by_cases hov:4294967295<acc*16+hxv c
          · rw[ztj hhx hov]at hdec;have HD:Aside (puN 0 bs=none):=hdec;have iov:4294967295<a*16+((c.toNat:Int)-48):=(by omega);clear lw1 lw2 lw3 hyes hhx hdec hov hv ha hacc
            go_wp2
            go_ret2
            exact⟨.inr ⟨HD.out,_,_,.inl rfl,rfl⟩,rfl⟩
          · rw[jdj hhx hov]at hdec;have HN:Hid (a*16+((c.toNat:Int)-48)=((acc*16+hxv c:Nat):Int)∧acc*16+hxv c≤4294967295∧puN 0 bs=puN (acc*16+hxv c) (bs.drop (k+1))):=Lib.hid ⟨by omega,by omega,hdec⟩;have iov:a*16+((c.toNat:Int)-48)≤4294967295:=(by omega);clear lw1 lw2 lw3 hyes hhx hdec hov hv ha hacc
            go_wp2
            exact⟨⟨k+1,acc*16+hxv c,a*16+((c.toNat:Int)-48),rfl,(by first | rfl | (congr 1; omega)),(by first | rfl | (congr 1; omega)),by omega,HN⟩,by simp[intOf]; omega⟩
        · have hx:∃x:Int,bits .or .u8 ((c.toNat:Nat):Int) 32=x∧97≤x∧x≤102∧((hxv c:Nat):Int)=x-97+10:=by
            unfold hxv;by_cases h97:97≤c.toNat
            · exact⟨_,lw2 (by omega),by omega,by omega,by rw[if_neg (by omega),if_pos h97]; omega⟩
            · exact⟨_,lw1 (by omega),by omega,by omega,by rw[if_neg (by omega),if_neg h97]; omega⟩
          obtain⟨x,ex,x0,x1,hv⟩:=hx;have HL:Aside (∀(w:World),Calls Tryz.prog 156 #[.int .u8 ((c.toNat:Nat):Int)] w fun e w'=>e=.returned (.int .u8 x)∧w'=w):=fun w=>ex▸Tryz.internal_strconv_lower _ w;have h95:((((c.toNat:Nat):Int))==95)=false:=beq_eq_false_iff_ne.2 (by omega);have hg0:(48:Int)≤((c.toNat:Nat):Int):=(by omega);have hg1:¬(((c.toNat:Nat):Int)≤57):=(by omega);clear hdig;by_cases hov:4294967295<acc*16+hxv c
          · rw[ztj hhx hov]at hdec;have HD:Aside (puN 0 bs=none):=hdec;have iov:4294967295<a*16+(x-97+10):=(by omega);clear lw1 lw2 lw3 hyes hhx hdec hov hv ha hacc ex
            go_wp2_with (go_at_call 156; refine(HL.out _).mono ?_; rintro e w' ⟨rfl,rfl⟩)
            go_ret2
            exact⟨.inr ⟨HD.out,_,_,.inl rfl,rfl⟩,rfl⟩
          · rw[jdj hhx hov]at hdec;have HN:Hid (a*16+(x-97+10)=((acc*16+hxv c:Nat):Int)∧acc*16+hxv c≤4294967295∧puN 0 bs=puN (acc*16+hxv c) (bs.drop (k+1))):=Lib.hid ⟨by omega,by omega,hdec⟩;have iov:a*16+(x-97+10)≤4294967295:=(by omega);clear lw1 lw2 lw3 hyes hhx hdec hov hv ha hacc ex
            go_wp2_with (go_at_call 156; refine(HL.out _).mono ?_; rintro e w' ⟨rfl,rfl⟩)
            exact⟨⟨k+1,acc*16+hxv c,a*16+(x-97+10),rfl,(by first | rfl | (congr 1; omega)),(by first | rfl | (congr 1; omega)),by omega,HN⟩,by simp[intOf]; omega⟩
    · have hkk:k=t.size:=(by omega);subst hkk;have hF:puN acc (bs.drop t.size)=some acc:=(by rw[List.drop_eq_nil_of_le (by omega)]; rfl);rw[hF]at hdec;subst ha;have HD:Aside (puN 0 bs=some acc∧acc≤4294967295):=⟨hdec,hacc⟩;clear hacc hF a0 a1 hdec
      go_wp2
      go_ret2
      exact⟨.inl ⟨acc,HD.out.1,HD.out.2,rfl⟩,rfl⟩
def Er(w:World):Prop:=(∃ev:Value,w.cell? ⟨Tryz.laysC245_ren.g 15,0,none⟩=some ev∧(ev=.nilIface∨∃te pe,ev=.iface te pe))∧(∃ev:Value,w.cell? ⟨Tryz.laysC245_ren.g 16,0,none⟩=some ev∧(ev=.nilIface∨∃te pe,ev=.iface te pe))
theorem Er.below{w w':World}(h:Er w)(hb:Below w.heap.size w w'):Er w':=by
  obtain⟨⟨v,h1,h2⟩,⟨u,h3,h4⟩⟩:=h;exact⟨⟨v,(hb.cell (show(⟨_,0,none⟩:Addr).block<w.heap.size from Lib.lt_of_cell h1)).trans h1,h2⟩,⟨u,(hb.cell (show(⟨_,0,none⟩:Addr).block<w.heap.size from Lib.lt_of_cell h3)).trans h3,h4⟩⟩
def puX(l:List UInt8):Option Nat:=if l.isEmpty=true then none else puN 0 l
def PuB(r:Option Nat)(e:Ending):Prop:=(∃u:Nat,r=some u∧u≤4294967295∧e=.returned (.tuple #[.int .u64 ((u:Nat):Int),.nilIface]))∨(r=none∧∃(v:Int) (ty:TypeId) (p:Value),e=.returned (.tuple #[.int .u64 v,.iface ty p]))
set_option maxRecDepth 100000 in
theorem joe(t:ByteArray)(h0:t.size=0)(w:World):Calls Tryz.prog 138 #[.string t,.int .i64 16,.int .i64 32] w fun e w'=>e=.returned (.tuple #[.int .u64 0,.iface 168 (.int .i64 2)])∧w'=w:=by
  have hemp:t.toList.isEmpty=true:=by rw[Lib.toList_data,show t.data.toList=[]from List.length_eq_zero_iff.1 (by rw[←Lib.size_eq]; exact h0)]; rfl
  go_enter Tryz.func138,Tryz.ntmps138
  go_wp2
  go_ret2
  exact⟨rfl,rfl⟩
theorem jwc(t:ByteArray)(hmax:t.size≤281474976710656)(w:World):Calls Tryz.prog 138 #[.string t,.int .i64 16,.int .i64 32] w fun e w'=>PuA (puX t.data.toList) e∧Below w.heap.size w w':=by
  by_cases h0:t.size=0
  · refine(joe t h0 w).mono ?_;rintro e w' ⟨rfl,rfl⟩;exact⟨.inr ⟨by unfold puX; rw[if_pos (by rw[List.isEmpty_iff,←List.length_eq_zero_iff,←Lib.size_eq]; exact h0)],_,_,.inr rfl,rfl⟩,Below.refl _ _⟩
  · refine(xag t h0 (by omega) w).mono ?_;rintro e w' ⟨h1,rfl⟩;exact⟨by unfold puX; rw[if_neg (by rw[List.isEmpty_iff,←List.length_eq_zero_iff,←Lib.size_eq]; exact h0)]; exact h1,Lib.bytesWorld_below _ _ _⟩
set_option maxRecDepth 100000 in
theorem pu_any(t:ByteArray)(hlim:t.size≤281474976710656)(w:World)(hE:Er w):Calls Tryz.prog 117 #[.string t,.int .i64 16,.int .i64 32] w fun e w'=>PuB (puX t.data.toList) e∧Below w.heap.size w w':=by
  have HI:Hid _:=jwc t hlim w;have HE:Aside (Er w):=hE;clear hE
  go_enter Tryz.func117,Tryz.ntmps117
  go_wp2_with (go_at_call 138; refine Calls.mono HI.out ?_)
  rintro e W1 hA hb1;obtain⟨⟨v1,e1,e2⟩,⟨v2,e3,e4⟩⟩:=HE.out.below hb1;rcases hA with⟨u,hr,hu,rfl⟩ | ⟨hr,v,k,rfl | rfl,rfl⟩
  · have HR:Aside (puX t.data.toList=some u∧u≤4294967295):=⟨hr,hu⟩;clear hr hu e1 e2 e3 e4
    go_wp2
    go_ret2
    exact⟨.inl ⟨u,HR.out.1,HR.out.2,rfl⟩,hb1⟩
  · have HR:Aside (puX t.data.toList=none):=hr;have HT:Hid _:=Tryz.strconv_toError_range ⟨#[80,97,114,115,101,85,105,110,116]⟩ t 16 32 v2 W1 hlim e3 e4;clear hr e1 e2 e3 e4
    go_wp2_with (go_at_call 139; refine Calls.mono HT.out ?_; rintro e W2 ⟨N,rfl,h1,h2,h3⟩; clear h2)
    go_ret2
    exact⟨.inr ⟨HR.out,_,_,_,rfl⟩,hb1.trans (h3.mono hb1.size)⟩
  · have HR:Aside (puX t.data.toList=none):=hr;have HT:Hid _:=Tryz.strconv_toError_syntax ⟨#[80,97,114,115,101,85,105,110,116]⟩ t 16 32 v1 W1 hlim e1 e2;clear hr e1 e2 e3 e4
    go_wp2_with (go_at_call 139; refine Calls.mono HT.out ?_; rintro e W2 ⟨N,rfl,h1,h2,h3⟩; clear h2)
    go_ret2
    exact⟨.inr ⟨HR.out,_,_,_,rfl⟩,hb1.trans (h3.mono hb1.size)⟩
end Go.Proofs.YtgjohjfehgdgbaaGreatDoor.C
namespace Go.Proofs.YtgjohjfehgdgbaaGreatDoor.G
open Go.RowKit
set_option maxRecDepth 100000
def Tabs8(w:World):Prop:=Lib.Utf8Tabs (Tryz.laysValid_ren.g 3) (Tryz.laysValid_ren.g 4) w
theorem Tabs8.below{w w':World}(h:Tabs8 w)(hb:Below w.heap.size w w'):Tabs8 w':=Utf8Tabs_below h hb
theorem zxj{w:World}{s:ByteArray}(hs:s.size≤9223372036854775807)(hT:Tabs8 w){b:Bool}(h:okS s=b):Calls Tryz.prog 24 #[.string s] w fun e w'=>e=.returned (bV b)∧Below w.heap.size w w':=h▸Any.utf8_ValidString Tryz.laysValid s w hs hT
theorem zya{w:World}{r:Int}:Calls Tryz.prog 67 #[.int .i32 r] w fun e w'=>e=.returned (bV (Lib.validRune r))∧Below w.heap.size w w':=(Tryz.utf8_ValidRune r w).mono fun e w' ⟨h,e2⟩=>⟨h,e2▸Below.refl _ _⟩
theorem zbg{P:Program}{s d:TypeId}(hs:P.underlying s=some (.int .i64))(hd:P.underlying d=some (.int .i32)){n:Int}(h0:0≤n)(h1:n≤1114111):∀w,(convert s d (iV n)).run P w=.ok (.int .i32 n) w:=fun w=>by
 simp[go_sem,run_underlying hs,run_underlying hd,convert];exact in_i32 (by omega) (by omega)
theorem jea{w:World}{n:Int}:Calls Tryz.prog 43 #[iV n] w fun e w'=>e=.returned (bV (xl n))∧Below w.heap.size w w':=by
 have M:Mg w w ([]):=Mg.start w;refine qn (l:=[(0,iV n)]) Tryz.func43 rfl Tryz.ntmps43 rfl rfl ?_;intro Q hret hnorm hP a A;refine wsk fun K1 hK1=>wrl (sda A λa A=>?_);refine qa (hK1 _ _ (wsk fun K2 hK2=>wrl (sdm A λa A=>?_)));rcases tf (decide (0≤n))with hb3 | hb3
 ·have hb3':=of_decide_eq_true hb3;refine sdc A jc hb3 λa A=>?_;iterate 2 refine sdm A λa A=>?_
  rcases tf (decide (n≤1114111))with hb4 | hb4
  ·have hb4':=of_decide_eq_true hb4;refine sdc A jh hb4 λa A=>?_;refine sdk (v:=bV true) A λa A=>?_;iterate 2 refine sdm A λa A=>?_
   refine sdo (v:=.int .i32 n) A (zt rfl (zbg Tryz.underlying3 Tryz.underlying21 (by omega) (by omega))) λa A=>?_;refine gcl A M (ef rfl rfl) (zya) fun w5 hbv M a A=>?_;refine sdo (v:=bV (Lib.validRune n)) A (jl rfl rfl rfl rfl) λa A=>?_;refine sda A λa A=>?_;refine qa (hK2 _ _ (wr1 hret A ?_));exact⟨by rw[show xl n=Lib.validRune n from by unfold xl; unfold Lib.validRune; exact decide_eq_decide.2 (by omega)],M.bel⟩
  ·have hb4':=of_decide_eq_false hb4;refine sdc A jh hb4 λa A=>?_;refine sdk (v:=bV false) A λa A=>?_;refine sdm A λa A=>?_;iterate 3 refine qf A rfl rfl rfl λa A=>?_
   refine sdk (v:=bV false) A λa A=>?_;refine sda A λa A=>?_;refine qa (hK2 _ _ (wr1 hret A ?_));exact⟨by rw[show xl n=false from by unfold xl; apply decide_eq_false; omega],M.bel⟩
 ·have hb3':=of_decide_eq_false hb3;refine sdc A jc hb3 λa A=>?_;refine sdm A λa A=>?_;iterate 2 refine qf A rfl rfl rfl λa A=>?_
  refine sdk (v:=bV false) A λa A=>?_;refine sdm A λa A=>?_;iterate 3 refine qf A rfl rfl rfl λa A=>?_
  refine sdk (v:=bV false) A λa A=>?_;refine sda A λa A=>?_;refine qa (hK2 _ _ (wr1 hret A ?_));exact⟨by rw[show xl n=false from by unfold xl; apply decide_eq_false; omega],M.bel⟩
theorem qub{m1 m2:Nat}(h1:m1≤9223372036854775807)(h2:m2≤9223372036854775807):(IntKind.i64.wrap (((m1:Nat):Int)+((m2:Nat):Int))==0)=(decide (m1=0)&&decide (m2=0)):=by
 rw[IntKind.wrap_i64];by_cases a1:m1=0
 ·subst a1;by_cases a2:m2=0
  ·subst a2; rfl
  ·simp[a2]; omega
 ·simp[a1]; omega
theorem qid{w:World}{b:Bool}{o1 o2:Option Addr}{m1 m2 c1 c2:Nat}(h1:m1≤9223372036854775807)(h2:m2≤9223372036854775807){r:Bool}(hr:qcb b m1 m2=r):Calls Tryz.prog 47 #[.agg #[bV b,.slice o1 m1 c1,.slice o2 m2 c2]] w fun e w'=>e=.returned (bV r)∧Below w.heap.size w w':=by
 have M:Mg w w ([]):=Mg.start w;refine qn (l:=[(0,.agg #[bV b,.slice o1 m1 c1,.slice o2 m2 c2])]) Tryz.func47 rfl Tryz.ntmps47 rfl rfl ?_;intro Q hret hnorm hP a A;refine wsk fun K1 hK1=>wrl (xq (vs:=[bV b,.slice o1 m1 c1,.slice o2 m2 c2]) (t:=24) A M rfl rfl rfl pg (zd rfl rfl) (by decide) ?_);intro g2 w3 M a A;refine sda A λa A=>?_;refine qa (hK1 _ _ (wsk fun K4 hK4=>wrl (sdo (v:=pA g2 0) A (qe juh rfl rfl) λa A=>?_)));refine sdo A (qt M o94 rfl 0 rfl rfl) λa A=>?_;rcases b with _ | _
 ·refine sdo (v:=bV true) A (qp rfl ze) λa A=>?_;refine sdm A λa A=>?_;refine sdo (v:=pA g2 1) A (qe jui rfl rfl) λa A=>?_;refine sdo A (qt M jyj rfl 0 rfl rfl) λa A=>?_;refine sdo A (zh Tryz.underlying22 rfl) λa A=>?_;refine sdo (v:=pA g2 2) A (qe juj rfl rfl) λa A=>?_;refine sdo A (qt M jyj rfl 0 rfl rfl) λa A=>?_;refine sdo A (zh Tryz.underlying22 rfl) λa A=>?_;refine sdo (v:=iV (IntKind.i64.wrap (((m1:Nat):Int)+((m2:Nat):Int)))) A (qb rfl rfl (ar_add rfl)) λa A=>?_;rcases tf ((IntKind.i64.wrap (((m1:Nat):Int)+((m2:Nat):Int))==0))with hb5 | hb5
  ·have hb5':=eq_of_beq hb5;refine sdc A qg hb5 λa A=>?_;refine sdk (v:=bV true) A λa A=>?_;refine sda A λa A=>?_;refine qa (hK4 _ _ (wr1 hret A ?_));subst hr;have e9:=qub h1 h2;try rw[e9]at hb5
   exact⟨by unfold qcb; simp_all; try omega,M.bel⟩
  ·have hb5':=ne_of_beq_false hb5;refine sdc A qg hb5 λa A=>?_;refine sdk (v:=bV false) A λa A=>?_;refine sda A λa A=>?_;refine qa (hK4 _ _ (wr1 hret A ?_));subst hr;have e9:=qub h1 h2;try rw[e9]at hb5
   exact⟨by unfold qcb; simp_all; try omega,M.bel⟩
 ·refine sdo (v:=bV false) A (qp rfl ze) λa A=>?_;refine sdm A λa A=>?_;iterate 8 refine qf A rfl rfl rfl λa A=>?_
  refine sdk (v:=bV false) A λa A=>?_;refine sda A λa A=>?_;refine qa (hK4 _ _ (wr1 hret A ?_));subst hr;have e9:=qub h1 h2;exact⟨by unfold qcb; simp_all; try omega,M.bel⟩
def qfi(l:List UInt8):Option Nat:=(C.puX l).bind fun u=>if(decide (((l.length:Nat):Int)≤8)&&xl ((u:Nat):Int))=true then some u else none
theorem jwd{l:List UInt8}(h:C.puX l=none):qfi l=none:=by unfold qfi; rw[h]; rfl
theorem quc{l:List UInt8}{u:Nat}{b:Bool}(h:C.puX l=some u)(hb:(decide (((l.length:Nat):Int)≤8)&&xl ((u:Nat):Int))=b):qfi l=if b=true then some u else none:=by unfold qfi; rw[h]; show(if _ then _ else _)=_; rw[hb]
theorem xdi{w:World}{l:List UInt8}{u:Nat}(hl:l.length≤1000000000)(hE:C.Er w)(h:C.puX l=some u):Calls Tryz.prog 117 #[.string (tx l),iV 16,iV 32] w fun e w'=>e=.returned (.tuple #[.int .u64 ((u:Nat):Int),.nilIface])∧u≤4294967295∧Below w.heap.size w w':=
 (C.pu_any (tx l) (by rw[jx]; omega) w hE).mono fun e w' ⟨h1,hb⟩=>by
  rw[xv,h]at h1;obtain⟨v,e1,e2,rfl⟩ | ⟨e1,_⟩:=h1
  ·cases e1
   exact⟨rfl,e2,hb⟩
  ·cases e1
theorem xdj{w:World}{l:List UInt8}(hl:l.length≤1000000000)(hE:C.Er w)(h:C.puX l=none):Calls Tryz.prog 117 #[.string (tx l),iV 16,iV 32] w fun e w'=>(∃(v:Int) (ty:TypeId) (q:Value),e=.returned (.tuple #[.int .u64 v,.iface ty q]))∧Below w.heap.size w w':=
 (C.pu_any (tx l) (by rw[jx]; omega) w hE).mono fun e w' ⟨h1,hb⟩=>by
  rw[xv,h]at h1;obtain⟨v,e1,e2,rfl⟩ | ⟨e1,h2⟩:=h1
  ·cases e1
  ·exact⟨h2,hb⟩
theorem zua{w:World}{n:Int}{b:Bool}(h:xl n=b):Calls Tryz.prog 43 #[iV n] w fun e w'=>e=.returned (bV b)∧Below w.heap.size w w':=h▸jea
theorem jof{P:Program}{t ty:TypeId}{x y:Operand}{q:Value}(h:P.underlying t=some (.interface (P.methodsAt t))):∀w,(do eqGuard .eql t x y (.iface ty q) .nilIface; binOp .eql t (.iface ty q) .nilIface:Sem Value).run P w=.ok (bV false) w:=fun w=>by simp[go_sem,run_eql_held_nil w t ty q h]
theorem zod{P:Program}{s d:TypeId}(hs:P.underlying s=some (.int .u64))(hd:P.underlying d=some (.int .i64)){n:Int}(h0:0≤n)(h1:n≤4294967295):∀w,(convert s d (.int .u64 n)).run P w=.ok (iV n) w:=fun w=>by
 simp[go_sem,run_underlying hs,run_underlying hd,convert];exact in_i64 (by omega) (by omega)
theorem zoe{P:Program}{s d:TypeId}(hs:P.underlying s=some (.int .u64))(hd:P.underlying d=some (.int .i32)){n:Int}(h0:0≤n)(h1:n≤1114111):∀w,(convert s d (.int .u64 n)).run P w=.ok (.int .i32 n) w:=fun w=>by
 simp[go_sem,run_underlying hs,run_underlying hd,convert];exact in_i32 (by omega) (by omega)
theorem xah{w:World}{l:List UInt8}(hE:C.Er w)(hl:l.length≤1000000000){u:Nat}(hu:C.puX l=some u):Calls Tryz.prog 90 #[.string (tx l)] w fun e w'=>(e=.panicked flt∧qfi l=none∧Below w.heap.size w w')∨∃c,e=.returned (.int .i32 ((c:Nat):Int))∧(qfi l=some c∧xl ((c:Nat):Int)=true)∧Below w.heap.size w w':=by
 have M:Mg w w ([]):=Mg.start w;refine jw (l:=[(0,.string ((tx l)))]) Tryz.func90 rfl Tryz.ntmps90 rfl rfl ?_;intro Q hret hnorm hP hX a A;refine wsk fun K1 hK1=>wrl (sda A λa A=>?_);refine qa (hK1 _ _ (wsk fun K2 hK2=>wrl (sdm A λa A=>?_)));refine sct A (ef rfl rfl) (xdi (l:=l) (u:=u) (by omega) (hE.below M.bel) hu) ?_;rintro _ w4 ⟨rfl,hul,hb3⟩;replace M:=M.call hb3;refine⟨_,rfl,?_⟩;intro a A;refine sdm A λa A=>?_;iterate 2 refine sdo A (qi (vs:=[.int .u64 (((u:Nat):Int)),.nilIface]) rfl rfl) λa A=>?_
 iterate 2 refine sda A λa A=>?_
 refine qa (hK2 _ _ (wsk fun K5 hK5=>wrl (sdm A λa A=>?_)));refine sdo (v:=bV true) A dbK λa A=>?_;iterate 2 refine sdm A λa A=>?_
 refine sdo (v:=iV (((l.length:Nat):Int))) A (xy (s:=l) Tryz.underlying9 rfl) λa A=>?_;rcases tf (decide (((l.length:Nat):Int)≤8))with hb6 | hb6
 ·have hb6':=of_decide_eq_true hb6;refine sdc A jh hb6 λa A=>?_;refine sdk (v:=bV true) A λa A=>?_;iterate 2 refine sdm A λa A=>?_
  refine sdo (v:=iV (((u:Nat):Int))) A (zt rfl (zod Tryz.underlying94 Tryz.underlying3 (by omega) (by omega))) λa A=>?_;rcases tf (xl ((u:Nat):Int))with hb8 | hb8
  ·refine sct A (ef rfl rfl) (zua hb8) ?_;rintro _ w10 ⟨rfl,hb9⟩;have hch:=of_decide_eq_true hb8;replace M:=M.call hb9;refine⟨_,rfl,?_⟩;intro a A;refine sdk (v:=bV true) A λa A=>?_;refine gcl A M (ef rfl rfl) (yh) fun w12 hb11 M a A=>?_;refine qa (hK5 _ _ (wsk fun K13 hK13=>wrl (sdm A λa A=>?_)));refine sdo (v:=.int .i32 (((u:Nat):Int))) A (zt rfl (zoe Tryz.underlying94 Tryz.underlying21 (by omega) (by omega))) λa A=>?_;refine sda A λa A=>?_;refine qa (hK13 _ _ (wr1 hret A ?_));exact .inr ⟨u,rfl,⟨by rw[quc hu (b:=true) (by rw[hb6,hb8]; rfl)]; rfl,hb8⟩,M.bel⟩
  ·refine gcl A M (ef rfl rfl) (zua hb8) fun w15 hb14 M a A=>?_;refine sdk (v:=bV false) A λa A=>?_;refine qz A rfl rfl rfl (ef rfl rfl) (vz) ?_;rintro _ w17 ⟨rfl,hp18⟩;exact .inl ⟨_,rfl,hX _ _ _ _ _ A (.inl ⟨rfl,by rw[quc hu (b:=false) (by rw[hb6,hb8]; rfl)]; rfl,M.bel.trans (hp18.mono M.bel.size)⟩)⟩
 ·have hb6':=of_decide_eq_false hb6;refine sdc A jh hb6 λa A=>?_;refine sdk (v:=bV false) A λa A=>?_;refine sdm A λa A=>?_;iterate 3 refine qf A rfl rfl rfl λa A=>?_
  refine sdk (v:=bV false) A λa A=>?_;refine qz A rfl rfl rfl (ef rfl rfl) (vz) ?_;rintro _ w20 ⟨rfl,hp21⟩;exact .inl ⟨_,rfl,hX _ _ _ _ _ A (.inl ⟨rfl,by rw[quc hu (b:=false) (by rw[hb6]; rfl)]; rfl,M.bel.trans (hp21.mono M.bel.size)⟩)⟩
theorem xai{w:World}{l:List UInt8}(hE:C.Er w)(hl:l.length≤1000000000)(hu:C.puX l=none):Calls Tryz.prog 90 #[.string (tx l)] w fun e w'=>(e=.panicked flt∧qfi l=none∧Below w.heap.size w w')∨∃c,e=.returned (.int .i32 ((c:Nat):Int))∧(qfi l=some c∧xl ((c:Nat):Int)=true)∧Below w.heap.size w w':=by
 have M:Mg w w ([]):=Mg.start w;refine jw (l:=[(0,.string ((tx l)))]) Tryz.func90 rfl Tryz.ntmps90 rfl rfl ?_;intro Q hret hnorm hP hX a A;refine wsk fun K1 hK1=>wrl (sda A λa A=>?_);refine qa (hK1 _ _ (wsk fun K2 hK2=>wrl (sdm A λa A=>?_)));refine sct A (ef rfl rfl) (xdj (l:=l) (by omega) (hE.below M.bel) hu) ?_;rintro _ w4 ⟨⟨v,ty,q,rfl⟩,hb3⟩;replace M:=M.call hb3;refine⟨_,rfl,?_⟩;intro a A;refine sdm A λa A=>?_;iterate 2 refine sdo A (qi (vs:=[.int .u64 v,.iface ty q]) rfl rfl) λa A=>?_
 iterate 2 refine sda A λa A=>?_
 refine qa (hK2 _ _ (wsk fun K5 hK5=>wrl (sdm A λa A=>?_)));refine sdo (v:=bV false) A (qb rfl rfl (jof Tryz.underlying85)) λa A=>?_;refine sdm A λa A=>?_;iterate 3 refine qf A rfl rfl rfl λa A=>?_
 refine sdk (v:=bV false) A λa A=>?_;refine sdm A λa A=>?_;iterate 3 refine qf A rfl rfl rfl λa A=>?_
 refine sdk (v:=bV false) A λa A=>?_;refine qz A rfl rfl rfl (ef rfl rfl) (vz) ?_;rintro _ w7 ⟨rfl,hp8⟩;exact .inl ⟨_,rfl,hX _ _ _ _ _ A (.inl ⟨rfl,jwd hu,M.bel.trans (hp8.mono M.bel.size)⟩)⟩
theorem zub{w:World}{l:List UInt8}(hE:C.Er w)(hl:l.length≤1000000000):Calls Tryz.prog 90 #[.string (tx l)] w fun e w'=>(e=.panicked flt∧qfi l=none∧Below w.heap.size w w')∨∃c,e=.returned (.int .i32 ((c:Nat):Int))∧(qfi l=some c∧xl ((c:Nat):Int)=true)∧Below w.heap.size w w':=by
 cases hu:C.puX l with
 | none => exact xai hE hl hu
 | some u => exact xah hE hl hu
structure Env(w:World):Prop where
 tb:Tb w
 er:C.Er w
 mx:∃m:Int,w.cell? ⟨Tryz.lays145_ren.g 1,0,none⟩=some (iV m)
theorem Env.below{w w':World}(h:Env w)(hb:Below w.heap.size w w'):Env w':=
 ⟨h.tb.below hb,h.er.below hb,h.mx.elim fun m hm=>⟨m,(hb.cell (show(⟨_,0,none⟩:Addr).block<w.heap.size from Lib.lt_of_cell hm)).trans hm⟩⟩
def smI(l:List UInt8):Option Nat:=if 0≤Lib.index l [59]then some (Lib.index l [59]).toNat else none
theorem jeb{l:List UInt8}{n:Nat}(h:smI l=some n):n+1≤l.length:=by
 unfold smI at h;by_cases h0:0≤Lib.index l [59]
 ·rw[if_pos h0]at h;have:=Lib.index_room l [59] h0;cases h
  simp at this;omega
 ·rw[if_neg h0]at h;cases h
theorem qqb(w:World):∀n,Below w.heap.size w (w.drewN n):=fun n=>by
 induction n with
 | zero => exact Below.refl _ _
 | succ n ih => exact ih.drew
theorem xaj{w:World}{l:List UInt8}{n:Nat}(hN:Env w)(hl:l.length≤1000000000)(h:smI l=some n):Calls Tryz.prog 112 #[.string (tx l),.string (tx [59])] w fun e w'=>e=.returned (.tuple #[.string (tx (l.take n)),.string (tx (l.drop (n+1))),bV true])∧Below w.heap.size w w':=by
 obtain⟨m,hm⟩:=hN.mx;refine(Tryz.strings_Cut (tx l) (tx [59]) m w (by rw[jx]; omega) hm).mono ?_;rintro e w' ⟨rfl,k,rfl⟩;refine⟨?_,qqb w k⟩;unfold smI at h;by_cases h0:0≤Lib.index l [59]
 ·rw[if_pos h0]at h;cases h
  rw[xv,xv,show Lib.cut l [59]=(l.take (Lib.index l [59]).toNat,l.drop ((Lib.index l [59]).toNat+1),true)from if_pos h0];rfl
 ·rw[if_neg h0]at h;cases h
theorem xba{w:World}{l:List UInt8}(hN:Env w)(hl:l.length≤1000000000)(h:smI l=none):Calls Tryz.prog 112 #[.string (tx l),.string (tx [59])] w fun e w'=>e=.returned (.tuple #[.string (tx l),.string (tx []),bV false])∧Below w.heap.size w w':=by
 obtain⟨m,hm⟩:=hN.mx;refine(Tryz.strings_Cut (tx l) (tx [59]) m w (by rw[jx]; omega) hm).mono ?_;rintro e w' ⟨rfl,k,rfl⟩;refine⟨?_,qqb w k⟩;unfold smI at h;by_cases h0:0≤Lib.index l [59]
 ·rw[if_pos h0]at h;cases h
 ·rw[xv,xv,show Lib.cut l [59]=(l,[],false)from if_neg h0];rfl
def dgX(l:List UInt8):Option (Nat×Nat):=(smI l).bind fun n=>(qfi (l.take n)).map fun c=>(c,n+1)
theorem jog{l:List UInt8}(h:smI l=none):dgX l=none:=by unfold dgX; rw[h]; rfl
theorem zuc{l:List UInt8}{n:Nat}{r:Option Nat}(h:smI l=some n)(h2:qfi (l.take n)=r):dgX l=r.map fun c=>(c,n+1):=by unfold dgX; rw[h]; show(qfi (l.take n)).map _=_; rw[h2]
theorem zof{P:Program}{w:World}{l:List (Nat×Value)}{dst:Option Tmp}{ty u:TypeId}{pos:String}{after:Array Edge}{guard:Option (Nat×Bool)}{x:Operand}{s:List UInt8}{n:Nat}(hu:P.underlying u=some .string)(hx:ev l x=some (.string (tx s)))(hn:s.length=n):Does P l ⟨dst,.call ⟨.builtin .len,#[x],#[u]⟩,ty,pos,after,guard⟩ w (iV ((n:Nat):Int)) w:=hn▸xy hu hx
theorem jec{w0 w:World}{g p:Nat}{lg:Bool}{L:List UInt8}{T:List Ck}(hN:Env w0)(hp:p≤L.length)(hl:L.length≤1000000000){n:Nat}(hs:smI (L.drop p)=some n)(hM0:Mg w0 w (.obj g (rC L p lg)::T)):Calls Tryz.prog 82 #[pA g 0] w fun e w'=>(e=.panicked flt∧dgX (L.drop p)=none∧∃q,q≤L.length∧Mg w0 w' (.obj g (rC L q lg)::T))∨∃c n,e=.returned (.int .i32 ((c:Nat):Int))∧(dgX (L.drop p)=some (c,n)∧p+n≤L.length∧xl ((c:Nat):Int)=true)∧Mg w0 w' (.obj g (rC L (p+n) lg)::T):=by
 have hsl:=jeb hs;rw[List.length_drop]at hsl;have hln:((L.drop p).take n).length=n:=by rw[List.length_take,List.length_drop]; omega
 have M:Mg w0 w (.obj g (rC L p lg)::T):=hM0;refine jw (l:=[(0,pA g 0)]) Tryz.func82 rfl Tryz.ntmps82 rfl rfl ?_;intro Q hret hnorm hP hX a A;refine wsk fun K1 hK1=>wrl (sda A λa A=>?_);refine qa (hK1 _ _ (wsk fun K2 hK2=>wrl (sdm A λa A=>?_)));refine sct A (ef rfl rfl) (vd (p:=p) (L:=L) (T:=(T)) (by omega) M) ?_;rintro _ w4 ⟨rfl,hM3⟩;replace M:Mg w0 w4 (.obj g (rC L p lg)::T):=hM3;refine⟨_,rfl,?_⟩;intro a A;refine gcl A M (ef rfl rfl) (xaj (l:=L.drop p) (n:=n) (hN.below M.bel) (by rw[List.length_drop]; omega) hs) fun w6 hb5 M a A=>?_;refine sdm A λa A=>?_;iterate 3 refine sdo A (qi (vs:=[.string ((tx ((L.drop p).take n))),.string ((tx ((L.drop p).drop (n+1)))),bV true]) rfl rfl) λa A=>?_
 iterate 3 refine sda A λa A=>?_
 refine qa (hK2 _ _ (wsk fun K7 hK7=>wrl (sdm A λa A=>?_)));refine gcl A M (ef rfl rfl) (yh) fun w9 hb8 M a A=>?_;refine qa (hK7 _ _ (wsk fun K10 hK10=>wrl (sdm A λa A=>?_)));refine sdo A (je rfl) λa A=>?_;refine sdo (v:=pA g 1) A (qe qcc rfl rfl) λa A=>?_;refine sdo A (qt M o93 rfl 0 rfl rfl) λa A=>?_;refine sdm A λa A=>?_;refine sdo (v:=iV (((n:Nat):Int))) A (zof (s:=(L.drop p).take n) Tryz.underlying9 rfl hln) λa A=>?_;refine sdo (v:=iV (((n+1:Nat):Int))) A (qb rfl rfl (ar_add ((in_i64 (by omega) (by omega)).trans (by omega)))) λa A=>?_;refine sdo (v:=iV (((p+n+1:Nat):Int))) A (qb rfl rfl (ar_add ((in_i64 (by omega) (by omega)).trans (by omega)))) λa A=>?_;refine sdo A (je rfl) λa A=>?_;refine sdo (v:=pA g 1) A (qe qcc rfl rfl) λa A=>?_;refine zi (L':=(.obj g (rC L (p+n+1) lg)::T)) A M rfl rfl (qw rfl rfl rfl (by kernel_rfl) M 0 rfl rfl rfl) 0 rfl rfl rfl ?_;intro w11 M;refine qa (hK10 _ _ (wsk fun K12 hK12=>wrl (sdm A λa A=>?_)));refine qz A rfl rfl rfl (ef rfl rfl) (zub (l:=(L.drop p).take n) (hN.below M.bel).er (by omega)) ?_;rintro _ w14 (⟨rfl,hp15⟩ | ⟨c,rfl,⟨hc,hcc⟩,hb13⟩)
 ·exact .inl ⟨_,rfl,hX _ _ _ _ _ A (.inl ⟨rfl,by rw[zuc hs hp15.1]; rfl,_,by omega,M.call hp15.2⟩)⟩
 replace M:=M.call hb13;refine .inr ⟨_,rfl,?_⟩;intro a A;refine sda A λa A=>?_;refine qa (hK12 _ _ (wr1 hret A ?_));exact .inr ⟨c,n+1,rfl,⟨by rw[zuc hs hc]; rfl,by omega,hcc⟩,M⟩
theorem jed{w0 w:World}{g p:Nat}{lg:Bool}{L:List UInt8}{T:List Ck}(hN:Env w0)(hp:p≤L.length)(hl:L.length≤1000000000)(hs:smI (L.drop p)=none)(hM0:Mg w0 w (.obj g (rC L p lg)::T)):Calls Tryz.prog 82 #[pA g 0] w fun e w'=>(e=.panicked flt∧dgX (L.drop p)=none∧∃q,q≤L.length∧Mg w0 w' (.obj g (rC L q lg)::T))∨∃c n,e=.returned (.int .i32 ((c:Nat):Int))∧(dgX (L.drop p)=some (c,n)∧p+n≤L.length∧xl ((c:Nat):Int)=true)∧Mg w0 w' (.obj g (rC L (p+n) lg)::T):=by
 have M:Mg w0 w (.obj g (rC L p lg)::T):=hM0;refine jw (l:=[(0,pA g 0)]) Tryz.func82 rfl Tryz.ntmps82 rfl rfl ?_;intro Q hret hnorm hP hX a A;refine wsk fun K1 hK1=>wrl (sda A λa A=>?_);refine qa (hK1 _ _ (wsk fun K2 hK2=>wrl (sdm A λa A=>?_)));refine sct A (ef rfl rfl) (vd (p:=p) (L:=L) (T:=(T)) (by omega) M) ?_;rintro _ w4 ⟨rfl,hM3⟩;replace M:Mg w0 w4 (.obj g (rC L p lg)::T):=hM3;refine⟨_,rfl,?_⟩;intro a A;refine gcl A M (ef rfl rfl) (xba (l:=L.drop p) (hN.below M.bel) (by rw[List.length_drop]; omega) hs) fun w6 hb5 M a A=>?_;refine sdm A λa A=>?_;iterate 3 refine sdo A (qi (vs:=[.string ((tx (L.drop p))),.string ((tx ([]))),bV false]) rfl rfl) λa A=>?_
 iterate 3 refine sda A λa A=>?_
 refine qa (hK2 _ _ (wsk fun K7 hK7=>wrl (sdm A λa A=>?_)));refine qz A rfl rfl rfl (ef rfl rfl) (vz) ?_;rintro _ w9 ⟨rfl,hp10⟩;exact .inl ⟨_,rfl,hX _ _ _ _ _ A (.inl ⟨rfl,jog hs,_,hp,M.call hp10⟩)⟩
theorem qud{w0 w:World}{g p:Nat}{lg:Bool}{L:List UInt8}{T:List Ck}(hN:Env w0)(hp:p≤L.length)(hl:L.length≤1000000000)(hM0:Mg w0 w (.obj g (rC L p lg)::T)):Calls Tryz.prog 82 #[pA g 0] w fun e w'=>(e=.panicked flt∧dgX (L.drop p)=none∧∃q,q≤L.length∧Mg w0 w' (.obj g (rC L q lg)::T))∨∃c n,e=.returned (.int .i32 ((c:Nat):Int))∧(dgX (L.drop p)=some (c,n)∧p+n≤L.length∧xl ((c:Nat):Int)=true)∧Mg w0 w' (.obj g (rC L (p+n) lg)::T):=by
 cases hs:smI (L.drop p)with
 | none => exact jed hN hp hl hs hM0
 | some n => exact jec hN hp hl hs hM0
def esX(l:List UInt8):Option (Nat×Nat):=if l.isEmpty=true then none else if(((dcX l).1:Nat):Int)=97 then some (7,(dcX l).2)else if(((dcX l).1:Nat):Int)=98 then some (8,(dcX l).2)else if(((dcX l).1:Nat):Int)=116 then some (9,(dcX l).2)else if(((dcX l).1:Nat):Int)=110 then some (10,(dcX l).2)else if(((dcX l).1:Nat):Int)=118 then some (11,(dcX l).2)else if(((dcX l).1:Nat):Int)=102 then some (12,(dcX l).2)else if(((dcX l).1:Nat):Int)=114 then some (13,(dcX l).2)else if(((dcX l).1:Nat):Int)=120 then(dgX (l.drop (dcX l).2)).map (fun r=>(r.1,(dcX l).2+r.2))else if(((dcX l).1:Nat):Int)=34 then some ((dcX l).1,(dcX l).2)else if(((dcX l).1:Nat):Int)=92 then some ((dcX l).1,(dcX l).2)else none
theorem zgi{w0 w:World}{g p:Nat}{lg:Bool}{L:List UInt8}{T:List Ck}(hN:Env w0)(hp:p≤L.length)(hl:L.length≤1000000000)(hM0:Mg w0 w (.obj g (rC L p lg)::T)):Calls Tryz.prog 58 #[pA g 0] w fun e w'=>(e=.panicked flt∧esX (L.drop p)=none∧∃q,q≤L.length∧Mg w0 w' (.obj g (rC L q lg)::T))∨∃c n,e=.returned (.int .i32 ((c:Nat):Int))∧(esX (L.drop p)=some (c,n)∧p+n≤L.length∧xl ((c:Nat):Int)=true)∧Mg w0 w' (.obj g (rC L (p+n) lg)::T):=by
 have hT:=hN.tb;have M:Mg w0 w (.obj g (rC L p lg)::T):=hM0;refine jw (l:=[(0,pA g 0)]) Tryz.func58 rfl Tryz.ntmps58 rfl rfl ?_;intro Q hret hnorm hP hX a A;refine wsk fun K1 hK1=>wrl (sda A λa A=>?_);refine qa (hK1 _ _ (wsk fun K2 hK2=>wrl (sdm A λa A=>?_)));rcases tf ((L.drop p).isEmpty)with hb3 | hb3
 ·refine qz A rfl rfl rfl (ef rfl rfl) (qtg (p:=p) (L:=L) (T:=(T)) hT (by omega) (by omega) (List.isEmpty_iff.1 hb3) M) ?_;rintro _ w4 ⟨rfl,hp5⟩;exact .inl ⟨_,rfl,hX _ _ _ _ _ A (.inl ⟨rfl,by unfold esX; rw[if_pos hb3],_,by omega,hp5⟩)⟩
 ·have hne9:(L.drop p)≠[]:=fun k=>by rw[k]at hb3; cases hb3
  obtain⟨hw7,hw8⟩:=jg hne9;rw[List.length_drop]at hw8;refine sct A (ef rfl rfl) (qrf (p:=p) (L:=L) (T:=(T)) hT (by omega) (by omega) hne9 M) ?_;rintro _ w10 ⟨rfl,hM6⟩;replace M:Mg w0 w10 (.obj g (rC L (p+(dcX (L.drop p)).2) lg)::T):=hM6;refine⟨_,rfl,?_⟩;intro a A;refine sda A λa A=>?_;refine qa (hK2 _ _ (wsk fun K11 hK11=>wsk fun K12 hK12=>wrl (sdm A λa A=>?_)));refine qa (hK12 _ _ (wp_block (wsk fun K13 hK13=>wrl ?_)));rcases tf (((((dcX (L.drop p)).1:Nat):Int)==97))with hb14 | hb14
  ·have hb14':=eq_of_beq hb14;refine sdc A qg hb14 λa A=>?_;refine sda A λa A=>?_;refine qa (hK13 _ _ (ct A ?_));refine wsk fun K15 hK15=>wrl (sda A λa A=>?_);refine qa (hK15 _ _ (wr1 hret A ?_));exact .inr ⟨7,_,rfl,⟨by unfold esX; rw[if_neg (by rw[hb3]; decide),if_pos (eq_of_beq hb14)],by omega,by decide⟩,M⟩
  ·have hb14':=ne_of_beq_false hb14;refine sdc A qg hb14 λa A=>?_;refine sda A λa A=>?_;refine qa (hK13 _ _ (cf A ?_));refine wsk fun K16 hK16=>wrl ?_;rcases tf (((((dcX (L.drop p)).1:Nat):Int)==98))with hb17 | hb17
   ·have hb17':=eq_of_beq hb17;refine sdc A qg hb17 λa A=>?_;refine sda A λa A=>?_;refine qa (hK16 _ _ (ct A ?_));refine wsk fun K18 hK18=>wrl (sda A λa A=>?_);refine qa (hK18 _ _ (wr1 hret A ?_));exact .inr ⟨8,_,rfl,⟨by unfold esX; rw[if_neg (by rw[hb3]; decide),if_neg (ne_of_beq_false hb14),if_pos (eq_of_beq hb17)],by omega,by decide⟩,M⟩
   ·have hb17':=ne_of_beq_false hb17;refine sdc A qg hb17 λa A=>?_;refine sda A λa A=>?_;refine qa (hK16 _ _ (cf A ?_));refine wsk fun K19 hK19=>wrl ?_;rcases tf (((((dcX (L.drop p)).1:Nat):Int)==116))with hb20 | hb20
    ·have hb20':=eq_of_beq hb20;refine sdc A qg hb20 λa A=>?_;refine sda A λa A=>?_;refine qa (hK19 _ _ (ct A ?_));refine wsk fun K21 hK21=>wrl (sda A λa A=>?_);refine qa (hK21 _ _ (wr1 hret A ?_));exact .inr ⟨9,_,rfl,⟨by unfold esX; rw[if_neg (by rw[hb3]; decide),if_neg (ne_of_beq_false hb14),if_neg (ne_of_beq_false hb17),if_pos (eq_of_beq hb20)],by omega,by decide⟩,M⟩
    ·have hb20':=ne_of_beq_false hb20;refine sdc A qg hb20 λa A=>?_;refine sda A λa A=>?_;refine qa (hK19 _ _ (cf A ?_));refine wsk fun K22 hK22=>wrl ?_;rcases tf (((((dcX (L.drop p)).1:Nat):Int)==110))with hb23 | hb23
     ·have hb23':=eq_of_beq hb23;refine sdc A qg hb23 λa A=>?_;refine sda A λa A=>?_;refine qa (hK22 _ _ (ct A ?_));refine wsk fun K24 hK24=>wrl (sda A λa A=>?_);refine qa (hK24 _ _ (wr1 hret A ?_));exact .inr ⟨10,_,rfl,⟨by unfold esX; rw[if_neg (by rw[hb3]; decide),if_neg (ne_of_beq_false hb14),if_neg (ne_of_beq_false hb17),if_neg (ne_of_beq_false hb20),if_pos (eq_of_beq hb23)],by omega,by decide⟩,M⟩
     ·have hb23':=ne_of_beq_false hb23;refine sdc A qg hb23 λa A=>?_;refine sda A λa A=>?_;refine qa (hK22 _ _ (cf A ?_));refine wsk fun K25 hK25=>wrl ?_;rcases tf (((((dcX (L.drop p)).1:Nat):Int)==118))with hb26 | hb26
      ·have hb26':=eq_of_beq hb26;refine sdc A qg hb26 λa A=>?_;refine sda A λa A=>?_;refine qa (hK25 _ _ (ct A ?_));refine wsk fun K27 hK27=>wrl (sda A λa A=>?_);refine qa (hK27 _ _ (wr1 hret A ?_));exact .inr ⟨11,_,rfl,⟨by unfold esX; rw[if_neg (by rw[hb3]; decide),if_neg (ne_of_beq_false hb14),if_neg (ne_of_beq_false hb17),if_neg (ne_of_beq_false hb20),if_neg (ne_of_beq_false hb23),if_pos (eq_of_beq hb26)],by omega,by decide⟩,M⟩
      ·have hb26':=ne_of_beq_false hb26;refine sdc A qg hb26 λa A=>?_;refine sda A λa A=>?_;refine qa (hK25 _ _ (cf A ?_));refine wsk fun K28 hK28=>wrl ?_;rcases tf (((((dcX (L.drop p)).1:Nat):Int)==102))with hb29 | hb29
       ·have hb29':=eq_of_beq hb29;refine sdc A qg hb29 λa A=>?_;refine sda A λa A=>?_;refine qa (hK28 _ _ (ct A ?_));refine wsk fun K30 hK30=>wrl (sda A λa A=>?_);refine qa (hK30 _ _ (wr1 hret A ?_));exact .inr ⟨12,_,rfl,⟨by unfold esX; rw[if_neg (by rw[hb3]; decide),if_neg (ne_of_beq_false hb14),if_neg (ne_of_beq_false hb17),if_neg (ne_of_beq_false hb20),if_neg (ne_of_beq_false hb23),if_neg (ne_of_beq_false hb26),if_pos (eq_of_beq hb29)],by omega,by decide⟩,M⟩
       ·have hb29':=ne_of_beq_false hb29;refine sdc A qg hb29 λa A=>?_;refine sda A λa A=>?_;refine qa (hK28 _ _ (cf A ?_));refine wsk fun K31 hK31=>wrl ?_;rcases tf (((((dcX (L.drop p)).1:Nat):Int)==114))with hb32 | hb32
        ·have hb32':=eq_of_beq hb32;refine sdc A qg hb32 λa A=>?_;refine sda A λa A=>?_;refine qa (hK31 _ _ (ct A ?_));refine wsk fun K33 hK33=>wrl (sda A λa A=>?_);refine qa (hK33 _ _ (wr1 hret A ?_));exact .inr ⟨13,_,rfl,⟨by unfold esX; rw[if_neg (by rw[hb3]; decide),if_neg (ne_of_beq_false hb14),if_neg (ne_of_beq_false hb17),if_neg (ne_of_beq_false hb20),if_neg (ne_of_beq_false hb23),if_neg (ne_of_beq_false hb26),if_neg (ne_of_beq_false hb29),if_pos (eq_of_beq hb32)],by omega,by decide⟩,M⟩
        ·have hb32':=ne_of_beq_false hb32;refine sdc A qg hb32 λa A=>?_;refine sda A λa A=>?_;refine qa (hK31 _ _ (cf A ?_));refine wsk fun K34 hK34=>wrl ?_;rcases tf (((((dcX (L.drop p)).1:Nat):Int)==120))with hb35 | hb35
         ·have hb35':=eq_of_beq hb35;refine sdc A qg hb35 λa A=>?_;refine sda A λa A=>?_;refine qa (hK34 _ _ (ct A ?_));refine wsk fun K36 hK36=>wrl (sdm A λa A=>?_);refine qz A rfl rfl rfl (ef rfl rfl) (qud (p:=p+(dcX (L.drop p)).2) (L:=L) (T:=(T)) hN (by omega) (by omega) M) ?_;rintro _ w38 (⟨rfl,hp39⟩ | ⟨c,n,rfl,⟨hc,hcl,hcc⟩,hM37⟩)
          ·exact .inl ⟨_,rfl,hX _ _ _ _ _ A (.inl ⟨rfl,by unfold esX; rw[if_neg (by rw[hb3]; decide),if_neg (ne_of_beq_false hb14),if_neg (ne_of_beq_false hb17),if_neg (ne_of_beq_false hb20),if_neg (ne_of_beq_false hb23),if_neg (ne_of_beq_false hb26),if_neg (ne_of_beq_false hb29),if_neg (ne_of_beq_false hb32),if_pos (eq_of_beq hb35)]; rw[List.drop_drop,hp39.1]; rfl,hp39.2⟩)⟩
          replace M:Mg w0 w38 (.obj g (rC L (p+(dcX (L.drop p)).2+n) lg)::T):=hM37;refine .inr ⟨_,rfl,?_⟩;intro a A;refine sda A λa A=>?_;refine qa (hK36 _ _ (wr1 hret A ?_));exact .inr ⟨c,_,rfl,⟨by unfold esX; rw[if_neg (by rw[hb3]; decide),if_neg (ne_of_beq_false hb14),if_neg (ne_of_beq_false hb17),if_neg (ne_of_beq_false hb20),if_neg (ne_of_beq_false hb23),if_neg (ne_of_beq_false hb26),if_neg (ne_of_beq_false hb29),if_neg (ne_of_beq_false hb32),if_pos (eq_of_beq hb35)]; rw[List.drop_drop,hc]; rfl,by omega,hcc⟩,by rw[←Nat.add_assoc]; exact M⟩
         ·have hb35':=ne_of_beq_false hb35;refine sdc A qg hb35 λa A=>?_;refine sda A λa A=>?_;refine qa (hK34 _ _ (cf A ?_));refine wp_skip (hK11 _ _ (wsk fun K40 hK40=>wrl (sdm A λa A=>?_)));rcases tf (((((dcX (L.drop p)).1:Nat):Int)==34))with hb41 | hb41
          ·have hb41':=eq_of_beq hb41;refine sdc A qg hb41 λa A=>?_;refine sdm A λa A=>?_;iterate 2 refine qf A rfl rfl rfl λa A=>?_
           refine sdk (v:=bV true) A λa A=>?_;refine gcl A M (ef rfl rfl) (yh) fun w43 hb42 M a A=>?_;refine qa (hK40 _ _ (wsk fun K44 hK44=>wrl (sdm A λa A=>?_)));refine sda A λa A=>?_;refine qa (hK44 _ _ (wr1 hret A ?_));exact .inr ⟨_,_,rfl,⟨by unfold esX; rw[if_neg (by rw[hb3]; decide),if_neg (ne_of_beq_false hb14),if_neg (ne_of_beq_false hb17),if_neg (ne_of_beq_false hb20),if_neg (ne_of_beq_false hb23),if_neg (ne_of_beq_false hb26),if_neg (ne_of_beq_false hb29),if_neg (ne_of_beq_false hb32),if_neg (ne_of_beq_false hb35),if_pos (eq_of_beq hb41)],by omega,by rw[eq_of_beq hb41]; decide⟩,M⟩
          ·have hb41':=ne_of_beq_false hb41;refine sdc A qg hb41 λa A=>?_;iterate 2 refine sdm A λa A=>?_
           rcases tf (((((dcX (L.drop p)).1:Nat):Int)==92))with hb45 | hb45
           ·have hb45':=eq_of_beq hb45;refine sdc A qg hb45 λa A=>?_;refine sdk (v:=bV true) A λa A=>?_;refine gcl A M (ef rfl rfl) (yh) fun w47 hb46 M a A=>?_;refine qa (hK40 _ _ (wsk fun K48 hK48=>wrl (sdm A λa A=>?_)));refine sda A λa A=>?_;refine qa (hK48 _ _ (wr1 hret A ?_));exact .inr ⟨_,_,rfl,⟨by unfold esX; rw[if_neg (by rw[hb3]; decide),if_neg (ne_of_beq_false hb14),if_neg (ne_of_beq_false hb17),if_neg (ne_of_beq_false hb20),if_neg (ne_of_beq_false hb23),if_neg (ne_of_beq_false hb26),if_neg (ne_of_beq_false hb29),if_neg (ne_of_beq_false hb32),if_neg (ne_of_beq_false hb35),if_neg (ne_of_beq_false hb41),if_pos (eq_of_beq hb45)],by omega,by rw[eq_of_beq hb45]; decide⟩,M⟩
           ·have hb45':=ne_of_beq_false hb45;refine sdc A qg hb45 λa A=>?_;refine sdk (v:=bV false) A λa A=>?_;refine qz A rfl rfl rfl (ef rfl rfl) (vz) ?_;rintro _ w50 ⟨rfl,hp51⟩;exact .inl ⟨_,rfl,hX _ _ _ _ _ A (.inl ⟨rfl,by unfold esX; rw[if_neg (by rw[hb3]; decide),if_neg (ne_of_beq_false hb14),if_neg (ne_of_beq_false hb17),if_neg (ne_of_beq_false hb20),if_neg (ne_of_beq_false hb23),if_neg (ne_of_beq_false hb26),if_neg (ne_of_beq_false hb29),if_neg (ne_of_beq_false hb32),if_neg (ne_of_beq_false hb35),if_neg (ne_of_beq_false hb41),if_neg (ne_of_beq_false hb45)],_,by omega,M.call hp51⟩)⟩
end Go.Proofs.YtgjohjfehgdgbaaGreatDoor.G
namespace Go.Proofs
open Go.Shelf
def Tryz.lays103_ren: Go.Shelf.Ren:=⟨fun | 103=>62 | 210=>87 | 206=>75 | n=>n,fun | 9=>9 | 4=>4 | 24=>89 | 3=>3 | n=>n,fun | n=>n⟩
theorem Tryz.lays103: Go.Proofs.Lays.n103 Tryz.prog Tryz.lays103_ren:={
  mixed:=by kernel_rfl
  f103:=Tryz.func62.trans (congrArg some (by kernel_rfl))
  f206:=Tryz.func75.trans (congrArg some (by kernel_rfl))
  f210:=Tryz.func87.trans (congrArg some (by kernel_rfl))
  t3:=Tryz.underlying3
  a3:=Tryz.isAgg3
  z3:=Tryz.sizeOf3
  v3:=Tryz.zeroValue3
  t4:=Tryz.underlying4
  a4:=Tryz.isAgg4
  z4:=Tryz.sizeOf4
  v4:=Tryz.zeroValue4
  t9:=Tryz.underlying9
  a9:=Tryz.isAgg9
  z9:=Tryz.sizeOf9
  v9:=Tryz.zeroValue9
  t24:=Tryz.underlying89
  a24:=Tryz.isAgg89
  z24:=Tryz.sizeOf89
  v24:=Tryz.zeroValue89 }
open Go.RowKit in
theorem Tryz.strings_CutPrefix(s p:ByteArray)(w:World):
    Calls Tryz.prog 62 #[.string s,.string p] w fun e w'=>e=.returned (.tuple #[.string ⟨(Lib.trimPrefix s.data.toList p.data.toList).toArray⟩,.bool (Lib.hasPrefix s.data.toList p.data.toList)])∧w'=w:=Any.strings_CutPrefix Tryz.lays103 s p w
def Tryz.lays195_ren: Go.Shelf.Ren:=⟨fun | 195=>88 | n=>n,fun | 9=>9 | 3=>3 | 0=>0 | 4=>4 | n=>n,fun | n=>n⟩
theorem Tryz.lays195: Go.Proofs.Lays.n195 Tryz.prog Tryz.lays195_ren:={
  mixed:=by kernel_rfl
  f195:=Tryz.func88.trans (congrArg some (by kernel_rfl))
  t0:=Tryz.underlying0
  a0:=Tryz.isAgg0
  z0:=Tryz.sizeOf0
  v0:=Tryz.zeroValue0
  t3:=Tryz.underlying3
  a3:=Tryz.isAgg3
  z3:=Tryz.sizeOf3
  v3:=Tryz.zeroValue3
  t4:=Tryz.underlying4
  a4:=Tryz.isAgg4
  z4:=Tryz.sizeOf4
  v4:=Tryz.zeroValue4
  t9:=Tryz.underlying9
  a9:=Tryz.isAgg9
  z9:=Tryz.sizeOf9
  v9:=Tryz.zeroValue9 }
open Go.RowKit in
theorem Tryz.utf8_RuneCountInString(s:ByteArray)(w:World)(hs:s.size<9223372036854775807):
    Calls Tryz.prog 88 #[.string s] w fun e w'=>e=.returned (.int .i64 (Lib.runeCount s))∧∃pos,w'=w.iter s pos:=Any.utf8_RuneCountInString Tryz.lays195 s w hs
end Go.Proofs
namespace Go.Proofs.YtgjohjfehgdgbaaGreatDoor.G
open Go.RowKit
set_option maxRecDepth 100000

def chI(l:List UInt8):Option Int:=if((((Lib.runeCount (tx l):Nat):Int))==1)=true then some (((dcX l).1:Nat):Int)else if(yz l).isSome=true then some ((yz l).getD 0)else if Lib.hasPrefix l [120]=true then(qfi (l.drop 1)).map (fun n=>((n:Nat):Int))else none
theorem jee(l:List UInt8):xl ((yz l).getD 0)=true:=by
 unfold yz;by_cases h0:l=[110,117,108]
 ·rw[if_pos h0]; decide
 rw[if_neg h0];by_cases h1:l=[97,108,97,114,109]
 ·rw[if_pos h1]; decide
 rw[if_neg h1];by_cases h2:l=[98,97,99,107,115,112,97,99,101]
 ·rw[if_pos h2]; decide
 rw[if_neg h2];by_cases h3:l=[116,97,98]
 ·rw[if_pos h3]; decide
 rw[if_neg h3];by_cases h4:l=[108,105,110,101,102,101,101,100]
 ·rw[if_pos h4]; decide
 rw[if_neg h4];by_cases h5:l=[110,101,119,108,105,110,101]
 ·rw[if_pos h5]; decide
 rw[if_neg h5];by_cases h6:l=[118,116,97,98]
 ·rw[if_pos h6]; decide
 rw[if_neg h6];by_cases h7:l=[112,97,103,101]
 ·rw[if_pos h7]; decide
 rw[if_neg h7];by_cases h8:l=[114,101,116,117,114,110]
 ·rw[if_pos h8]; decide
 rw[if_neg h8];by_cases h9:l=[101,115,99]
 ·rw[if_pos h9]; decide
 rw[if_neg h9];by_cases h10:l=[115,112,97,99,101]
 ·rw[if_pos h10]; decide
 rw[if_neg h10];by_cases h11:l=[100,101,108,101,116,101]
 ·rw[if_pos h11]; decide
 rw[if_neg h11];decide
theorem qyf(l:List UInt8):xl (((dcX l).1:Nat):Int)=true:=by
 have:=qgg l;unfold C.OkR at this;unfold xl;apply decide_eq_true;omega
theorem jwe{w:World}{l:List UInt8}(hl:l.length≤1000000000):Calls Tryz.prog 88 #[.string (tx l)] w fun e w'=>e=.returned (iV ((Lib.runeCount (tx l):Nat):Int))∧Below w.heap.size w w':=
 (Tryz.utf8_RuneCountInString (tx l) w (by rw[jx]; omega)).mono fun e w' ⟨h,q,hq⟩=>⟨h,by rw[hq]; exact(Below.refl _ w).alloc (Nat.le_refl _) _⟩
theorem zgj{w:World}{l:List UInt8}{b:Bool}(h:(yz l).isSome=b):Calls Tryz.prog 89 #[.string (tx l)] w fun e w'=>e=.returned (.tuple #[.int .i32 ((yz l).getD 0),bV b])∧Below w.heap.size w w':=h▸zxg
theorem jef{w:World}{l t:List UInt8}(h:Lib.hasPrefix l t=true):Calls Tryz.prog 62 #[.string (tx l),.string (tx t)] w fun e w'=>e=.returned (.tuple #[.string (tx (l.drop t.length)),bV true])∧Below w.heap.size w w':=
 (Tryz.strings_CutPrefix (tx l) (tx t) w).mono fun e w' ⟨h1,h2⟩=>⟨by rw[h1,xv,xv,h,show Lib.trimPrefix l t=l.drop t.length from if_pos h]; rfl,h2▸Below.refl _ _⟩
theorem jeg{w:World}{l t:List UInt8}(h:Lib.hasPrefix l t=false):Calls Tryz.prog 62 #[.string (tx l),.string (tx t)] w fun e w'=>e=.returned (.tuple #[.string (tx l),bV false])∧Below w.heap.size w w':=
 (Tryz.strings_CutPrefix (tx l) (tx t) w).mono fun e w' ⟨h1,h2⟩=>⟨by rw[h1,xv,xv,h,show Lib.trimPrefix l t=l from if_neg (by rw[h]; decide)]; rfl,h2▸Below.refl _ _⟩
theorem jeh{w:World}{l:List UInt8}(hN:Env w)(hl:l.length≤1000000000):Calls Tryz.prog 63 #[.string (tx l)] w fun e w'=>(e=.panicked flt∧chI l=none∧Below w.heap.size w w')∨∃c:Int,e=.returned (.int .i32 c)∧(chI l=some c∧xl c=true)∧Below w.heap.size w w':=by
 have hT:=hN.tb;have M:Mg w w ([]):=Mg.start w;refine jw (l:=[(0,.string ((tx l)))]) Tryz.func63 rfl Tryz.ntmps63 rfl rfl ?_;intro Q hret hnorm hP hX a A;refine wsk fun K1 hK1=>wrl (sda A λa A=>?_);refine qa (hK1 _ _ (wsk fun K2 hK2=>wsk fun K3 hK3=>wrl (sdm A λa A=>?_)));refine gcl A M (ef rfl rfl) (jwe (l:=l) (by omega)) fun w5 hb4 M a A=>?_;rcases tf ((((Lib.runeCount (tx l):Nat):Int)==1))with hb6 | hb6
 ·have hb6':=eq_of_beq hb6;refine sdc A qg hb6 λa A=>?_;refine qa (hK3 _ _ (ct A ?_));refine wsk fun K7 hK7=>wrl (sdm A λa A=>?_);refine gcl A M (ef rfl rfl) (qof (l:=l) (hT.below M.bel)) fun w9 hb8 M a A=>?_;refine sdm A λa A=>?_;iterate 2 refine sdo A (qi (vs:=[.int .i32 ((((dcX l).1:Nat):Int)),iV ((((dcX l).2:Nat):Int))]) rfl rfl) λa A=>?_
  iterate 2 refine sda A λa A=>?_
  refine qa (hK7 _ _ (wsk fun K10 hK10=>wrl (sdm A λa A=>?_)));refine sda A λa A=>?_;refine qa (hK10 _ _ (wr1 hret A ?_));exact .inr ⟨_,rfl,⟨by unfold chI; rw[if_pos hb6],qyf l⟩,M.bel⟩
 ·have hb6':=ne_of_beq_false hb6;refine sdc A qg hb6 λa A=>?_;refine qa (hK3 _ _ (cf A ?_));refine wp_skip (hK2 _ _ (wsk fun K11 hK11=>wsk fun K12 hK12=>wrl (sdm A λa A=>?_)));rcases tf ((yz l).isSome)with hb14 | hb14
  ·refine gcl A M (ef rfl rfl) (zgj hb14) fun w16 hb15 M a A=>?_;refine sdm A λa A=>?_;iterate 2 refine sdo A (qi (vs:=[.int .i32 (((yz l).getD 0)),bV true]) rfl rfl) λa A=>?_
   iterate 2 refine sda A λa A=>?_
   refine qa (hK12 _ _ (wsk fun K17 hK17=>wrl (sdm A λa A=>?_)));refine qa (hK17 _ _ (ct A ?_));refine wsk fun K18 hK18=>wrl (sdm A λa A=>?_);refine sda A λa A=>?_;refine qa (hK18 _ _ (wr1 hret A ?_));exact .inr ⟨_,rfl,⟨by unfold chI; rw[if_neg (by rw[hb6]; decide),if_pos hb14],jee l⟩,M.bel⟩
  ·refine gcl A M (ef rfl rfl) (zgj hb14) fun w20 hb19 M a A=>?_;refine sdm A λa A=>?_;iterate 2 refine sdo A (qi (vs:=[.int .i32 (((yz l).getD 0)),bV false]) rfl rfl) λa A=>?_
   iterate 2 refine sda A λa A=>?_
   refine qa (hK12 _ _ (wsk fun K21 hK21=>wrl (sdm A λa A=>?_)));refine qa (hK21 _ _ (cf A ?_));refine wp_skip (hK11 _ _ (wsk fun K22 hK22=>wrl (sdm A λa A=>?_)));rcases tf (Lib.hasPrefix l [120])with hb24 | hb24
   ·refine gcl A M (ef rfl rfl) (jef (l:=l) (t:=[120]) hb24) fun w26 hb25 M a A=>?_;refine sdm A λa A=>?_;iterate 2 refine sdo A (qi (vs:=[.string ((tx (l.drop 1))),bV true]) rfl rfl) λa A=>?_
    iterate 2 refine sda A λa A=>?_
    refine qa (hK22 _ _ (wsk fun K27 hK27=>wrl (sdm A λa A=>?_)));refine gcl A M (ef rfl rfl) (yh) fun w29 hb28 M a A=>?_;refine qa (hK27 _ _ (wsk fun K30 hK30=>wrl (sdm A λa A=>?_)));refine qz A rfl rfl rfl (ef rfl rfl) (zub (l:=l.drop 1) (hN.below M.bel).er (by rw[List.length_drop]; omega)) ?_;rintro _ w32 (⟨rfl,hp33⟩ | ⟨c,rfl,⟨hc,hcc⟩,hb31⟩)
    ·exact .inl ⟨_,rfl,hX _ _ _ _ _ A (.inl ⟨rfl,by unfold chI; rw[if_neg (by rw[hb6]; decide),if_neg (by rw[hb14]; decide),if_pos hb24]; rw[hp33.1]; rfl,M.bel.trans (hp33.2.mono M.bel.size)⟩)⟩
    replace M:=M.call hb31;refine .inr ⟨_,rfl,?_⟩;intro a A;refine sda A λa A=>?_;refine qa (hK30 _ _ (wr1 hret A ?_));exact .inr ⟨_,rfl,⟨by unfold chI; rw[if_neg (by rw[hb6]; decide),if_neg (by rw[hb14]; decide),if_pos hb24]; rw[hc]; rfl,hcc⟩,M.bel⟩
   ·refine gcl A M (ef rfl rfl) (jeg (l:=l) (t:=[120]) hb24) fun w35 hb34 M a A=>?_;refine sdm A λa A=>?_;iterate 2 refine sdo A (qi (vs:=[.string ((tx l)),bV false]) rfl rfl) λa A=>?_
    iterate 2 refine sda A λa A=>?_
    refine qa (hK22 _ _ (wsk fun K36 hK36=>wrl (sdm A λa A=>?_)));refine qz A rfl rfl rfl (ef rfl rfl) (vz) ?_;rintro _ w38 ⟨rfl,hp39⟩;exact .inl ⟨_,rfl,hX _ _ _ _ _ A (.inl ⟨rfl,by unfold chI; rw[if_neg (by rw[hb6]; decide),if_neg (by rw[hb14]; decide),if_neg (by rw[hb24]; decide)],M.bel.trans (hp39.mono M.bel.size)⟩)⟩
end Go.Proofs.YtgjohjfehgdgbaaGreatDoor.G
namespace Go.Proofs
open Go.Shelf
def Tryz.lays240_ren: Go.Shelf.Ren:=⟨fun | 240=>83 | 276=>113 | n=>n,fun | 70=>81 | 0=>0 | 72=>83 | 4=>4 | 164=>137 | 37=>27 | 5=>5 | 9=>9 | 20=>20 | n=>n,fun | n=>n⟩
theorem Tryz.lays240: Go.Proofs.Lays.n240 Tryz.prog Tryz.lays240_ren:={
  mixed:=by kernel_rfl
  f240:=Tryz.func83.trans (congrArg some (by kernel_rfl))
  f276:=Tryz.func113.trans (congrArg some (by kernel_rfl))
  t0:=Tryz.underlying0
  a0:=Tryz.isAgg0
  z0:=Tryz.sizeOf0
  v0:=Tryz.zeroValue0
  t4:=Tryz.underlying4
  a4:=Tryz.isAgg4
  z4:=Tryz.sizeOf4
  v4:=Tryz.zeroValue4
  t9:=Tryz.underlying9
  a9:=Tryz.isAgg9
  z9:=Tryz.sizeOf9
  v9:=Tryz.zeroValue9
  t20:=Tryz.underlying20
  a20:=Tryz.isAgg20
  z20:=Tryz.sizeOf20
  v20:=Tryz.zeroValue20
  t70:=Tryz.underlying81
  a70:=Tryz.isAgg81
  z70:=Tryz.sizeOf81
  v70:=Tryz.zeroValue81
  t72:=Tryz.underlying83
  a72:=Tryz.isAgg83
  z72:=Tryz.sizeOf83
  v72:=Tryz.zeroValue83
  t164:=Tryz.underlying137
  a164:=Tryz.isAgg137
  z164:=Tryz.sizeOf137
  v164:=Tryz.zeroValue137 }
theorem Tryz.Builder_X72_240: Builder.X72 Tryz.prog Tryz.lays240_ren:={
  sizeBuilder:=by kernel_rfl
  liesBuilder:=by kernel_rfl }
end Go.Proofs
namespace Go.Proofs.YtgjohjfehgdgbaaGreatDoor.G
open Go.RowKit Go.Shelf

theorem joh{w:World}{gw:Nat}(h0:w.cell? ⟨gw,0,none⟩=some (.pointer (some ⟨gw,0,none⟩))):Calls Tryz.prog 83 #[.pointer (some ⟨gw,0,none⟩)] w fun e w'=>e=.returned (.tuple #[])∧w'=w:=
  Any.Builder_copyCheck_used Tryz.lays240 Tryz.Builder_X72_240 gw w h0
theorem zha{B:Nat}{w0 w:World}(h:Below B w0 w){g:Nat}(hg:B≤g)(n:Nat):Below B w0 (w.freeze ⟨g,0,none⟩ n):=Lib.below_freeze h (p:=⟨g,0,none⟩) hg n
theorem zhb{P:Program}(w:World)(base:Nat)(t u ty e:TypeId)(i:TypeInfo)(ht:P.underlying t=some (.slice e))(hu:P.underlying u=some .string)(hi:P.info? e=some i)(hz:i.zero=some (.int .u8 0))(hsize:i.size=1)(hby:i.bytes=1)
    (v:Value) (n:Nat) (xs:List Value) (hown:w.ownsRow base e 1 v n xs) (s:ByteArray) (h63:n+s.size≤140737488355328) (hbase:base≤w.heap.size) :
    ∃v' w',(Builtin.append_ #[t,u] ty #[v,.string s]).run P w=.ok v' w'∧w'.ownsRow base e 1 v' (n+s.size) (xs++Lib.strCells s)∧w.grownBy w' v.ownBlock∧(v'.ownBlock=v.ownBlock∨v'.ownBlock=some w.heap.size):=by
  obtain⟨v',w',hr,h2,h3,h4⟩:=Lib.run_append_own_string (P:=P) w base t u ty e i ht hu hi hz hsize hby v n xs hown s (by unfold maxLen; omega) h63 hbase;refine⟨v',w',hr,h2,h3,?_⟩;rcases hown.2 with⟨rfl,rfl⟩ | ⟨g,cap,cur,rfl,hbg,hg,hnc,hcm,hcs,htake⟩
  · by_cases hm:s.size=0
    · left; rw[h4.2 ⟨rfl,hm⟩]
    · right;have hr2:=run_append_nil_string (P:=P) w t u ty e i (.int .u8 0) ht hu hi hz s (by omega) (by omega) (by rw[hby]; omega);rw[hr]at hr2;injection hr2 with e1 _;rw[e1]; rfl
  · by_cases hroom:n+s.size≤cap
    · left;have hr2:=Lib.run_append_room_string (P:=P) w t u ty e i ht hu hi hsize g n cap cur hg s hroom (by simp at hcs; omega);rw[hr]at hr2;injection hr2 with e1 _;rw[e1]; rfl
    · right;have hxl:xs.length=n:=(by simpa using hown.1);have hr2:=Lib.run_append_grow_string (P:=P) w t u ty e i (.int .u8 0) ht hu hi hz ⟨g,0,none⟩ n cap xs (by rw[hsize]; simpa using hxl) (hown.cells (g:=g) rfl) s (by omega) (by omega) (by rw[hby]; exact growslice_fits (by omega) (by omega));rw[hr]at hr2;injection hr2 with e1 _;rw[e1]; rfl
section
variable {P:Program} {w0 w:World} {L:List Ck} {l:List (Nat×Value)} {dst:Option Tmp} {ty:TypeId} {pos:String} {after:Array Edge} {guard:Option (Nat×Bool)} {v:Value}
theorem joi{w:World}{B:Nat}{e:TypeId}{v v':Value}{n n':Nat}{xs xs':List Value}{d:Ck}(hd:d.holds B w)(hat:v'.ownBlock=v.ownBlock∨v'.ownBlock=some w.heap.size)(ha:Ap (.row e 1 v n xs) d):Ap (.row e 1 v' n' xs') d:=by
  have hl:=Ck.lt hd;have key:∀z,d.at_=some z→v.ownBlock≠some z→v'.ownBlock≠some z:=fun z hz hne e=>by
    rcases hat with h | h
    · exact hne (h▸e)
    · rw[h]at e;have:=(hl z hz).2;have e2:w.heap.size=z:=Option.some.inj e;omega
  cases d with
  | obj g' o' => exact key g' rfl ha
  | row e' sz' v2 n2 xs2 =>
    by_cases hz:v2.ownBlock=none
    · by_cases hv:v'.ownBlock=none
      · exact .inl hv
      · exact .inr (fun e=>hv (e.trans hz))
    · obtain⟨z,hz⟩:=Option.ne_none_iff_exists'.1 hz;right;rw[hz];refine key z hz ?_;rcases ha with ha | ha
      · rw[ha]; simp
      · exact fun e=>ha (e.trans hz.symm)
  | bld b' bs' => exact ⟨ha.1, key b' rfl ha.2⟩
theorem zhc{t u:TypeId}{x y:Operand}(ht:P.underlying t=some (.slice BY))(hu:P.underlying u=some .string)(hinfo:(P.info? BY).map (fun i=>(i.zero,i.size,i.bytes))=some (some (.int .u8 0),1,1))(hM:Mg w0 w L)(k:Nat){q:Nat}{xs:List Value}(hk:L[k]?=some (.row BY 1 v q xs))(hx:ev l x=some v){s:ByteArray}(hy:ev l y=some (.string s))(hlen:q+s.size≤140737488355328):
    ∃v' w',Does P l ⟨dst,.call ⟨.builtin .append,#[x,y],#[t,u]⟩,ty,pos,after,guard⟩ w v' w'∧Mg w0 w' (L.set k (.row BY 1 v' (q+s.size) (xs++Lib.strCells s))):=by
  obtain⟨i,hi,hzz⟩:=Option.map_eq_some_iff.1 hinfo;simp only[Prod.mk.injEq]at hzz;obtain⟨hz,hs,hb⟩:=hzz;obtain⟨v',w',hr,hown,hgr,hat⟩:=zhb (P:=P) w w0.heap.size t u ty BY i ht hu hi hz hs hb v q xs (hM.has k hk) s hlen hM.bel.size;refine⟨v',w',fun ρ h=>?_,hM.turn k hk (by simp) hgr hown (fun d hd ha=>joi (hM.all d hd) hat ha)⟩;simp[execOp,resolve,invoke,builtin,h x _ hx,h y _ hy,hr]
end
def QT(T:List Ck):Prop:=∀d∈T,∃g o,d=.obj g o∧qff o
theorem QT.nil: QT []:=fun d h=>by cases h
theorem QT.cons{g:Nat}{cs:Array Value}{t:TypeId}{T:List Ck}(h:t≠BY)(hT:QT T):QT (.obj g (.cells cs t)::T):=fun d hd=>by
  rcases List.mem_cons.1 hd with rfl | hd
  · exact⟨_,_,rfl,xp h⟩
  · exact hT d hd
end Go.Proofs.YtgjohjfehgdgbaaGreatDoor.G
