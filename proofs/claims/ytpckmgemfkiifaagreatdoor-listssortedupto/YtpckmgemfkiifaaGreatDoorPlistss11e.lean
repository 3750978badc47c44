/- Mw -/
import Derived.Test.YtpckmgemfkiifaaGreatDoorPlistss11d
import Derived.Lib.AppendZerosOnto
import Derived.Lib.Bytealg
import Derived.Laws.OwnMore
import Derived.Laws.Strings
set_option linter.unusedVariables false
set_option linter.unusedSimpArgs false
set_option maxHeartbeats 1000000
namespace Go.Proofs.YtpckmgemfkiifaaGreatDoor.G
open Go.RowKit Go.Lib
section
variable {w0 w:World} {L:List Ck} {e:TypeId} {sz g n cap:Nat} {xs:List Value}
theorem Mg.rowPut(h:Mg w0 w L)(k:Nat)(hk:L[k]?=some (.row e sz (.slice (some ⟨g,0,none⟩) n cap) n xs))(j:Nat)(u:Value):Mg w0 (w.setCell ⟨g,j,none⟩ u) (L.set k (.row e sz (.slice (some ⟨g,0,none⟩) n cap) n (xs.set j u))):=by
  have hs:=World.ownsRow.stored (show w.ownsRow w0.heap.size e sz (.slice (some ⟨g,0,none⟩) n cap) n xs from h.has k hk) j u;exact h.turn k hk (by simp) hs.2 hs.1 (fun d _ ha=>by cases d<;>exact ha)
theorem Mg.rowPuts: ∀(cs:List Value) (w:World) (L:List Ck) (xs:List Value) (o:Nat),Mg w0 w L→∀k,L[k]?=some (.row e sz (.slice (some ⟨g,0,none⟩) n cap) n xs)→Mg w0 (w.setCells g o cs) (L.set k (.row e sz (.slice (some ⟨g,0,none⟩) n cap) n (over xs o cs)))
  | [], w, L, xs, o, h, k, hk => by
    rw[show L.set k (.row e sz (.slice (some ⟨g,0,none⟩) n cap) n (over xs o []))=L from zhf hk];exact h
  | c :: cs, w, L, xs, o, h, k, hk => by
    have h1:=h.rowPut k hk o c;have hk1:(L.set k (.row e sz (.slice (some ⟨g,0,none⟩) n cap) n (xs.set o c)))[k]?=some (.row e sz (.slice (some ⟨g,0,none⟩) n cap) n (xs.set o c)):=List.getElem?_set_self (List.getElem?_eq_some_iff.1 hk).1;have h2:=Mg.rowPuts cs _ _ (xs.set o c) (o+1) h1 k hk1;rw[List.set_set]at h2;exact h2
theorem zth: ∀(cs:List Value) (xs:List Value) (o i:Nat),o+cs.length≤xs.length→(over xs o cs)[i]?=if o≤i∧i<o+cs.length then cs[i-o]? else xs[i]?
  | [], xs, o, i, _ => by
    show xs[i]?=_;rw[if_neg (by simp only[List.length_nil]; omega)]
  | c :: cs, xs, o, i, h => by
    rw[List.length_cons]at h;show(over (xs.set o c) (o+1) cs)[i]?=_;rw[zth cs (xs.set o c) (o+1) i (by rw[List.length_set]; omega)];by_cases h1:o+1≤i∧i<o+1+cs.length
    · rw[if_pos h1,if_pos (by rw[List.length_cons]; omega),show i-o=(i-(o+1))+1 from by omega,List.getElem?_cons_succ]
    · rw[if_neg h1];by_cases h2:o=i
      · subst h2;rw[List.getElem?_set_self (by omega),if_pos (by rw[List.length_cons]; omega),Nat.sub_self,List.getElem?_cons_zero]
      · rw[List.getElem?_set_ne h2,if_neg (by rw[List.length_cons]; omega)]
theorem jjg{xs cs:List Value}{o:Nat}(h:o+cs.length≤xs.length):over xs o cs=xs.take o++cs++xs.drop (o+cs.length):=by
  apply List.ext_getElem?;intro i;rw[zth cs xs o i h];by_cases h1:i<o
  · rw[if_neg (by omega),List.append_assoc,List.getElem?_append_left (by rw[List.length_take]; omega),List.getElem?_take_of_lt h1]
  · rw[List.append_assoc,List.getElem?_append_right (by rw[List.length_take]; omega),List.length_take,Nat.min_eq_left (by omega)];by_cases h2:i<o+cs.length
    · rw[if_pos ⟨by omega,h2⟩,List.getElem?_append_left (by omega)]
    · rw[if_neg (by omega),List.getElem?_append_right (by omega),List.getElem?_drop]
      congr 1
      omega
end
section
variable {P:Program} {w0 w:World} {L:List Ck} {l:List (Nat×Value)} {dst:Option Tmp} {ty:TypeId} {pos:String} {after:Array Edge} {guard:Option (Nat×Bool)} {v:Value}
theorem jy{t:TypeId}{x y:Operand}{g o:Nat}{u:Value}{cs:List Value}(hx:ev l x=some (.pointer (some ⟨g,o,none⟩)))(hy:ev l y=some u)(hc:u.cells=cs.toArray)(hn:(P.info? t).map (·.size)=some cs.length)
    (hM:Mg w0 w L) (k:Nat) {e:TypeId} {sz n cap:Nat} {xs:List Value} (hk:L[k]?=some (.row e sz (.slice (some ⟨g,0,none⟩) n cap) n xs)) (hl:o+cs.length≤n*sz) (h1:cs.all Value.oneCell'=true):Sets P l ⟨dst,.store t x y,ty,pos,after,guard⟩ w (w.setCells g o cs):=fun ρ h=>by
  obtain⟨i,hi,hsz⟩:=vu hn;have hr:w.ownsRow w0.heap.size e sz (.slice (some ⟨g,0,none⟩) n cap) n xs:=hM.has k hk;have hxl:xs.length=n*sz:=hr.1;have h2:(sizeOf t).run P w=.ok cs.length w:=by simp[sizeOf,typeInfo,hi,hsz]
  have h3:=run_storeCells_cells (P:=P) g o cs 0 w (fun j hj=>by
      rw[World.ownsRow.cellAt hr (o+0+j) (by omega),List.getElem?_eq_getElem (by omega)]; rfl) (fun j hj=>World.ownsRow.frozenAt hr _) (fun v hv=>List.all_eq_true.1 h1 v hv)
  rw[Nat.add_zero]at h3;have h4:u.cells.toList=cs:=by rw[hc]
  simp only[execOp,h x _ hx,h y _ hy,Instr.storeAt,Instr.sureAddr,Sem.run_bind,Sem.run_pure,Result.andThen_ok,storeVar,h2,hc,List.size_toArray,ne_eq,not_true_eq_false,if_false,List.toList_toArray,h3]
theorem jf(hM:Mg w0 w L){c:Tmp}{t:TypeId}{m:Nat}(ht:IsS P t m){g o:Nat}(hx:kg l c=some (.pointer (some ⟨g,o,none⟩)))(k:Nat){vs cs:List Value}{e:TypeId}(hk:L[k]?=some (.obj g (.cells vs.toArray e)))(hcs:(vs.drop o).take m=cs)(hl:cs.length=m):ko P l w (.cell c t) (.agg cs.toArray):=
  ⟨_,hx,ki ht cs hl (fun j v hj=>hM.cell k hk (o+j) (by
    have hjn:j<m:=(by rw[←hl]; exact(List.getElem?_eq_some_iff.1 hj).1);rw[←hcs,List.getElem?_take,if_pos hjn,List.getElem?_drop]at hj;exact hj))⟩
def joi(so:Option Addr)(cap lo:Nat):Option Addr:=if cap=lo then so else so.map (·.add lo)
theorem Rb.drop{w:World}{so:Option Addr}{l:List UInt8}(h:Rb w so l)(cap lo:Nat)(hc:l.length≤cap):Rb w (joi so cap lo) (l.drop lo):=by
  refine⟨fun hne=>?_⟩;have hlo:lo<l.length:=by
    apply Classical.byContradiction;intro k;exact hne (List.drop_eq_nil_of_le (by omega))
  obtain⟨b,off,rfl,h2,h3⟩:=h.pos (fun k=>by rw[k]at hlo; exact absurd hlo (Nat.not_lt_zero _));unfold joi;rw[if_neg (by omega)];refine⟨b,off+lo,by simp[vv],h2,fun j hj=>?_⟩;rw[List.length_drop]at hj;rw[Nat.add_assoc,h3 (lo+j) (by omega),List.getD_eq_getElem?_getD,List.getD_eq_getElem?_getD,List.getElem?_drop]
theorem qmb{t e:TypeId}{sz:Nat}(ht:P.underlying t=some (.slice e))(he:(P.info? e).map (·.size)=some sz){x y:Operand}{so:Option Addr}{n cap lo:Nat}{z:Int}(hx:ev l x=some (.slice so n cap))(hy:ev l y=some (.int .i64 z))(hz:z=((lo:Nat):Int))(hp:lo≤n):Does P l ⟨dst,.slice t x (some y) none none,ty,pos,after,guard⟩ w (.slice (if cap=lo then so else so.map (·.add (lo*sz))) (n-lo) (cap-lo)) w:=fun ρ h=>by
  subst hz;obtain⟨i,hi,hs⟩:=vu he;have h2:(sizeOf e).run P w=.ok sz w:=by simp[sizeOf,typeInfo,hi,hs]
  have h1:(0:Int)≤(lo:Nat)∧((lo:Nat):Int)≤(n:Int):=⟨by omega,by omega⟩;simp[execOp,h x _ hx,h y _ hy,Instr.sliceAt,Instr.slice,Instr.sliceBounds,Instr.sliceBound,asIntOf,run_underlying ht,h1,h2];try (intro hc; omega)
theorem zwi{t e:TypeId}{sz:Nat}(ht:P.underlying t=some (.slice e))(he:(P.info? e).map (·.size)=some sz){x y:Operand}{so:Option Addr}{n cap hi:Nat}{z:Int}(hx:ev l x=some (.slice so n cap))(hy:ev l y=some (.int .i64 z))(hz:z=((hi:Nat):Int))(hp:hi≤cap):Does P l ⟨dst,.slice t x none (some y) none,ty,pos,after,guard⟩ w (.slice so hi cap) w:=fun ρ h=>by
  subst hz;obtain⟨i,hii,hs⟩:=vu he;have h2:(sizeOf e).run P w=.ok sz w:=by simp[sizeOf,typeInfo,hii,hs]
  have h1:(0:Int)≤(hi:Nat)∧((hi:Nat):Int)≤(cap:Int):=⟨by omega,by omega⟩;have ha:∀a:Addr,a.add 0=a:=fun a=>by unfold Addr.add; simp
  cases so with
  | none => simp [execOp, h x _ hx, h y _ hy, Instr.sliceAt, Instr.slice, Instr.sliceBounds, Instr.sliceBound, asIntOf, run_underlying ht, h1, h2, ha]; try (intro hc; omega)
  | some a => simp [execOp, h x _ hx, h y _ hy, Instr.sliceAt, Instr.slice, Instr.sliceBounds, Instr.sliceBound, asIntOf, run_underlying ht, h1, h2, ha]; try (intro hc; omega)
end
section
variable {P:Program} {w0 w:World} {L:List Ck} {l:List (Nat×Value)} {ops:List Oper} {Q:Exit→Act→World→Prop} {a:Act} {n:Nat} {o:Oper} {rest:List Oper} {d:Nat} {S:World→Prop} {md:Region.Mode} {fuel:Nat} {listed:Array Bool}
end
theorem jbj{a b:ByteArray}(h:a.data.toList=b.data.toList):a=b:=by
  cases a with
  | mk a => cases b with
    | mk b => congr 1; exact Array.ext' h
theorem zhg(a b:ByteArray):(a.toList==b.toList)=decide (a=b):=by
  rw[ByteArray.toList_eq,ByteArray.toList_eq];by_cases h:a=b
  · subst h; simp
  · rw[decide_eq_false h]; exact beq_false_of_ne (fun k=>h (jbj k))
section
variable {P:Program} {t:TypeId} {x y:Operand} {a b:ByteArray}
theorem zhh(hu:P.underlying t=some .string):∀w,(do eqGuard .eql t x y (.string a) (.string b); binOp .eql t (.string a) (.string b):Sem Value).run P w=.ok (.bool (decide (a=b))) w:=fun w=>by
  rw[←zhg];simp[go_sem,hu,run_underlying hu]
theorem qmc(hu:P.underlying t=some .string):∀w,(do eqGuard .neq t x y (.string a) (.string b); binOp .neq t (.string a) (.string b):Sem Value).run P w=.ok (.bool (!(decide (a=b)))) w:=fun w=>by
  rw[←zhg];simp[go_sem,hu,run_underlying hu]
end
end Go.Proofs.YtpckmgemfkiifaaGreatDoor.G
