/- Mw -/
import Derived.Test.YtmnlfahgklnpeaaGreatDoorPcondte9e
import Derived.Lib.AppendZerosOnto
import Derived.Lib.Bytealg
import Derived.Laws.OwnMore
import Derived.Laws.Strings
set_option linter.unusedVariables false
set_option linter.unusedSimpArgs false
set_option maxHeartbeats 4000000
set_option maxRecDepth 1000000
namespace Go.Proofs.YtmnlfahgklnpeaaGreatDoor.G
open Go.RowKit Go.Lib
section
variable {w0 w:World} {L:List Ck} {e:TypeId} {sz g n cap:Nat} {xs:List Value}
theorem Mg.rowPut(h:Mg w0 w L)(k:Nat)(hk:L[k]?=some (.row e sz (.slice (some ⟨g,0,none⟩) n cap) n xs))(j:Nat)(u:Value):Mg w0 (w.setCell ⟨g,j,none⟩ u) (L.set k (.row e sz (.slice (some ⟨g,0,none⟩) n cap) n (xs.set j u))):=by
  have hs:=World.ownsRow.stored (show w.ownsRow w0.heap.size e sz (.slice (some ⟨g,0,none⟩) n cap) n xs from h.has k hk) j u;exact h.turn k hk (by simp) hs.2 hs.1 (fun d _ ha=>by cases d<;>exact ha)
theorem Mg.rowPuts: ∀(cs:List Value) (w:World) (L:List Ck) (xs:List Value) (o:Nat),Mg w0 w L→∀k,L[k]?=some (.row e sz (.slice (some ⟨g,0,none⟩) n cap) n xs)→Mg w0 (w.setCells g o cs) (L.set k (.row e sz (.slice (some ⟨g,0,none⟩) n cap) n (over xs o cs)))
  | [], w, L, xs, o, h, k, hk => by
    rw[show L.set k (.row e sz (.slice (some ⟨g,0,none⟩) n cap) n (over xs o []))=L from qwj hk];exact h
  | c :: cs, w, L, xs, o, h, k, hk => by
    have h1:=h.rowPut k hk o c;have hk1:(L.set k (.row e sz (.slice (some ⟨g,0,none⟩) n cap) n (xs.set o c)))[k]?=some (.row e sz (.slice (some ⟨g,0,none⟩) n cap) n (xs.set o c)):=List.getElem?_set_self (List.getElem?_eq_some_iff.1 hk).1;have h2:=Mg.rowPuts cs _ _ (xs.set o c) (o+1) h1 k hk1;rw[List.set_set]at h2;exact h2
theorem jca: ∀(cs:List Value) (xs:List Value) (o i:Nat),o+cs.length≤xs.length→(over xs o cs)[i]?=if o≤i∧i<o+cs.length then cs[i-o]? else xs[i]?
  | [], xs, o, i, _ => by
    show xs[i]?=_;rw[f7 (by simp only[fx]; omega)]
  | c :: cs, xs, o, i, h => by
    rw[fw]at h;show(over (xs.set o c) (o+1) cs)[i]?=_;rw[jca cs (xs.set o c) (o+1) i (by rw[List.length_set]; omega)];by_cases h1:o+1≤i∧i<o+1+cs.length
    · rw[gj h1,gj (by rw[fw]; omega),show i-o=(i-(o+1))+1 from by omega,List.getElem?_cons_succ]
    · rw[f7 h1];by_cases h2:o=i
      · subst h2;rw[List.getElem?_set_self (by omega),gj (by rw[fw]; omega),Nat.sub_self,List.getElem?_cons_zero]
      · rw[List.getElem?_set_ne h2,f7 (by rw[fw]; omega)]
theorem jwd{xs cs:List Value}{o:Nat}(h:o+cs.length≤xs.length):over xs o cs=xs.take o++cs++xs.drop (o+cs.length):=by
  apply List.ext_getElem?;intro i;rw[jca cs xs o i h];by_cases h1:i<o
  · rw[f7 (by omega),f4,List.getElem?_append_left (by rw[li]; omega),List.getElem?_take_of_lt h1]
  · rw[f4,List.getElem?_append_right (by rw[li]; omega),li,Nat.min_eq_left (by omega)];by_cases h2:i<o+cs.length
    · rw[gj ⟨by omega,h2⟩,List.getElem?_append_left (by omega)]
    · rw[f7 (by omega),List.getElem?_append_right (by omega),List.getElem?_drop]
      congr 1
      omega
end
section
variable {P:Program} {w0 w:World} {L:List Ck} {l:List (Nat×Value)} {dst:Option Tmp} {ty:TypeId} {pos:String} {after:Array Edge} {guard:Option (Nat×Bool)} {v:Value}
theorem zoc{t:TypeId}{x y:Operand}{g o:Nat}{u:Value}{cs:List Value}(hx:ev l x=some (.pointer (some ⟨g,o,none⟩)))(hy:ev l y=some u)(hc:u.cells=cs.toArray)(hn:(P.info? t).map (·.size)=some cs.length)
    (hM:Mg w0 w L) (k:Nat) {e:TypeId} {sz n cap:Nat} {xs:List Value} (hk:L[k]?=some (.row e sz (.slice (some ⟨g,0,none⟩) n cap) n xs)) (hl:o+cs.length≤n*sz) (h1:cs.all Value.oneCell'=true):Sets P l ⟨dst,.store t x y,ty,pos,after,guard⟩ w (w.setCells g o cs):=fun ρ h=>by
  obtain⟨i,hi,hsz⟩:=vx hn;have hr:w.ownsRow w0.heap.size e sz (.slice (some ⟨g,0,none⟩) n cap) n xs:=hM.has k hk;have hxl:xs.length=n*sz:=hr.1;have h2:(sizeOf t).run P w=.ok cs.length w:=by simp[sizeOf,typeInfo,hi,hsz]
  have h3:=run_storeCells_cells (P:=P) g o cs 0 w (fun j hj=>by
      rw[World.ownsRow.cellAt hr (o+0+j) (by omega),List.getElem?_eq_getElem (by omega)]; rfl) (fun j hj=>World.ownsRow.frozenAt hr _) (fun v hv=>j3.1 h1 v hv)
  rw[Nat.add_zero]at h3;have h4:u.cells.toList=cs:=by rw[hc]
  simp only[execOp,h x _ hx,h y _ hy,Instr.storeAt,Instr.sureAddr,Sem.run_bind,Sem.run_pure,Result.andThen_ok,storeVar,h2,hc,gg,ne_eq,not_true_eq_false,if_false,List.toList_toArray,h3]
theorem zw(hM:Mg w0 w L){c:Tmp}{t:TypeId}{m:Nat}(ht:IsS P t m){g o:Nat}(hx:vf l c=some (.pointer (some ⟨g,o,none⟩)))(k:Nat){vs cs:List Value}{e:TypeId}(hk:L[k]?=some (.obj g (.cells vs.toArray e)))(hcs:(vs.drop o).take m=cs)(hl:cs.length=m):ki P l w (.cell c t) (.agg cs.toArray):=
  ⟨_,hx,vy ht cs hl (fun j v hj=>hM.cell k hk (o+j) (by
    have hjn:j<m:=(by rw[←hl]; exact(List.getElem?_eq_some_iff.1 hj).1);rw[←hcs,List.getElem?_take,gj hjn,List.getElem?_drop]at hj;exact hj))⟩
def xdh(so:Option Addr)(cap lo:Nat):Option Addr:=if cap=lo then so else so.map (·.add lo)
theorem Rb.drop{w:World}{so:Option Addr}{l:List UInt8}(h:Rb w so l)(cap lo:Nat)(hc:l.length≤cap):Rb w (xdh so cap lo) (l.drop lo):=by
  refine⟨fun hne=>?_⟩;have hlo:lo<l.length:=by
    apply Classical.byContradiction;intro k;exact hne (List.drop_eq_nil_of_le (by omega))
  obtain⟨b,off,rfl,h2,h3⟩:=h.pos (fun k=>by rw[k]at hlo; exact absurd hlo (j4 _));unfold xdh;rw[f7 (by omega)];refine⟨b,off+lo,by simp[jt],h2,fun j hj=>?_⟩;rw[il]at hj;rw[Nat.add_assoc,h3 (lo+j) (by omega),List.getD_eq_getElem?_getD,List.getD_eq_getElem?_getD,List.getElem?_drop]
end
section
variable {P:Program} {w0 w:World} {L:List Ck} {l:List (Nat×Value)} {ops:List Oper} {Q:Exit→Act→World→Prop} {a:Act} {n:Nat} {o:Oper} {rest:List Oper} {d:Nat} {S:World→Prop} {md:Region.Mode} {fuel:Nat} {listed:Array Bool}
end
theorem jlc{a b:ByteArray}(h:a.data.toList=b.data.toList):a=b:=by
  cases a with
  | mk a => cases b with
    | mk b => congr 1; exact Array.ext' h
theorem zod(a b:ByteArray):(a.toList==b.toList)=decide (a=b):=by
  rw[ByteArray.toList_eq,ByteArray.toList_eq];by_cases h:a=b
  · subst h; simp
  · rw[gn h]; exact beq_false_of_ne (fun k=>h (jlc k))
section
variable {P:Program} {t:TypeId} {x y:Operand} {a b:ByteArray}
theorem je(hu:P.underlying t=some .string):∀w,(do eqGuard .eql t x y (.string a) (.string b); binOp .eql t (.string a) (.string b):Sem Value).run P w=.ok (.bool (decide (a=b))) w:=fun w=>by
  rw[←zod];simp[go_sem,hu,run_underlying hu]
theorem kx(hu:P.underlying t=some .string):∀w,(do eqGuard .neq t x y (.string a) (.string b); binOp .neq t (.string a) (.string b):Sem Value).run P w=.ok (.bool (!(decide (a=b)))) w:=fun w=>by
  rw[←zod];simp[go_sem,hu,run_underlying hu]
end
