/- Mw -/
import Derived.Test.YtgjohjfehgdgbaaGreatDoorPdatumq11f
import Derived.Lib.AppendZerosOnto
import Derived.Lib.Bytealg
import Derived.Laws.OwnMore
import Derived.Laws.Strings
set_option linter.unusedVariables false
set_option linter.unusedSimpArgs false
set_option maxHeartbeats 1000000
namespace Go.Proofs.YtgjohjfehgdgbaaGreatDoor.G
open Go.RowKit Go.Lib
section
variable {w0 w:World} {L:List Ck} {e:TypeId} {sz g n cap:Nat} {xs:List Value}
end
section
variable {P:Program} {w0 w:World} {L:List Ck} {l:List (Nat×Value)} {dst:Option Tmp} {ty:TypeId} {pos:String} {after:Array Edge} {guard:Option (Nat×Bool)} {v:Value}
theorem zu(hM:Mg w0 w L){c:Tmp}{t:TypeId}{m:Nat}(ht:IsS P t m){g o:Nat}(hx:vl l c=some (.pointer (some ⟨g,o,none⟩)))(k:Nat){vs cs:List Value}{e:TypeId}(hk:L[k]?=some (.obj g (.cells vs.toArray e)))(hcs:(vs.drop o).take m=cs)(hl:cs.length=m):kb P l w (.cell c t) (.agg cs.toArray):=
  ⟨_,hx,ko ht cs hl (fun j v hj=>hM.cell k hk (o+j) (by
    have hjn:j<m:=(by rw[←hl]; exact(List.getElem?_eq_some_iff.1 hj).1);rw[←hcs,List.getElem?_take,if_pos hjn,List.getElem?_drop]at hj;exact hj))⟩
def jsj(so:Option Addr)(cap lo:Nat):Option Addr:=if cap=lo then so else so.map (·.add lo)
theorem Rb.drop{w:World}{so:Option Addr}{l:List UInt8}(h:Rb w so l)(cap lo:Nat)(hc:l.length≤cap):Rb w (jsj so cap lo) (l.drop lo):=by
  refine⟨fun hne=>?_⟩;have hlo:lo<l.length:=by
    apply Classical.byContradiction;intro k;exact hne (List.drop_eq_nil_of_le (by omega))
  obtain⟨b,off,rfl,h2,h3⟩:=h.pos (fun k=>by rw[k]at hlo; exact absurd hlo (Nat.not_lt_zero _));unfold jsj;rw[if_neg (by omega)];refine⟨b,off+lo,by simp[xt],h2,fun j hj=>?_⟩;rw[List.length_drop]at hj;rw[Nat.add_assoc,h3 (lo+j) (by omega),List.getD_eq_getElem?_getD,List.getD_eq_getElem?_getD,List.getElem?_drop]
end
section
variable {P:Program} {w0 w:World} {L:List Ck} {l:List (Nat×Value)} {ops:List Oper} {Q:Exit→Act→World→Prop} {a:Act} {n:Nat} {o:Oper} {rest:List Oper} {d:Nat} {S:World→Prop} {md:Region.Mode} {fuel:Nat} {listed:Array Bool}
end
theorem jbh{a b:ByteArray}(h:a.data.toList=b.data.toList):a=b:=by
  cases a with
  | mk a => cases b with
    | mk b => congr 1; exact Array.ext' h
theorem zfe(a b:ByteArray):(a.toList==b.toList)=decide (a=b):=by
  rw[ByteArray.toList_eq,ByteArray.toList_eq];by_cases h:a=b
  · subst h; simp
  · rw[decide_eq_false h]; exact beq_false_of_ne (fun k=>h (jbh k))
section
variable {P:Program} {t:TypeId} {x y:Operand} {a b:ByteArray}
theorem zff(hu:P.underlying t=some .string):∀w,(do eqGuard .eql t x y (.string a) (.string b); binOp .eql t (.string a) (.string b):Sem Value).run P w=.ok (.bool (decide (a=b))) w:=fun w=>by
  rw[←zfe];simp[go_sem,hu,run_underlying hu]
theorem qma(hu:P.underlying t=some .string):∀w,(do eqGuard .neq t x y (.string a) (.string b); binOp .neq t (.string a) (.string b):Sem Value).run P w=.ok (.bool (!(decide (a=b)))) w:=fun w=>by
  rw[←zfe];simp[go_sem,hu,run_underlying hu]
end
end Go.Proofs.YtgjohjfehgdgbaaGreatDoor.G
