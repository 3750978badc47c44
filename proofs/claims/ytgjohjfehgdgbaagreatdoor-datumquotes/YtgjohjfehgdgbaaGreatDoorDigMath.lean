/- DigMath -/
import Derived.Laws.BytesArg
import Derived.Test.YtgjohjfehgdgbaaGreatDoorWords
namespace Go.Proofs.YtgjohjfehgdgbaaGreatDoor
set_option linter.unusedVariables false
set_option linter.unusedSimpArgs false

def DigR(r:Nat)(l:List Nat):Prop:=∀x∈l,x<r

theorem DigR.take{r:Nat}{l:List Nat}(h:DigR r l)(n:Nat):DigR r (l.take n):=fun x hx=>h x (List.mem_of_mem_take hx)
theorem DigR.getD{r:Nat}(hr:0<r){l:List Nat}(h:DigR r l)(i:Nat):l.getD i 0<r:=by
  by_cases hi:i<l.length
  · have:l.getD i 0=l[i]:=(by simp[hi]);rw[this];exact h _ (List.getElem_mem hi)
  · have:l.getD i 0=0:=(by simp[List.getElem?_eq_none (by omega:l.length≤i)]);omega

def dvn(none_:Nat)(b:Nat):Nat:=if 48≤b∧b≤57 then b-48 else if 97≤b∧b≤122 then b-87 else if 65≤b∧b≤90 then b-55 else none_
theorem dvn_le(b:Nat):dvn 36 b≤36:=by
  unfold dvn
  split
  · omega
  · split
    · omega
    · split<;>omega
def bytesOf(l:List Nat):ByteArray:=strOfNums (l.map (fun(x:Nat)=>(x:Int)))
end Go.Proofs.YtgjohjfehgdgbaaGreatDoor
