/- DigMath -/
import Derived.Laws.BytesArg
import Derived.Test.YtpckmgemfkiifaaGreatDoorWords
namespace Go.Proofs.YtpckmgemfkiifaaGreatDoor
set_option linter.unusedVariables false
set_option linter.unusedSimpArgs false

def DigR(r:Nat)(l:List Nat):Prop:=∀x∈l,x<r

theorem DigR.take{r:Nat}{l:List Nat}(h:DigR r l)(n:Nat):DigR r (l.take n):=fun x hx=>h x (List.mem_of_mem_take hx)
theorem DigR.getD{r:Nat}(hr:0<r){l:List Nat}(h:DigR r l)(i:Nat):l.getD i 0<r:=by
  by_cases hi:i<l.length
  · have:l.getD i 0=l[i]:=(by simp[hi]);rw[this];exact h _ (List.getElem_mem hi)
  · have:l.getD i 0=0:=(by simp[List.getElem?_eq_none (by omega:l.length≤i)]);omega

def bytesOf(l:List Nat):ByteArray:=strOfNums (l.map (fun(x:Nat)=>(x:Int)))
end Go.Proofs.YtpckmgemfkiifaaGreatDoor
