/- NatR -/
import Derived.Test.YtgjohjfehgdgbaaGreatDoorNatG
import Derived.Test.YtgjohjfehgdgbaaGreatDoorDivMath
import Derived.Test.YtgjohjfehgdgbaaGreatDoorBits
namespace Go.Proofs.YtgjohjfehgdgbaaGreatDoor
open Go.RowKit
set_option linter.unusedVariables false
set_option linter.unusedSimpArgs false

section
variable {B:Nat} {w:World} {g cap j:Nat} {P M S:List Nat}
theorem Own.winCell(h:Own B w (some ⟨g,0,none⟩) cap (P++(M++S)))(hP:P.length=j)(i:Nat)(hi:i<M.length):w.cell? ⟨g,j+i,none⟩=some (.int .u32 ((M.getD i 0:Nat):Int)):=by
  have:=h.cell (j+i) (by simp only[List.length_append]; omega)
  rwa [win_getD P M S j i hP hi]at this
theorem Own.winSet(h:Own B w (some ⟨g,0,none⟩) cap (P++(M++S)))(hP:P.length=j)(i d:Nat)(hi:i<M.length)(hd:d<4294967296):Own B (w.setCell ⟨g,j+i,none⟩ (.int .u32 (d:Int))) (some ⟨g,0,none⟩) cap (P++(M.set i d++S)):=by
  have:=h.set (j+i) d hd
  rwa [win_set P M S j i d hP hi]at this
theorem Own.winDig(h:Own B w (some ⟨g,0,none⟩) cap (P++(M++S))):Dig M:=(dig_append.1 (dig_append.1 h.dig).2).1
theorem Own.winRd(h:Own B w (some ⟨g,0,none⟩) cap (P++(M++S)))(hP:P.length=j):Rd w (some ⟨g,j,none⟩) M:=by
  refine⟨h.winDig,fun hne=>⟨g,j,rfl,?_,fun i hi=>h.winCell hP i hi⟩⟩;exact(h.lt _ rfl).2
end

def bor0(x y:Nat):Nat:=if x<y then 1 else 0
def dif0(x y:Nat):Nat:=(x+4294967296-y)%4294967296
theorem dif0_eq{x y:Nat}(hx:x<4294967296)(hy:y<4294967296):dif0 x y+y=x+4294967296*bor0 x y:=by
  unfold dif0 bor0
  split<;>omega
theorem dif0_lt(x y:Nat):dif0 x y<4294967296:=Nat.mod_lt _ (by omega)
theorem subT_step(M' M v:List Nat)(i c k:Nat)(hi:i<M'.length)(hM:Dig M)(hd:M'.getD i 0=M.getD i 0)(h:val (M'.take i)+val (v.take i)*k=val (M.take i)+pw i*c):
    val ((M'.set i (dif0 (M.getD i 0) ((c+v.getD i 0*k)%4294967296))).take (i+1))+val (v.take (i+1))*k=val (M.take (i+1))+pw (i+1)*((c+v.getD i 0*k) / 4294967296+bor0 (M.getD i 0) ((c+v.getD i 0*k)%4294967296)):=by
  rw[val_set_take M' i _ hi,val_take_succ v,val_take_succ M,pw_succ,Nat.add_mul,Nat.mul_assoc (pw i)];have e:=dif0_eq (hM.getD i) (Nat.mod_lt (c+v.getD i 0*k) (show 0<4294967296 by omega));have e1:=Nat.mod_add_div (c+v.getD i 0*k) 4294967296;generalize dif0 (M.getD i 0) ((c+v.getD i 0*k)%4294967296)=d at *
  generalize bor0 (M.getD i 0) ((c+v.getD i 0*k)%4294967296)=z at *
  have e2:pw i*d+pw i*(v.getD i 0*k)+pw i*c=pw i*M.getD i 0+4294967296*pw i*((c+v.getD i 0*k) / 4294967296+z):=by
    have e3:4294967296*pw i*((c+v.getD i 0*k) / 4294967296+z)=pw i*(4294967296*((c+v.getD i 0*k) / 4294967296+z)):=by
      rw[Nat.mul_comm 4294967296 (pw i),Nat.mul_assoc]
    rw[e3,←Nat.mul_add,←Nat.mul_add,←Nat.mul_add]
    congr 1
    omega
  omega
end Go.Proofs.YtgjohjfehgdgbaaGreatDoor
