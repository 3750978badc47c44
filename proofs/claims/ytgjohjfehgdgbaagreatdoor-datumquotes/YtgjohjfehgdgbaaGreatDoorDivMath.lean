/- DivMath -/
import Derived.Test.YtgjohjfehgdgbaaGreatDoorWords
namespace Go.Proofs.YtgjohjfehgdgbaaGreatDoor
set_option linter.unusedVariables false
set_option linter.unusedSimpArgs false
set_option linter.unusedSectionVars false

section
variable {P ulow vlow u0 head next top U V:Nat} (hu:ulow<P) (hv:vlow<P) (hU:U=ulow+P*(u0+4294967296*head)) (hV:V=vlow+P*(next+4294967296*top))
include hu hv hU hV
theorem guess_a: U / V*(next+4294967296*top)≤u0+4294967296*head:=by
  have h1:U / V*V≤U:=Nat.div_mul_le_self U V;have h2:U / V*(P*(next+4294967296*top))≤U / V*V:=Nat.mul_le_mul_left _ (by omega);have h3:U<P*(u0+4294967296*head+1):=by rw[Nat.mul_add]; omega
  have h4:P*(U / V*(next+4294967296*top))<P*(u0+4294967296*head+1):=by
    rw[Nat.mul_left_comm];omega
  have:=Nat.lt_of_mul_lt_mul_left h4;omega
theorem guess_b(hlt:U<4294967296*V):head≤next+4294967296*top:=by
  have h1:P*(u0+4294967296*head)≤U:=by omega
  have h2:V<P*(next+4294967296*top+1):=by rw[Nat.mul_add]; omega
  have h3:P*(u0+4294967296*head)<P*(4294967296*(next+4294967296*top+1)):=by
    have e:P*(4294967296*(next+4294967296*top+1))=4294967296*(P*(next+4294967296*top+1)):=Nat.mul_left_comm _ _ _;rw[e];omega
  have:=Nat.lt_of_mul_lt_mul_left h3;omega
theorem guess_c(ht:1≤top){g:Nat}(hg:g<4294967296)(h:g*(next+4294967296*top)≤u0+4294967296*head):g≤U / V+1:=by
  have hV0:P*4294967296≤V:=by
    have:P*(4294967296*1)≤P*(next+4294967296*top):=Nat.mul_le_mul_left _ (by omega);rw[Nat.mul_one]at this;omega
  have h1:g*V≤U+V:=by
    rw[hV,Nat.mul_add,Nat.mul_left_comm,←hV];have h2:g*vlow≤4294967296*P:=Nat.mul_le_mul (by omega) (by omega);have h3:P*(g*(next+4294967296*top))≤P*(u0+4294967296*head):=Nat.mul_le_mul_left _ h;have h4:4294967296*P=P*4294967296:=Nat.mul_comm _ _;omega
  have hVpos:0<V:=by
    have:0<P*4294967296:=Nat.mul_pos (by omega) (by omega);omega
  have h5:g-1≤U / V:=by
    rw[Nat.le_div_iff_mul_le hVpos,Nat.sub_mul,Nat.one_mul];omega
  omega
end
theorem val_top3(M:List Nat)(m:Nat)(h:M.length=m+3):val M=val (M.take m)+pw m*(M.getD m 0+4294967296*(M.getD (m+2) 0*4294967296+M.getD (m+1) 0)):=by
  have e:M.take (m+3)=M:=List.take_of_length_le (by omega);have e1:=val_take_succ M m;have e2:=val_take_succ M (m+1);have e3:=val_take_succ M (m+2);rw[e]at e3;rw[e3,e2,e1,pw_succ (m+1),pw_succ m];generalize pw m=P;generalize M.getD m 0=a;generalize M.getD (m+1) 0=b;generalize M.getD (m+2) 0=c;rw[Nat.mul_add P,Nat.mul_left_comm P,Nat.mul_add P,Nat.mul_add 4294967296,Nat.mul_assoc,Nat.mul_assoc,Nat.mul_assoc];have:P*(c*4294967296)=4294967296*(P*c):=by rw[Nat.mul_comm c,Nat.mul_left_comm]
  omega
theorem val_top2(M:List Nat)(m:Nat)(h:M.length=m+2):val M=val (M.take m)+pw m*(M.getD m 0+4294967296*M.getD (m+1) 0):=by
  have e:M.take (m+2)=M:=List.take_of_length_le (by omega);have e1:=val_take_succ M m;have e2:=val_take_succ M (m+1);rw[e]at e2;rw[e2,e1,pw_succ m];generalize pw m=P;generalize M.getD m 0=a;generalize M.getD (m+1) 0=b;rw[Nat.mul_add P,Nat.mul_left_comm P,Nat.mul_assoc];omega
theorem val_take_lt{l:List Nat}(h:Dig l)(k:Nat)(hk:k≤l.length):val (l.take k)<pw k:=by
  have:=val_lt (h.take k)
  rwa [List.length_take,Nat.min_eq_left hk]at this

theorem win_getD(P M S:List Nat)(j i:Nat)(hP:P.length=j)(hi:i<M.length):(P++(M++S)).getD (j+i) 0=M.getD i 0:=by
  simp only[List.getD_eq_getElem?_getD];rw[List.getElem?_append_right (by omega),List.getElem?_append_left (by omega)]
  congr 2
  omega
theorem win_set(P M S:List Nat)(j i d:Nat)(hP:P.length=j)(hi:i<M.length):(P++(M++S)).set (j+i) d=P++(M.set i d++S):=by
  rw[List.set_append_right _ _ (by omega),List.set_append_left _ _ (by omega)]
  congr 3
  omega
theorem win_val(P M S:List Nat):val (P++(M++S))=val P+pw P.length*(val M+pw M.length*val S):=by
  rw[val_append,val_append]
end Go.Proofs.YtgjohjfehgdgbaaGreatDoor
