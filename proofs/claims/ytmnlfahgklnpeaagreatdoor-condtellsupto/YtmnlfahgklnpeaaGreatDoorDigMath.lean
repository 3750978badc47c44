/- DigMath -/
import Derived.Laws.BytesArg
import Derived.Test.YtmnlfahgklnpeaaGreatDoorWords
namespace Go.Proofs.YtmnlfahgklnpeaaGreatDoor
set_option linter.unusedVariables false
set_option linter.unusedSimpArgs false

def valr(r:Nat):List Nat→Nat
  | [] => 0
  | d :: l => d + r * valr r l
def digs(r n:Nat):List Nat:=if h:n=0∨r<2 then[]else n%r::digs r (n / r)
termination_by n
decreasing_by exact Nat.div_lt_self (by omega) (by omega)
def DigR(r:Nat)(l:List Nat):Prop:=∀x∈l,x<r

theorem valr_append(r:Nat)(a b:List Nat):valr r (a++b)=valr r a+r^a.length*valr r b:=by
  induction a with
  | nil => simp [valr]
  | cons d l ih =>
    rw[List.cons_append,valr,valr,ih,List.length_cons,Nat.pow_succ,Nat.mul_add,Nat.mul_comm (r^l.length) r,Nat.mul_assoc];omega
theorem valr_snoc(r:Nat)(a:List Nat)(d:Nat):valr r (a++[d])=valr r a+r^a.length*d:=by
  rw[valr_append];simp[valr]
theorem digs_zero(r:Nat):digs r 0=[]:=by unfold digs; simp
theorem digs_pos{r n:Nat}(hr:2≤r)(h:n≠0):digs r n=n%r::digs r (n / r):=by
  rw[digs];have:¬(n=0∨r<2):=by omega
  simp[this]
theorem digR_nil(r:Nat):DigR r []:=by intro x hx; simp at hx
theorem digR_cons{r d:Nat}{l:List Nat}:DigR r (d::l)↔d<r∧DigR r l:=by simp[DigR]
theorem digR_append{r:Nat}{a b:List Nat}:DigR r (a++b)↔DigR r a∧DigR r b:=by
  simp[DigR];constructor
  · intro h;exact⟨fun x hx=>h x (.inl hx),fun x hx=>h x (.inr hx)⟩
  · rintro⟨h1,h2⟩ x (hx | hx)
    · exact h1 x hx
    · exact h2 x hx
theorem DigR.take{r:Nat}{l:List Nat}(h:DigR r l)(n:Nat):DigR r (l.take n):=fun x hx=>h x (List.mem_of_mem_take hx)
theorem valr_digs{r:Nat}(hr:2≤r)(n:Nat):valr r (digs r n)=n:=by
  induction n using Nat.strongRecOn with
  | _ n ih =>
    by_cases h:n=0
    · subst h; rw[digs_zero]; rfl
    · rw[digs_pos hr h,valr,ih _ (Nat.div_lt_self (by omega) (by omega))];have:=Nat.mod_add_div n r;omega
theorem digs_of{r:Nat}(hr:2≤r){l:List Nat}(hd:DigR r l)(ht:l=[]∨l.getD (l.length-1) 0≠0):digs r (valr r l)=l:=by
  induction l with
  | nil => exact digs_zero r
  | cons d l ih =>
    have h1:=digR_cons.1 hd;have hl:l=[]∨l.getD (l.length-1) 0≠0:=by
      rcases l with _ | ⟨e,l⟩
      · exact .inl rfl
      · rcases ht with h | h
        · cases h
        · right;simpa using h
    have e:=ih h1.2 hl;have hne:valr r (d::l)≠0:=by
      rw[valr];intro h0;have hd0:d=0:=(by omega);have hv:r*valr r l=0:=(by omega);have hv2:valr r l=0:=by
        rcases Nat.mul_eq_zero.1 hv with h | h
        · omega
        · exact h
      rw[hv2,digs_zero]at e;subst e;rcases ht with h | h
      · cases h
      · simp at h;omega
    rw[digs_pos hr hne];have e1:valr r (d::l)%r=d:=(by rw[valr,Nat.add_mul_mod_self_left,Nat.mod_eq_of_lt h1.1]);have e2:valr r (d::l) / r=valr r l:=(by rw[valr,Nat.add_mul_div_left _ _ (by omega),Nat.div_eq_of_lt h1.1,Nat.zero_add]);rw[e1,e2,e]
theorem valr_take_succ(r:Nat)(l:List Nat)(i:Nat):valr r (l.take (i+1))=valr r (l.take i)+r^i*l.getD i 0:=by
  by_cases hi:i<l.length
  · rw[List.take_succ_eq_append_getElem hi,valr_snoc,List.length_take,Nat.min_eq_left (by omega)];simp[hi]
  · have e:l.getD i 0=0:=(by simp[List.getElem?_eq_none (by omega:l.length≤i)]);rw[List.take_of_length_le (by omega),List.take_of_length_le (by omega),e];omega
theorem valr_take_pred{r:Nat}{l:List Nat}(k:Nat)(h0:k≠0)(h:l.getD (k-1) 0=0):valr r (l.take (k-1))=valr r (l.take k):=by
  obtain⟨m,rfl⟩:∃m,k=m+1:=⟨k-1,by omega⟩;rw[valr_take_succ];simp only[Nat.add_sub_cancel]at h ⊢;rw[h];omega
theorem digs_take{r:Nat}(hr:2≤r){l:List Nat}(hd:DigR r l)(k:Nat)(hk:k≤l.length)(h0:k≠0)(h:l.getD (k-1) 0≠0):digs r (valr r (l.take k))=l.take k:=by
  refine digs_of hr (hd.take k) (.inr ?_);rw[List.length_take,Nat.min_eq_left hk];have:(l.take k).getD (k-1) 0=l.getD (k-1) 0:=by
    simp only[List.getD_eq_getElem?_getD];rw[List.getElem?_take,if_pos (by omega)]
  rw[this];exact h
theorem DigR.getD{r:Nat}(hr:0<r){l:List Nat}(h:DigR r l)(i:Nat):l.getD i 0<r:=by
  by_cases hi:i<l.length
  · have:l.getD i 0=l[i]:=(by simp[hi]);rw[this];exact h _ (List.getElem_mem hi)
  · have:l.getD i 0=0:=(by simp[List.getElem?_eq_none (by omega:l.length≤i)]);omega

def dch(d:Nat):Nat:=if d<10 then 48+d else 87+d
theorem dch_lt{d:Nat}(h:d<36):dch d<256:=by unfold dch; split<;>omega
theorem dch_zero{d:Nat}:dch d=48↔d=0:=by unfold dch; split<;>omega
def dvn(none_:Nat)(b:Nat):Nat:=if 48≤b∧b≤57 then b-48 else if 97≤b∧b≤122 then b-87 else if 65≤b∧b≤90 then b-55 else none_
def bytesOf(l:List Nat):ByteArray:=strOfNums (l.map (fun(x:Nat)=>(x:Int)))
theorem bytesOf_size(l:List Nat):(bytesOf l).size=l.length:=by unfold bytesOf; rw[strOfNums_size,List.length_map]
def txt(r n:Nat):ByteArray:=bytesOf ((digs r n).map dch).reverse
