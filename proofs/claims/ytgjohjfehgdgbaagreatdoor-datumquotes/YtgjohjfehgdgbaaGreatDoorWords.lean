/- Words -/
namespace Go.Proofs.YtgjohjfehgdgbaaGreatDoor
set_option linter.unusedVariables false
set_option linter.unusedSimpArgs false

def val: List Nat→Nat
  | [] => 0
  | d :: l => d + 4294967296 * val l
def Dig(l:List Nat):Prop:=∀x∈l,x<4294967296
def words(n:Nat):List Nat:=if h:n=0 then[]else n%4294967296::words (n / 4294967296)
termination_by n
decreasing_by exact Nat.div_lt_self (by omega) (by omega)

def pw(i:Nat):Nat:=4294967296^i
theorem pw_zero: pw 0=1:=rfl
theorem pw_succ(i:Nat):pw (i+1)=4294967296*pw i:=by unfold pw; rw[Nat.pow_succ,Nat.mul_comm]
theorem pw_add(i j:Nat):pw (i+j)=pw i*pw j:=by unfold pw; rw[Nat.pow_add]
theorem pw_pos(i:Nat):0<pw i:=Nat.pow_pos (by omega)
theorem pw_le{i j:Nat}(h:i≤j):pw i≤pw j:=Nat.pow_le_pow_right (by omega) h
theorem pw_two(i:Nat):pw i=2^(32*i):=by unfold pw; rw[Nat.pow_mul]

theorem val_nil: val []=0:=rfl
theorem val_cons(d:Nat)(l:List Nat):val (d::l)=d+4294967296*val l:=rfl
theorem val_append(a b:List Nat):val (a++b)=val a+pw a.length*val b:=by
  induction a with
  | nil => simp [val, pw_zero]
  | cons d l ih =>
    rw[List.cons_append,val_cons,val_cons,ih,List.length_cons,pw_succ,Nat.mul_add,Nat.mul_assoc];omega
theorem val_snoc(a:List Nat)(d:Nat):val (a++[d])=val a+pw a.length*d:=by
  rw[val_append];simp[val]
theorem dig_nil: Dig []:=by intro x hx; simp at hx
theorem dig_cons{d:Nat}{l:List Nat}:Dig (d::l)↔d<4294967296∧Dig l:=by simp[Dig]
theorem dig_append{a b:List Nat}:Dig (a++b)↔Dig a∧Dig b:=by
  simp[Dig];constructor
  · intro h;exact⟨fun x hx=>h x (.inl hx),fun x hx=>h x (.inr hx)⟩
  · rintro⟨h1,h2⟩ x (hx | hx)
    · exact h1 x hx
    · exact h2 x hx
theorem Dig.take{l:List Nat}(h:Dig l)(n:Nat):Dig (l.take n):=fun x hx=>h x (List.mem_of_mem_take hx)
theorem Dig.drop{l:List Nat}(h:Dig l)(n:Nat):Dig (l.drop n):=fun x hx=>h x (List.mem_of_mem_drop hx)
theorem Dig.set{l:List Nat}(h:Dig l)(i d:Nat)(hd:d<4294967296):Dig (l.set i d):=by
  intro x hx;rcases List.mem_or_eq_of_mem_set hx with h1 | h1
  · exact h x h1
  · omega
theorem Dig.getD{l:List Nat}(h:Dig l)(i:Nat):l.getD i 0<4294967296:=by
  by_cases hi:i<l.length
  · have:l.getD i 0=l[i]:=(by simp[hi]);rw[this];exact h _ (List.getElem_mem hi)
  · have:l.getD i 0=0:=(by simp[List.getElem?_eq_none (by omega:l.length≤i)]);omega
theorem dig_replicate(n:Nat):Dig (List.replicate n 0):=by
  intro x hx;have:=(List.mem_replicate.1 hx).2;omega
theorem val_replicate(n:Nat):val (List.replicate n 0)=0:=by
  induction n with
  | zero => rfl
  | succ n ih => rw [List.replicate_succ, val_cons, ih]
theorem val_lt{l:List Nat}(h:Dig l):val l<pw l.length:=by
  induction l with
  | nil => simp [val, pw_zero]
  | cons d l ih =>
    have h1:=dig_cons.1 h;have:=ih h1.2;rw[val_cons,List.length_cons,pw_succ];omega
theorem val_take_succ(l:List Nat)(i:Nat):val (l.take (i+1))=val (l.take i)+pw i*l.getD i 0:=by
  by_cases hi:i<l.length
  · rw[List.take_succ_eq_append_getElem hi,val_snoc,List.length_take,Nat.min_eq_left (by omega)];simp[hi]
  · have e:l.getD i 0=0:=(by simp[List.getElem?_eq_none (by omega:l.length≤i)]);rw[List.take_of_length_le (by omega),List.take_of_length_le (by omega),e];omega
theorem take_set_succ(l:List Nat)(i d:Nat)(hi:i<l.length):(l.set i d).take (i+1)=l.take i++[d]:=by
  rw[List.take_succ_eq_append_getElem (by simpa using hi),List.take_set_of_le (by omega)];simp
theorem val_set_take(l:List Nat)(i d:Nat)(hi:i<l.length):val ((l.set i d).take (i+1))=val (l.take i)+pw i*d:=by
  rw[take_set_succ l i d hi,val_snoc,List.length_take,Nat.min_eq_left (by omega)]
theorem val_split(l:List Nat)(k:Nat):val l=val (l.take k)+pw (min k l.length)*val (l.drop k):=by
  have:=val_append (l.take k) (l.drop k);rw[List.take_append_drop,List.length_take]at this;exact this

theorem words_zero: words 0=[]:=by unfold words; simp
theorem words_pos{n:Nat}(h:n≠0):words n=n%4294967296::words (n / 4294967296):=by
  rw[words];simp[h]
theorem val_words(n:Nat):val (words n)=n:=by
  induction n using Nat.strongRecOn with
  | _ n ih =>
    by_cases h:n=0
    · subst h; rw[words_zero]; rfl
    · rw[words_pos h,val_cons,ih _ (Nat.div_lt_self (by omega) (by omega))];omega
theorem words_dig(n:Nat):Dig (words n):=by
  induction n using Nat.strongRecOn with
  | _ n ih =>
    by_cases h:n=0
    · subst h; rw[words_zero]; exact dig_nil
    · rw[words_pos h];exact dig_cons.2 ⟨Nat.mod_lt _ (by omega),ih _ (Nat.div_lt_self (by omega) (by omega))⟩
theorem words_eq_nil{n:Nat}:words n=[]↔n=0:=by
  constructor
  · intro h;by_cases hn:n=0
    · exact hn
    · rw[words_pos hn]at h;cases h
  · intro h;subst h;exact words_zero
def Top(l:List Nat):Prop:=l=[]∨l.getD (l.length-1) 0≠0
theorem words_of{l:List Nat}(hd:Dig l)(ht:Top l):words (val l)=l:=by
  induction l with
  | nil => exact words_zero
  | cons d l ih =>
    have h1:=dig_cons.1 hd;have hl:Top l:=by
      rcases l with _ | ⟨e,l⟩
      · exact .inl rfl
      · rcases ht with h | h
        · cases h
        · right;simpa using h
    have e:=ih h1.2 hl;have hne:val (d::l)≠0:=by
      rw[val_cons];intro h0;have hv:val l=0:=(by omega);rw[hv,words_zero]at e;subst e;rcases ht with h | h
      · cases h
      · simp at h;omega
    rw[words_pos hne];have e1:val (d::l)%4294967296=d:=(by rw[val_cons]; omega);have e2:val (d::l) / 4294967296=val l:=(by rw[val_cons]; omega);rw[e1,e2,e]
theorem words_top(n:Nat):Top (words n):=by
  induction n using Nat.strongRecOn with
  | _ n ih =>
    by_cases h:n=0
    · subst h; exact .inl words_zero
    · right;rw[words_pos h];by_cases h2:n / 4294967296=0
      · rw[h2,words_zero];simp;omega
      · rcases ih (n / 4294967296) (Nat.div_lt_self (by omega) (by omega))with h3 | h3
        · exact absurd (words_eq_nil.1 h3) h2
        · rcases hw:words (n / 4294967296)with _ | ⟨e,l⟩
          · exact absurd (words_eq_nil.1 hw) h2
          · rw[hw]at h3;simpa using h3
theorem words_lt(n:Nat):n<pw (words n).length:=by
  have:=val_lt (words_dig n)
  rwa [val_words]at this
theorem words_ge{n:Nat}(h:n≠0):pw ((words n).length-1)≤n:=by
  induction n using Nat.strongRecOn with
  | _ n ih =>
    rw[words_pos h,List.length_cons,Nat.add_sub_cancel];by_cases h2:n / 4294967296=0
    · rw[h2,words_zero];simp[pw_zero];omega
    · have:=ih _ (Nat.div_lt_self (by omega) (by omega)) h2;have hl:(words (n / 4294967296)).length≠0:=by
        intro e;exact h2 (words_eq_nil.1 (List.length_eq_zero_iff.1 e))
      obtain⟨m,hm⟩:∃m,(words (n / 4294967296)).length=m+1:=⟨_,(Nat.succ_pred_eq_of_pos (by omega)).symm⟩;rw[hm]at this ⊢;rw[pw_succ];simp at this;omega
theorem words_length_le{n k:Nat}(h:n<pw k):(words n).length≤k:=by
  by_cases h0:n=0
  · subst h0; rw[words_zero]; simp
  · apply Classical.byContradiction;intro h1;have h2:=words_ge h0;have h3:pw k≤pw ((words n).length-1):=pw_le (by omega);omega
theorem words_length_iff{n k:Nat}:(words n).length≤k↔n<pw k:=
  ⟨fun h=>Nat.lt_of_lt_of_le (words_lt n) (pw_le h),words_length_le⟩
theorem words_mono{a b:Nat}(h:a≤b):(words a).length≤(words b).length:=words_length_le (Nat.lt_of_le_of_lt h (words_lt b))
theorem words_getD(n i:Nat):(words n).getD i 0=n / pw i%4294967296:=by
  induction i generalizing n with
  | zero =>
    by_cases h:n=0
    · subst h; rw[words_zero]; simp
    · rw[words_pos h]; simp[pw_zero]
  | succ i ih =>
    by_cases h:n=0
    · subst h; rw[words_zero]; simp
    · rw[words_pos h,List.getD_cons_succ,ih,Nat.div_div_eq_div_mul,pw_succ]
theorem words_take{l:List Nat}(hd:Dig l)(k:Nat)(hk:k≤l.length)(hv:val (l.take k)=val l)(ht:k=0∨l.getD (k-1) 0≠0):l.take k=words (val l):=by
  rw[←hv];refine(words_of (hd.take k) ?_).symm;rcases ht with h | h
  · subst h; exact .inl rfl
  · by_cases hk0:k=0
    · subst hk0; exact .inl rfl
    · right;rw[List.length_take,Nat.min_eq_left hk];have:(l.take k).getD (k-1) 0=l.getD (k-1) 0:=by
        simp only[List.getD_eq_getElem?_getD];rw[List.getElem?_take,if_pos (by omega)]
      rw[this];exact h
theorem val_take_pred{l:List Nat}(k:Nat)(h0:k≠0)(h:l.getD (k-1) 0=0):val (l.take (k-1))=val (l.take k):=by
  obtain⟨m,rfl⟩:∃m,k=m+1:=⟨k-1,by omega⟩;rw[val_take_succ];simp only[Nat.add_sub_cancel]at h ⊢;rw[h];omega
theorem lt_of_words_length{a b:Nat}(h:(words a).length<(words b).length):a<b:=by
  apply Classical.byContradiction;intro h1;have:=words_mono (Nat.le_of_not_lt h1);omega
theorem order_step(a b k:Nat)(h:a / pw (k+1)=b / pw (k+1)):
    (a / pw k%4294967296=b / pw k%4294967296→a / pw k=b / pw k)∧(a / pw k%4294967296<b / pw k%4294967296→a<b)∧(b / pw k%4294967296<a / pw k%4294967296→b<a):=by
  have e:∀x:Nat,x / pw (k+1)=x / pw k / 4294967296:=by
    intro x;rw[pw_succ,Nat.mul_comm,Nat.div_div_eq_div_mul]
  rw[e,e]at h;have m:∀x y:Nat,x / pw k<y / pw k→x<y:=by
    intro x y hxy;apply Classical.byContradiction;intro h1;have:=Nat.div_le_div_right (c:=pw k) (Nat.le_of_not_lt h1);omega
  refine⟨fun h1=>by omega,fun h1=>m _ _ (by omega),fun h1=>m _ _ (by omega)⟩
theorem div_words_length(a:Nat)(k:Nat)(h:(words a).length≤k):a / pw k=0:=Nat.div_eq_of_lt (words_length_iff.1 h)
theorem list_of_getD{a b:List Nat}(hl:a.length=b.length)(h:∀i,i<a.length→a.getD i 0=b.getD i 0):a=b:=by
  apply List.ext_getElem hl;intro i h1 h2;have:=h i h1;simpa[h1,h2]using this
end Go.Proofs.YtgjohjfehgdgbaaGreatDoor
