/- GcdMath -/
import Derived.Test.YtgjohjfehgdgbaaGreatDoorWords
namespace Go.Proofs.YtgjohjfehgdgbaaGreatDoor
set_option linter.unusedVariables false
set_option linter.unusedSimpArgs false

def Pair(A B p q r s X Y:Nat)(z:Bool):Prop:=
  (z=true→X+p*A=q*B∧Y+s*B=r*A)∧(z=false→X+q*B=p*A∧Y+r*A=s*B)

structure Sure(A B a0 b0:Nat)(a b p q r s u v:Nat)(z:Bool):Prop where
  le:b≤a
  ga:a*v+b*s=a0
  gb:a*u+b*r=b0
  uv:u≤v
  sv:s≤v
  v1:1≤v
  ru:r+u≤s+v
  top:(z=true→a+s*b0=r*a0∧b+u*a0=v*b0)∧(z=false→a+r*a0=s*b0∧b+v*b0=u*a0)
  big:(p=0∧q=0∧r=1∧s=0∧u=0∧v=1∧z=true) ∨
    ∃X Y t,1≤t∧u=p+t*r∧v=q+t*s∧Y≤X∧X≤A∧Nat.gcd X Y=Nat.gcd A B∧Pair A B p q r s X Y z∧(q=0∨X+Y≤A)

theorem sure_start{A B a0 b0:Nat}(h:b0≤a0):Sure A B a0 b0 a0 b0 0 0 1 0 0 1 true:=by
  refine⟨h,by omega,by omega,by omega,by omega,by omega,by omega,⟨fun _=>by omega,fun h=>by cases h⟩,.inl ⟨rfl,rfl,rfl,rfl,rfl,rfl,rfl⟩⟩

theorem mul_le_T{x y:Nat}{T:Nat}(h:y≤T):x*y≤x*T:=Nat.mul_le_mul_left _ h

theorem next_pair{A B T a0 b0 al be a b r s u v:Nat}(hA:A=a0*T+al)(hB:B=b0*T+be)(hal:al<T)(hbe:be<T)
    (hu:u≤v) (hru:r+u≤s+v) (hb:v≤b) (hab:b+(s+v)≤a) (z:Bool)
    (top:(z=true→a+s*b0=r*a0∧b+u*a0=v*b0)∧(z=false→a+r*a0=s*b0∧b+v*b0=u*a0)) :
    ∃Y N,N≤Y∧(z=true→Y+s*B=r*A∧N+u*A=v*B)∧(z=false→Y+r*A=s*B∧N+v*B=u*A):=by
  have dA:∀k,k*A=k*a0*T+k*al:=by intro k; rw[hA,Nat.mul_add,Nat.mul_assoc]
  have dB:∀k,k*B=k*b0*T+k*be:=by intro k; rw[hB,Nat.mul_add,Nat.mul_assoc]
  have e1:b*T+(s+v)*T≤a*T:=by rw[←Nat.add_mul]; exact Nat.mul_le_mul_right _ hab
  have e2:v*T≤b*T:=Nat.mul_le_mul_right _ hb;have e3:u*T≤v*T:=Nat.mul_le_mul_right _ hu;have e4:(r+u)*T≤(s+v)*T:=Nat.mul_le_mul_right _ hru;rw[Nat.add_mul]at e1 e4;rw[Nat.add_mul]at e4;have l1:s*be≤s*T:=mul_le_T (by omega);have l2:v*be≤v*T:=mul_le_T (by omega);have l3:r*al≤r*T:=mul_le_T (by omega);have l4:u*al≤u*T:=mul_le_T (by omega);cases z with
  | true =>
    obtain⟨t1,t2⟩:=top.1 rfl;have f1:a*T+s*b0*T=r*a0*T:=(by rw[←Nat.add_mul,t1]);have f2:b*T+u*a0*T=v*b0*T:=(by rw[←Nat.add_mul,t2]);refine⟨r*A-s*B,v*B-u*A,?_,fun _=>?_,fun h=>by cases h⟩
    · rw[dA,dB,dA,dB]; omega
    · rw[dA,dB,dA,dB]; omega
  | false =>
    obtain⟨t1,t2⟩:=top.2 rfl;have f1:a*T+r*a0*T=s*b0*T:=(by rw[←Nat.add_mul,t1]);have f2:b*T+v*b0*T=u*a0*T:=(by rw[←Nat.add_mul,t2]);refine⟨s*B-r*A,u*A-v*B,?_,fun h=>(by cases h),fun _=>?_⟩
    · rw[dA,dB,dA,dB]; omega
    · rw[dA,dB,dA,dB]; omega

theorem sure_bounds{A B a0 b0 a b p q r s u v:Nat}{z:Bool}(h:Sure A B a0 b0 a b p q r s u v z)(hb:v≤b)(ha:a0<18446744073709551616):
    v<4294967296∧s<4294967296:=by
  have h1:v*v≤a*v:=Nat.mul_le_mul_right _ (Nat.le_trans hb h.le);have h2:=h.ga;have h3:v<4294967296:=by
    apply Classical.byContradiction;intro hn;have:4294967296*4294967296≤v*v:=Nat.mul_le_mul (by omega) (by omega);omega
  have:=h.sv;omega

theorem sure_step{A B T a0 b0 al be a b p q r s u v:Nat}{z:Bool}(hA:A=a0*T+al)(hB:B=b0*T+be)(hal:al<T)(hbe:be<T)(hBA:B≤A)
    (ha:a0<18446744073709551616) (hb0:b0≤a0)
    (h:Sure A B a0 b0 a b p q r s u v z) (hb:v≤b) (hab:b+(s+v)≤a) :
    Sure A B a0 b0 b (a%b) r s u v (r+a / b*u) (s+a / b*v) (!z)∧s+a / b*v<18446744073709551616∧r+a / b*u<18446744073709551616:=by
  have hv1:=h.v1;have hbp:0<b:=by omega
  have hq1:1≤a / b:=(Nat.le_div_iff_mul_le hbp).2 (by have:=h.le; omega);have hdm:=Nat.div_add_mod a b;have hmod:=Nat.mod_lt a hbp;obtain⟨Y,N,hNY,y1,y2⟩:=next_pair hA hB hal hbe h.uv h.ru hb hab z h.top;obtain⟨Q,hQ⟩:∃Q,a / b=Q:=⟨_,rfl⟩;obtain⟨R,hR⟩:∃R,a%b=R:=⟨_,rfl⟩;rw[hQ]at hq1 hdm ⊢;rw[hR]at hdm hmod ⊢;have ga:b*(s+Q*v)+R*v=a0:=by
    have:=h.ga;rw[←this,←hdm,Nat.add_mul,Nat.mul_add,Nat.mul_assoc];omega
  have gb:b*(r+Q*u)+R*u=b0:=by
    have:=h.gb;rw[←this,←hdm,Nat.add_mul,Nat.mul_add,Nat.mul_assoc];omega
  have b1:1*(s+Q*v)≤b*(s+Q*v):=Nat.mul_le_mul_right _ hbp;have b2:1*(r+Q*u)≤b*(r+Q*u):=Nat.mul_le_mul_right _ hbp;obtain⟨m,hm⟩:∃m,Q=m+1:=⟨Q-1,by omega⟩;have m1:Q*v=m*v+v:=by rw[hm,Nat.succ_mul]
  have m2:Q*u=m*u+u:=by rw[hm,Nat.succ_mul]
  have m3:m*u≤m*v:=Nat.mul_le_mul_left _ h.uv;have huv:=h.uv;have hru:=h.ru;refine⟨⟨by omega,ga,gb,by omega,by omega,by omega,by omega,?_,?_⟩,by omega,by omega⟩
  · have d:∀k c d:Nat,(c+Q*d)*k=c*k+Q*(d*k):=(by intro k c d; rw[Nat.add_mul,Nat.mul_assoc]);constructor
    · intro hz;have hz':z=false:=by cases z<;>simp_all
      obtain⟨t1,t2⟩:=h.top.2 hz';refine⟨t2,?_⟩;have t3:Q*b+Q*(v*b0)=Q*(u*a0):=(by rw[←Nat.mul_add,t2]);rw[d,d];have e:b*Q=Q*b:=Nat.mul_comm _ _;omega
    · intro hz;have hz':z=true:=by cases z<;>simp_all
      obtain⟨t1,t2⟩:=h.top.1 hz';refine⟨t2,?_⟩;have t3:Q*b+Q*(u*a0)=Q*(v*b0):=(by rw[←Nat.mul_add,t2]);rw[d,d];have e:b*Q=Q*b:=Nat.mul_comm _ _;omega
  · right;refine⟨Y,N,Q,hq1,rfl,rfl,hNY,?_⟩;rcases h.big with⟨rfl,rfl,rfl,rfl,rfl,rfl,rfl⟩ | ⟨X,Y',t,ht,rfl,rfl,hYX,hXA,hg,hp,hs⟩
    · obtain⟨e1,e2⟩:=y1 rfl;have eY:Y=A:=(by omega);have eN:N=B:=(by omega);subst eY eN;exact⟨Nat.le_refl _,rfl,⟨fun h=>(by cases h),fun _=>⟨e1,e2⟩⟩,.inl rfl⟩
    · have d:∀k c d:Nat,(c+t*d)*k=c*k+t*(d*k):=(by intro k c d; rw[Nat.add_mul,Nat.mul_assoc]);have eY:Y=Y':=by
        cases z with
        | true =>
          have h1:=(y1 rfl).1;have h2:=(hp.1 rfl).2;omega
        | false =>
          have h1:=(y2 rfl).1;have h2:=(hp.2 rfl).2;omega
      subst eY;have eN:N+t*Y=X:=by
        cases z with
        | true =>
          have h1:=(y1 rfl).2;obtain⟨h2,h3⟩:=hp.1 rfl;have h4:t*Y+t*(s*B)=t*(r*A):=(by rw[←Nat.mul_add,h3]);rw[d,d]at h1;omega
        | false =>
          have h1:=(y2 rfl).2;obtain⟨h2,h3⟩:=hp.2 rfl;have h4:t*Y+t*(r*A)=t*(s*B):=(by rw[←Nat.mul_add,h3]);rw[d,d]at h1;omega
      have hty:1*Y≤t*Y:=Nat.mul_le_mul_right _ ht;refine⟨by omega,?_,?_,.inr (by omega)⟩
      · rw[←hg,←eN,Nat.gcd_add_mul_right_left,Nat.gcd_comm]
      · constructor
        · intro hz;have hz':z=false:=by cases z<;>simp_all
          exact y2 hz'
        · intro hz;have hz':z=true:=by cases z<;>simp_all
          exact y1 hz'

def Steps(A B p q r s:Nat):Prop:=
  q=0∨∃X Y z,Y≤X∧X≤A∧Nat.gcd X Y=Nat.gcd A B∧Pair A B p q r s X Y z∧X+Y≤A
theorem sure_end{A B a0 b0 a b p q r s u v:Nat}{z:Bool}(h:Sure A B a0 b0 a b p q r s u v z):Steps A B p q r s:=by
  rcases h.big with⟨_,rfl,_⟩ | ⟨X,Y,t,ht,_,_,hYX,hXA,hg,hp,hs⟩
  · exact .inl rfl
  · rcases hs with h | h
    · exact .inl h
    · exact .inr ⟨X,Y,z,hYX,hXA,hg,hp,h⟩

def dist(x y:Nat):Nat:=(x-y)+(y-x)
theorem dist_ge{x y:Nat}(h:y≤x):dist x y=x-y:=by unfold dist; omega
theorem dist_lt{x y:Nat}(h:x<y):dist x y=y-x:=by unfold dist; omega
theorem pair_dist{A B p q r s X Y:Nat}{z:Bool}(h:Pair A B p q r s X Y z):dist (p*A) (q*B)=X∧dist (r*A) (s*B)=Y:=by
  unfold dist;cases z with
  | true => have := h.1 rfl; omega
  | false => have := h.2 rfl; omega

theorem odd_cop{n:Nat}(h:n%2=1)(k:Nat):Nat.Coprime (2^k) n:=by
  apply Nat.Coprime.pow_left;unfold Nat.Coprime;rw[Nat.gcd_rec,h];decide
theorem gcd_odd_left{m n k:Nat}(h:n%2=1):Nat.gcd (m*2^k) n=Nat.gcd m n:=by
  rw[Nat.mul_comm];exact Nat.Coprime.gcd_mul_left_cancel m (odd_cop h k)
theorem gcd_odd_right{m n k:Nat}(h:m%2=1):Nat.gcd m (n*2^k)=Nat.gcd m n:=by
  rw[Nat.gcd_comm,gcd_odd_left h,Nat.gcd_comm]
theorem odd_part{x k:Nat}(h0:x%2^k=0):x / 2^k*2^k=x:=Nat.div_mul_cancel (Nat.dvd_of_mod_eq_zero h0)
theorem gcd_twos{x y k i j:Nat}(hx:x%2^i=0)(hy:y%2^j=0)(hi:k≤i)(hj:k≤j)(hk:i=k∨j=k)(ox:x / 2^i%2=1)(oy:y / 2^j%2=1):
    Nat.gcd x y=Nat.gcd (x / 2^i) (y / 2^j)*2^k:=by
  have e1:=odd_part hx;have e2:=odd_part hy;have f1:x=2^k*(x / 2^i*2^(i-k)):=by
    rw[Nat.mul_left_comm,←Nat.pow_add,show k+(i-k)=i by omega,e1]
  have f2:y=2^k*(y / 2^j*2^(j-k)):=by
    rw[Nat.mul_left_comm,←Nat.pow_add,show k+(j-k)=j by omega,e2]
  generalize x / 2^i=m at *
  generalize y / 2^j=n at *
  rw[f1,f2,Nat.gcd_mul_left,Nat.mul_comm]
  congr 1
  rcases hk with h | h
  · rw[h,Nat.sub_self,Nat.pow_zero,Nat.mul_one,gcd_odd_right ox]
  · rw[h,Nat.sub_self,Nat.pow_zero,Nat.mul_one,gcd_odd_left oy]
theorem gcd_less{x y k:Nat}(h:y≤x)(oy:y%2=1)(hk:(x-y)%2^k=0):Nat.gcd ((x-y) / 2^k) y=Nat.gcd x y:=by
  have e:=odd_part hk;rw[←gcd_odd_left (k:=k) oy,e,Nat.gcd_sub_self_left h]
theorem mod_two_succ{x i:Nat}(h:x%2^i=0)(hb:x / 2^i%2=0):x%2^(i+1)=0:=by
  rw[Nat.pow_succ,Nat.mod_mul,h,hb,Nat.mul_zero]
theorem low_bound{x i:Nat}(h:x%2^i=0)(h0:x≠0):2^i≤x:=Nat.le_of_dvd (by omega) (Nat.dvd_of_mod_eq_zero h)
end Go.Proofs.YtgjohjfehgdgbaaGreatDoor
