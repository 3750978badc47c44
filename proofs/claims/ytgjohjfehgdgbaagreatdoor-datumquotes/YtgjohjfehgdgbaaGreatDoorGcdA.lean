/- GcdA -/
import Derived.Test.YtgjohjfehgdgbaaGreatDoorNatZ
import Derived.Test.YtgjohjfehgdgbaaGreatDoorNatP
import Derived.Test.YtgjohjfehgdgbaaGreatDoorGcdMath
namespace Go.Proofs.YtgjohjfehgdgbaaGreatDoor
open Go.RowKit
set_option linter.unusedVariables false
set_option linter.unusedSimpArgs false

theorem window_math{y r d0 d1 d2:Nat}(hr:r<32)(h0:d0=y%4294967296)(h1:d1=y / 4294967296%4294967296)(h2:d2=y / 18446744073709551616%4294967296)(hy:y / 2^r<18446744073709551616):
    d2*2^(64-r)<18446744073709551616∧((d1*4294967296+d0) / 2^r ||| d2*2^(64-r))=y / 2^r:=by
  have p:0<2^r:=Nat.pow_pos (by omega);have e64:2^(64-r)*2^r=18446744073709551616:=by rw[←Nat.pow_add,show 64-r+r=64 by omega]
  have hr32:2^r≤2147483648:=by
    have:2^r≤2^31:=Nat.pow_le_pow_right (by omega) (by omega);exact this
  have hy2:y<18446744073709551616*2^r:=(Nat.div_lt_iff_lt_mul p).1 hy;have hq:y / 18446744073709551616<2^r:=by
    rw[Nat.div_lt_iff_lt_mul (by omega),Nat.mul_comm];exact hy2
  have e2:d2=y / 18446744073709551616:=by rw[h2]; omega
  have hlow:d1*4294967296+d0=y%18446744073709551616:=by omega
  have hsplit:y=d2*18446744073709551616+(d1*4294967296+d0):=by rw[e2,hlow]; omega
  obtain⟨low,hl⟩:∃low,d1*4294967296+d0=low:=⟨_,rfl⟩;rw[hl]at hsplit hlow ⊢;have hl64:low<18446744073709551616:=by omega
  have e3:y / 2^r=d2*2^(64-r)+low / 2^r:=by
    rw[hsplit,←e64,←Nat.mul_assoc,Nat.add_comm,Nat.add_mul_div_right _ _ p,Nat.add_comm]
  have hl2:low / 2^r<2^(64-r):=by
    rw[Nat.div_lt_iff_lt_mul p,e64];exact hl64
  have hlt:d2*2^(64-r)<18446744073709551616:=by
    rw[e3]at hy;exact Nat.lt_of_le_of_lt (Nat.le_add_right _ _) hy
  refine⟨hlt,?_⟩;rw[Nat.or_comm,or_add d2 _ (64-r) hl2,e3]

set_option maxHeartbeats 1000000 in
set_option maxRecDepth 1000000 in
theorem window_any{w:World}{ao:Option Addr}{x:Nat}(ca k:Nat)(ha:Rd w ao (words x))(hx:(words x).length≤100000)(hk:k≤10000000)(hw:x / 2^k<18446744073709551616):
    Calls Tryz.prog 173 #[.slice ao (words x).length ca,.int .i64 (k:Int)] w fun e w'=>e=.returned (.int .u64 ((x / 2^k:Nat):Int))∧Below w.heap.size w w':=by
  obtain⟨W,hW⟩:∃W,k / 32=W:=⟨_,rfl⟩;obtain⟨r,hr⟩:∃r,k%32=r:=⟨_,rfl⟩;have hr32:r<32:=by omega
  have hWk:W≤1000000:=by omega
  have e1:(k:Int) / 32=(W:Int):=by omega
  have e2:(k:Int)%32=(r:Int):=by omega
  have hxk:x / 2^k=x / pw W / 2^r:=by
    rw[Nat.div_div_eq_div_mul,pw_two,←Nat.pow_add]
    congr 2
    omega
  have c0:=wordAt_any ca W ha;have c1:=wordAt_any ca (W+1) ha;have c2:=wordAt_any ca (W+2) ha;have d0:=(words_dig x).getD W;have d1:=(words_dig x).getD (W+1);have d2:=(words_dig x).getD (W+2);rw[words_getD]at c0 c1 c2 d0 d1 d2;rw[pw_succ,Nat.mul_comm,←Nat.div_div_eq_div_mul]at c1 d1;rw[pw_succ,pw_succ,Nat.mul_comm 4294967296 (pw W),Nat.mul_comm,←Nat.div_div_eq_div_mul,←Nat.div_div_eq_div_mul,Nat.div_div_eq_div_mul _ 4294967296 4294967296]at c2 d2;rw[hxk]at hw ⊢;generalize x / pw W=y at *
  obtain⟨p0,q0⟩:∃p,p=y%4294967296:=⟨_,rfl⟩;obtain⟨p1,q1⟩:∃p,p=y / 4294967296%4294967296:=⟨_,rfl⟩;obtain⟨p2,q2⟩:∃p,p=y / (4294967296*4294967296)%4294967296:=⟨_,rfl⟩;rw[←q0]at c0 d0;rw[←q1]at c1 d1;rw[←q2]at c2 d2;obtain⟨m1,m2⟩:=window_math hr32 q0 q1 q2 hw;rw[←m2];simp only[Int.natCast_add,Int.cast_ofNat_Int]at c1 c2;obtain⟨n,HN⟩:∃n,Hid ((words x).length=n):=⟨_,rfl⟩;rw[HN.out]at c0 c1 c2 ⊢;have hor:=or_u64 (p1*4294967296) p0 (by omega) (by omega);rw[or_two p1 p0 d0]at hor;simp only[Int.natCast_mul,Int.cast_ofNat_Int]at hor;obtain⟨low,hl⟩:∃low,p1*4294967296+p0=low:=⟨_,rfl⟩;rw[hl]at hor ⊢;have hlow:low<18446744073709551616:=by omega
  have HC0:Hid _:=c0;have HC1:Hid _:=c1;have HC2:Hid _:=c2;have HF:Hid (bits BinOp.or IntKind.u64 ((low:Int) / 2^r) (IntKind.u64.wrap ((p2:Int)*2^(64-r)))=((low / 2^r ||| p2*2^(64-r):Nat):Int)):=by
    show bits BinOp.or IntKind.u64 ((low:Int) / 2^r) (IntKind.u64.wrap ((p2:Int)*2^(64-r)))=((low / 2^r ||| p2*2^(64-r):Nat):Int);have f1:(low:Int) / 2^r=((low / 2^r:Nat):Int):=(by rw[Int.natCast_ediv,Int.natCast_pow]; rfl);have f2:(p2:Int)*2^(64-r)=((p2*2^(64-r):Nat):Int):=(by rw[Int.natCast_mul,Int.natCast_pow]; rfl);rw[f1,f2,wrap_u64 _ m1,or_u64 _ _ (Nat.lt_of_le_of_lt (Nat.div_le_self _ _) hlow) m1]
  clear c0 c1 c2 q0 q1 q2 m2 hw hxk ha hW hr hl
  go_enter Tryz.func173,Tryz.ntmps173
  go_wp2_with fail
  refine Calls.mono HC1.out ?_;rintro e w' ⟨rfl,hw'⟩;have hw':=hw'.symm;subst hw'
  go_wp2_with fail
  refine Calls.mono HC0.out ?_;rintro e w' ⟨rfl,hw'⟩;have hw':=hw'.symm;subst hw'
  go_wp2_with fail
  refine Calls.mono HC2.out ?_;rintro e w' ⟨rfl,hw'⟩;have hw':=hw'.symm;subst hw';clear HC0 HC1 HC2
  go_wp2
  go_region
  all_goals go_wp2
  all_goals go_ret
  all_goals (refine⟨?_,by(repeat apply Below.drew); exact Below.refl _ _⟩; rw[←HF.out]; rfl)

set_option maxHeartbeats 1000000 in
set_option maxRecDepth 1000000 in
theorem short_any{w:World}{ao:Option Addr}{x:Nat}(ca:Nat)(ha:Rd w ao (words x))(hx:(words x).length≤2):
    Calls Tryz.prog 149 #[.slice ao (words x).length ca] w fun e w'=>e=.returned (.int .u64 (x:Int))∧w'=w:=by
  have c0:=wordAt_any ca 0 ha;have c1:=wordAt_any ca 1 ha;have d0:=(words_dig x).getD 0;have d1:=(words_dig x).getD 1;have hxl:=words_length_iff.1 hx;rw[words_getD]at c0 c1 d0 d1;rw[pw_zero,Nat.div_one]at c0 d0;rw[show pw 1=4294967296 from rfl]at c1 d1;rw[show pw 2=18446744073709551616 from rfl]at hxl;have e:x=x / 4294967296%4294967296*4294967296+x%4294967296:=by omega
  obtain⟨p0,q0⟩:∃p,x%4294967296=p:=⟨_,rfl⟩;obtain⟨p1,q1⟩:∃p,x / 4294967296%4294967296=p:=⟨_,rfl⟩;rw[q0]at c0 d0 e;rw[q1]at c1 d1 e;obtain⟨n,HN⟩:∃n,Hid ((words x).length=n):=⟨_,rfl⟩;rw[HN.out]at c0 c1 ⊢;have hor:=or_u64 (p1*4294967296) p0 (by omega) (by omega);rw[or_two p1 p0 d0,←e]at hor;simp only[Int.natCast_mul,Int.cast_ofNat_Int]at hor;simp only[Int.cast_ofNat_Int]at c0 c1;have HC0:Hid _:=c0;have HC1:Hid _:=c1;clear c0 c1 q0 q1 e ha hx
  go_enter Tryz.func149,Tryz.ntmps149
  go_wp2_with fail
  refine Calls.mono HC1.out ?_;rintro e w' ⟨rfl,hw'⟩;have hw':=hw'.symm;subst hw'
  go_wp2_with fail
  refine Calls.mono HC0.out ?_;rintro e w' ⟨rfl,hw'⟩;have hw':=hw'.symm;subst hw';clear HC0 HC1
  go_wp2
  go_ret
  exact⟨rfl,rfl⟩
end Go.Proofs.YtgjohjfehgdgbaaGreatDoor
