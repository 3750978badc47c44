/- NatU -/
import Derived.Test.YtgjohjfehgdgbaaGreatDoorNatT
import Derived.Test.YtgjohjfehgdgbaaGreatDoorNatN
import Derived.Test.YtgjohjfehgdgbaaGreatDoorCopy
import Derived.Lib.SliceRun
namespace Go.Proofs.YtgjohjfehgdgbaaGreatDoor
open Go.RowKit
set_option linter.unusedVariables false
set_option linter.unusedSimpArgs false

set_option maxHeartbeats 1000000 in
set_option maxRecDepth 1000000 in
theorem div32_any(h l y:Nat)(w:World)(hh:h<y)(hl:l<4294967296)(hy:y<4294967296):
    Calls Tryz.prog 183 #[.int .u32 (h:Int),.int .u32 (l:Int),.int .u32 (y:Int)] w fun e w'=>e=.returned (.tuple #[.int .u32 (((h*4294967296+l) / y:Nat):Int),.int .u32 (((h*4294967296+l)%y:Nat):Int)])∧Below w.heap.size w w':=by
  have hor:=or_u64 (h*4294967296) l (by omega) (by omega);rw[or_two h l hl]at hor;obtain⟨N,hN⟩:∃N,h*4294967296+l=N:=⟨_,rfl⟩;rw[hN]at hor ⊢;simp only[Int.natCast_mul,Int.cast_ofNat_Int]at hor;have hNb:N<4294967296*y:=by omega
  have hNm:N≤18446744073709551615:=by omega
  have hq:N / y<4294967296:=Nat.div_lt_of_lt_mul (by rw[Nat.mul_comm]; exact hNb);have hr:N%y<4294967296:=by have:=Nat.mod_lt N (show 0<y by omega); omega
  have w1:IntKind.u64.wrap ((h:Int)*4294967296)=(h:Int)*4294967296:=by
    have:=wrap_u64 (h*4294967296) (by omega);simpa using this
  have w2:IntKind.u64.wrap ((N:Int) / (y:Int))=((N / y:Nat):Int):=by
    rw[←Int.natCast_ediv];exact wrap_u64 _ (by omega)
  have w3:IntKind.u32.wrap ((N / y:Nat):Int)=((N / y:Nat):Int):=wrap_u32 _ hq;have w4:IntKind.u32.wrap ((N:Int)%(y:Int))=((N%y:Nat):Int):=by
    rw[←Int.natCast_emod];exact wrap_u32 _ hr
  have t1:((y:Int)==0)=false:=by simp; omega
  have t2:(y:Int)≠0:=by omega
  have t3:(1:Int)≤(y:Int):=by omega
  have t4:¬((y:Int)≤(h:Int)):=by omega
  have eq1:(N:Int) / (y:Int)=((N / y:Nat):Int):=by rw[Int.natCast_ediv]
  have eq2:(N:Int)%(y:Int)=((N%y:Nat):Int):=by rw[Int.natCast_emod]
  have HR:Hid _:=eq2;have HQ:Hid (IntKind.u64.wrap ((N:Int) / (y:Int))%4294967296=((N / y:Nat):Int)):=by
    show IntKind.u64.wrap ((N:Int) / (y:Int))%4294967296=((N / y:Nat):Int);rw[w2];generalize N / y=z at *
    omega
  clear hN eq1 eq2 w2 w3 w4
  go_enter Tryz.func183,Tryz.ntmps183
  go_wp2
  try simp only[hor]
  go_region
  all_goals go_wp2
  all_goals go_ret2
  all_goals (refine⟨?_,by(repeat apply Below.drew); exact Below.refl _ _⟩; rw[←HQ.out,←HR.out]; rfl)

theorem val_drop_at(l:List Nat)(p:Nat)(hp:p<l.length):val (l.drop p)=l.getD p 0+4294967296*val (l.drop (p+1)):=by
  rw[List.drop_eq_getElem_cons hp,val_cons];simp[hp]
theorem set_drop_at(l:List Nat)(p d:Nat)(hp:p<l.length):val ((l.set p d).drop p)=d+4294967296*val (l.drop (p+1)):=by
  rw[val_drop_at _ _ (by rw[List.length_set]; exact hp),getD_set_eq _ _ _ hp,List.drop_set_of_lt (by omega)]
theorem byWord_step{V V' k left t:Nat}(h:V'*k+left=V):((left*4294967296+t) / k+4294967296*V')*k+(left*4294967296+t)%k=t+4294967296*V:=by
  have e:=Nat.div_add_mod (left*4294967296+t) k;rw[Nat.mul_comm k]at e;rw[Nat.add_mul,Nat.mul_assoc,←h,Nat.mul_add];omega

set_option maxHeartbeats 1000000 in
set_option maxRecDepth 1000000 in
theorem divideByWord_any{w:World}{ao:Option Addr}{x k:Nat}(ca:Nat)(ha:Rd w ao (words x))(hn0:(words x).length≤1000000)(hk0:0<k)(hk:k<4294967296):
    Calls Tryz.prog 164 #[.slice ao (words x).length ca,.int .u32 (k:Int)] w fun e w'=>∃ro rc,e=.returned (.tuple #[.slice ro (words (x / k)).length rc,.int .u32 ((x%k:Nat):Int)])∧Own w.heap.size w' ro rc (words (x / k))∧Below w.heap.size w w':=by
  obtain⟨n,HL0⟩:∃n,Hid ((words x).length=n):=⟨_,rfl⟩;rw[HL0.out]at hn0 ⊢;have hmk:=run_make_row' (P:=Tryz.prog) 22 99 (.int .u32 0) 4 Tryz.underlying22 infoU rfl .i64 .i64 n (by omega) (by omega);have HA:Hid _:=ha;clear ha
  go_enter Tryz.func164,Tryz.ntmps164
  go_wp2
  go_loopw [5,13] (fun v5 v10 wr=>∃(i left:Nat) (L':List Nat),i≤n∧v10=.int .i64 (i:Int)∧v5=.int .u32 (left:Int)∧left<k∧L'.length=n∧Own w.heap.size wr (some ⟨w.heap.size,0,none⟩) n L'∧Below w.heap.size w wr∧val (L'.drop (n-i))*k+left=val ((words x).drop (n-i))) (fun _ v10 _=>n-(intOf v10).toNat)
  case atStart=>
    refine⟨0,0,List.replicate n 0,Nat.zero_le _,rfl,rfl,hk0,by simp,Own.made w n (by omega),(Below.refl _ w).alloc (Nat.le_refl _) _,?_⟩;rw[List.drop_of_length_le (by simp),List.drop_of_length_le (by rw[HL0.out]; omega)];simp[val]
  case round=>
    obtain⟨i,left,L',hi,rfl,rfl,hleft,hL',hown,hbw,hval⟩:=hrel;have HV:Hid _:=hval;have HL:Hid _:=hL';clear hval hL';by_cases hin:i<n
    · have e0:n-i=(n-1-i)+1:=(by omega);have ha':=HA.out.below hbw;obtain⟨b1,o1,hao,hb1,hc1⟩:=ha'.pos (by intro e; have:=HL0.out; rw[e]at this; simp at this; omega);have k1:=hc1 (n-1-i) (by rw[HL0.out]; omega);have d1:=(words_dig x).getD (n-1-i);have hst:∀t,(words x).getD (n-1-i) 0=t→val ((L'.set (n-1-i) ((left*4294967296+t) / k)).drop (n-1-i))*k+(left*4294967296+t)%k=val ((words x).drop (n-1-i)):=by
        intro t ht;rw[set_drop_at _ _ _ (by rw[HL.out]; omega),val_drop_at (words x) _ (by rw[HL0.out]; omega),ht];apply byWord_step;rw[←e0];exact HV.out
      obtain⟨t,ht⟩:∃t,(words x).getD (n-1-i) 0=t:=⟨_,rfl⟩;have HS:Hid _:=hst t ht;rw[ht]at k1 d1;clear hst ht hc1 ha';have HC:Hid _:=div32_any left t k wr hleft d1 hk;have hqb:(left*4294967296+t) / k<4294967296:=Nat.div_lt_of_lt_mul (by
        have:(left+1)*4294967296≤k*4294967296:=Nat.mul_le_mul_right _ hleft;omega)
      have hmb:(left*4294967296+t)%k<k:=Nat.mod_lt _ hk0;obtain⟨qd,hqd⟩:∃q,(left*4294967296+t) / k=q:=⟨_,rfl⟩;obtain⟨rd,hrd⟩:∃q,(left*4294967296+t)%k=q:=⟨_,rfl⟩;rw[hqd,hrd]at HC HS;rw[hqd]at hqb;rw[hrd]at hmb;clear hqd hrd;have t1:((n:Int)-1-i).toNat=n-1-i:=(by omega);have HO:Hid _:=hown;have HB:Hid _:=hbw;subst hao;clear hown hbw
      go_wp2_with fail
      refine Calls.mono HC.out ?_;rintro e w1 ⟨rfl,b1⟩;have hown1:=HO.out.below b1;have k3:=hown1.cell (n-1-i) (by rw[HL.out]; omega);have k4:=hown1.frozen (n-1-i);have HSet:Hid _:=hown1.set (n-1-i) qd hqb;have HB1:Hid _:=(HB.out.trans (b1.mono HB.out.size)).setCell (p:=⟨w.heap.size,n-1-i,none⟩) (Nat.le_refl _) (.int .u32 (qd:Int));clear b1 hown1 HC k1
      go_wp2
      go_roundw
      case rel=>
        refine⟨i+1,rd,L'.set (n-1-i) qd,by omega,by go_num,rfl,hmb,by rw[List.length_set]; exact HL.out,HSet.out,HB1.out,?_⟩;rw[show n-(i+1)=n-1-i by omega];exact HS.out
      case measure=>simp only[intOf]; omega
    · have e:i=n:=(by omega);subst e;have hval:val L'=x / k∧left=x%k:=by
        have h1:=HV.out;rw[Nat.sub_self,List.drop_zero,List.drop_zero,val_words]at h1;have h2:=Nat.div_mod_unique (a:=x) (b:=k) (c:=left) (d:=val L') hk0;have h3:=h2.2 ⟨by rw[Nat.mul_comm]; omega,hleft⟩;exact⟨h3.1.symm,h3.2.symm⟩
      have c1:=trim_any hown (by rw[HL.out]; omega);rw[hval.1,HL.out]at c1;have HC:Hid _:=c1;have HB:Hid _:=hbw;have HE:Hid _:=hval.2;clear hval c1 hown hbw
      go_wp2_with fail
      refine Calls.mono HC.out ?_;rintro e w' ⟨rfl,ho,rfl⟩;have HO:Hid _:=ho;clear ho
      go_wp2
      go_ret2
      rw[←HE.out];exact⟨_,_,rfl,HO.out,HB.out⟩

set_option maxHeartbeats 1000000 in
set_option maxRecDepth 1000000 in
theorem clone_any{w:World}{ao:Option Addr}{l:List Nat}(ca:Nat)(ha:Rd w ao l)(hl:l.length≤1000000)(hnil:ao=none→ca=0):
    Calls Tryz.prog 148 #[.slice ao l.length ca] w (Row1 w l):=by
  obtain⟨n,HN⟩:∃n,Hid (l.length=n):=⟨_,rfl⟩;cases ao with
  | none =>
    have hl0:l=[]:=by
      apply Classical.byContradiction;intro hne;obtain⟨b,off,e,_⟩:=ha.pos hne;cases e
    subst hl0;have hc:=hnil rfl;subst hc;clear ha hl hnil HN;have heq:∀w,(binOp .eql 22 (.slice none 0 0) (.slice none 0 0)).run Tryz.prog w=.ok (.bool true) w:=fun w=>Lib.run_eql_slice_nil w 22 99 none 0 0 0 0 Tryz.underlying22
    go_enter Tryz.func148,Tryz.ntmps148
    go_wp2
    go_ret
    exact⟨none,0,rfl,Own.nil _ _,Below.refl _ _⟩
  | some ad =>
    rw[HN.out]at hl ⊢;have o1:(w.alloc (.cells #[] 99)).ownsRow w.heap.size 99 1 (.slice (some ⟨w.heap.size,0,none⟩) 0 0) 0 []:=World.ownsRow_made w #[] 0 (Nat.le_refl _) (by decide) rfl;have b1:Below w.heap.size w (w.alloc (.cells #[] 99)):=(Below.refl _ _).alloc (Nat.le_refl _) _;have z1:(w.alloc (.cells #[] 99)).heap.size=w.heap.size+1:=(by simp);have r1:=ha.below b1;have heq:∀w,(binOp .eql 22 (.slice (some ad) n ca) (.slice none 0 0)).run Tryz.prog w=.ok (.bool false) w:=fun w=>Lib.run_eql_slice_nil w 22 99 (some ad) n ca 0 0 Tryz.underlying22
    go_enter Tryz.func148,Tryz.ntmps148
    go_wp2_with (at_builtin; refine append_copy rfl (.tmp 5) (.tmp 6) rfl w.heap.size _ rfl o1 (by rw[z1]; omega) (some ad) n ca l rfl r1 HN.out (by simp) (by omega) ?_)
    intro xo xc wx ox gx;have HOX:Hid _:=ox;have HBX:Hid _:=grown_below b1 o1 gx (by rw[z1]; omega);clear o1 b1 z1 r1 ox gx
    go_wp2
    go_ret
    exact⟨xo,xc,by rw[HN.out]; rfl,HOX.out,HBX.out⟩

set_option maxHeartbeats 1000000 in
theorem leading_any(x:Nat)(w:World)(h:x<4294967296):Calls Tryz.prog 165 #[.int .u32 (x:Int)] w fun e w'=>e=.returned (.int .i64 ((32-bl x:Nat):Int))∧w'=w:=by
  have c1:=len32_any x w h;have hb:bl x≤32:=bl_le.2 h;generalize bl x=q at *
  go_enter Tryz.func165,Tryz.ntmps165
  go_wp2_with fail
  refine c1.mono ?_;rintro e w' ⟨rfl,rfl⟩
  go_wp2
  go_ret
  exact⟨retI (by omega),rfl⟩
end Go.Proofs.YtgjohjfehgdgbaaGreatDoor
