/- TxtA -/
import Derived.Test.YtmnlfahgklnpeaaGreatDoorDigMath
import Derived.Test.YtmnlfahgklnpeaaGreatDoorByteMem
import Derived.Test.YtmnlfahgklnpeaaGreatDoorNatC
namespace Go.Proofs.YtmnlfahgklnpeaaGreatDoor
open Go.RowKit
set_option linter.unusedVariables false
set_option linter.unusedSimpArgs false

theorem pow_word{r s:Nat}(hr:2≤r)(h:r^s<4294967296):s<32:=by
  apply Classical.byContradiction;intro hn;have h1:2^32≤2^s:=Nat.pow_le_pow_right (by omega) (by omega);have h2:2^s≤r^s:=Nat.pow_le_pow_left hr s;omega

set_option maxHeartbeats 1000000 in
set_option maxRecDepth 1000000 in
theorem group_any(r:Nat)(w:World)(hr:2≤r)(hr2:r≤36):
    Calls Tryz.prog 341 #[.int .u32 (r:Int)] w fun e w'=>∃s P:Nat,e=.returned (.tuple #[.int .i64 (s:Int),.int .u32 (P:Int)])∧P=r^s∧1≤s∧P<4294967296∧w'=w:=by
  have hq:4294967295 / r*r≤4294967295:=Nat.div_mul_le_self _ _;have hq1:1≤4294967295 / r:=(Nat.le_div_iff_mul_le (by omega)).2 (by omega);have t1:(4294967295:Int) / (r:Int)=((4294967295 / r:Nat):Int):=by rw[Int.natCast_ediv]; rfl
  have t2:((r:Int)==0)=false:=by simp; omega
  obtain⟨q,hqq⟩:∃q,4294967295 / r=q:=⟨_,rfl⟩;rw[hqq]at hq hq1 t1;clear hqq
  go_enter Tryz.func341,Tryz.ntmps341
  go_wp2
  go_loopw [2,3] (fun v2 v3 wr=>wr=w∧∃s P:Nat,v2=.int .i64 (s:Int)∧v3=.int .u32 (P:Int)∧P=r^s∧P<4294967296∧(s=0∨1≤s)) (fun _ v3 _=>4294967296-(intOf v3).toNat)
  case atStart=>exact⟨rfl,0,1,rfl,rfl,by rw[Nat.pow_zero],by omega,.inl rfl⟩
  case round=>
    obtain⟨hw,s,P,rfl,rfl,hP,hp,hs⟩:=hrel;have hw:=hw.symm;subst hw;have hs32:=pow_word hr (by rw[←hP]; exact hp);have hpos:0<P:=(by rw[hP]; exact Nat.pow_pos (by omega));have HS:Hid (r^(s+1)=P*r):=(by rw[hP]; exact Nat.pow_succ r s);have H0:Hid (s=0→P=1):=fun e=>(by rw[hP,e,Nat.pow_zero]);have HP:Hid _:=hP;clear hP;by_cases hle:P≤q
    · have hm:P*r≤q*r:=Nat.mul_le_mul_right _ hle;have hmI:(P:Int)*(r:Int)=((P*r:Nat):Int):=(by rw[Int.natCast_mul]);have hgt:P*2≤P*r:=Nat.mul_le_mul_left _ hr;obtain⟨M,hM⟩:∃M,P*r=M:=⟨_,rfl⟩;rw[hM]at hm hmI HS hgt;clear hM
      go_wp2
      go_roundw
      case rel=>exact⟨trivial,s+1,M,by go_num,rfl,HS.out.symm,by omega,.inr (by omega)⟩
      case measure=>simp only[intOf]; omega
    · have h1:1≤s:=by
        rcases hs with h | h
        · have:=H0.out h;omega
        · exact h
      go_wp2
      go_ret2
      exact⟨s,P,rfl,HP.out,h1,hp,rfl⟩

set_option maxHeartbeats 1000000 in
theorem isRadix_any(r:Int)(w:World):
    Calls Tryz.prog 332 #[.int .i64 r] w fun e w'=>e=.returned (.bool (decide (2≤r∧r≤36)))∧w'=w:=by
  by_cases h1:2≤r
  · by_cases h2:r≤36
    · have e:decide (2≤r∧r≤36)=true:=(by simp[h1,h2]);rw[e]
      go_enter Tryz.func332,Tryz.ntmps332
      go_wp2
      go_ret
      exact⟨rfl,rfl⟩
    · have e:decide (2≤r∧r≤36)=false:=(by simp[h2]);rw[e]
      go_enter Tryz.func332,Tryz.ntmps332
      go_wp2
      go_ret
      exact⟨rfl,rfl⟩
  · have e:decide (2≤r∧r≤36)=false:=(by simp[h1]);rw[e]
    go_enter Tryz.func332,Tryz.ntmps332
    go_wp2
    go_ret
    exact⟨rfl,rfl⟩

set_option maxHeartbeats 1000000 in
theorem digit_any(d:Nat)(w:World)(h:d<36):
    Calls Tryz.prog 253 #[.int .u32 (d:Int)] w fun e w'=>e=.returned (.int .u8 ((dch d:Nat):Int))∧w'=w:=by
  unfold dch;by_cases h1:d<10
  · rw[if_pos h1]
    go_enter Tryz.func253,Tryz.ntmps253
    go_wp2
    go_ret
    exact⟨retI (by omega),rfl⟩
  · rw[if_neg h1]
    go_enter Tryz.func253,Tryz.ntmps253
    go_wp2
    go_ret
    exact⟨retI (by omega),rfl⟩

