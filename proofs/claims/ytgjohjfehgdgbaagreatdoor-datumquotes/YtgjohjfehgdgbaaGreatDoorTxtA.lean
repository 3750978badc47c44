/- TxtA -/
import Derived.Test.YtgjohjfehgdgbaaGreatDoorDigMath
import Derived.Test.YtgjohjfehgdgbaaGreatDoorByteMem
import Derived.Test.YtgjohjfehgdgbaaGreatDoorNatC
namespace Go.Proofs.YtgjohjfehgdgbaaGreatDoor
open Go.RowKit
set_option linter.unusedVariables false
set_option linter.unusedSimpArgs false

theorem pow_word{r s:Nat}(hr:2≤r)(h:r^s<4294967296):s<32:=by
  apply Classical.byContradiction;intro hn;have h1:2^32≤2^s:=Nat.pow_le_pow_right (by omega) (by omega);have h2:2^s≤r^s:=Nat.pow_le_pow_left hr s;omega

set_option maxHeartbeats 1000000 in
set_option maxRecDepth 1000000 in
theorem group_any(r:Nat)(w:World)(hr:2≤r)(hr2:r≤36):
    Calls Tryz.prog 193 #[.int .u32 (r:Int)] w fun e w'=>∃s P:Nat,e=.returned (.tuple #[.int .i64 (s:Int),.int .u32 (P:Int)])∧P=r^s∧1≤s∧P<4294967296∧w'=w:=by
  have hq:4294967295 / r*r≤4294967295:=Nat.div_mul_le_self _ _;have hq1:1≤4294967295 / r:=(Nat.le_div_iff_mul_le (by omega)).2 (by omega);have t1:(4294967295:Int) / (r:Int)=((4294967295 / r:Nat):Int):=by rw[Int.natCast_ediv]; rfl
  have t2:((r:Int)==0)=false:=by simp; omega
  obtain⟨q,hqq⟩:∃q,4294967295 / r=q:=⟨_,rfl⟩;rw[hqq]at hq hq1 t1;clear hqq
  go_enter Tryz.func193,Tryz.ntmps193
  go_wp2
  go_loopw [2,3] (fun v2 v3 wr=>wr=w∧∃s P:Nat,v2=.int .i64 (s:Int)∧v3=.int .u32 (P:Int)∧P=r^s∧P<4294967296∧(s=0∨1≤s)) (fun _ v3 _=>4294967296-(intOf v3).toNat)
  case atStart=>exact⟨rfl,0,1,rfl,rfl,by rw[Nat.pow_zero],by omega,.inl rfl⟩
  case round=>
    obtain⟨hw,s,P,rfl,rfl,hP,hp,hs⟩:=hrel;have hw:=hw.symm;subst hw;have hs32:=pow_word hr (by rw[←hP]; exact hp);have hpos:0<P:=(by rw[hP]; exact Nat.pow_pos (by omega));have HS:Hid (r^(s+1)=P*r):=(by rw[hP]; exact Nat.pow_succ r s);have H0:Hid (s=0→P=1):=fun e=>(by rw[hP,e,Nat.pow_zero]);have HP:Hid _:=hP;clear hP;by_cases hle:P≤q
    · have hm:P*r≤q*r:=Nat.mul_le_mul_right _ hle;have hmI:(P:Int)*(r:Int)=((P*r:Nat):Int):=(by rw[Int.natCast_mul]);have hgt:P*2≤P*r:=Nat.mul_le_mul_left _ hr;obtain⟨M,hM⟩:∃M,P*r=M:=⟨_,rfl⟩;rw[hM]at hm hmI HS hgt;clear hM
      go_wp2
      go_roundw
      case rel=>exact⟨trivial,s+1,M,by go_num,rfl,HS.out.symm,by omega,.inr (by omega)⟩
      case measure=>simp only[intOf]; omega
    · have h1:1≤s:=by
        rcases hs with h | h
        · have:=H0.out h;omega
        · exact h
      go_wp2
      go_ret2
      exact⟨s,P,rfl,HP.out,h1,hp,rfl⟩

set_option maxHeartbeats 1000000 in
set_option maxRecDepth 1000000 in
theorem digitValue_any(b:Nat)(w:World)(hb:b<256):
    Calls Tryz.prog 192 #[.int .u8 (b:Int)] w fun e w'=>e=.returned (.int .i64 ((dvn 36 b:Nat):Int))∧w'=w:=by
  unfold dvn;by_cases h1:48≤b∧b≤57
  · rw[if_pos h1];obtain⟨h1,h2⟩:=h1
    go_enter Tryz.func192,Tryz.ntmps192
    go_wp2
    go_ret
    exact⟨retI (by omega),rfl⟩
  · rw[if_neg h1];have h1':b<48∨57<b:=(by omega);clear h1;by_cases h2:97≤b∧b≤122
    · rw[if_pos h2];obtain⟨h3,h4⟩:=h2;have h5:57<b:=(by omega);clear h1'
      go_enter Tryz.func192,Tryz.ntmps192
      go_wp2
      go_ret
      exact⟨retI (by omega),rfl⟩
    · rw[if_neg h2];have h2':b<97∨122<b:=(by omega);clear h2;by_cases h3:65≤b∧b≤90
      · rw[if_pos h3];obtain⟨h4,h5⟩:=h3;have h6:57<b:=(by omega);have h7:b<97:=(by omega);clear h1' h2'
        go_enter Tryz.func192,Tryz.ntmps192
        go_wp2
        go_ret
        exact⟨retI (by omega),rfl⟩
      · rw[if_neg h3];have h3':b<65∨90<b:=(by omega);clear h3;have hc:b<48∨(57<b∧b<65)∨(90<b∧b<97)∨122<b:=(by omega);clear h1' h2' h3';rcases hc with h | ⟨h,h'⟩ | ⟨h,h'⟩ | h;all_goals
          go_enter Tryz.func192,Tryz.ntmps192
          go_wp2
          go_ret
          exact⟨rfl,rfl⟩

set_option maxHeartbeats 1000000 in
theorem isRadix_any(r:Int)(w:World):
    Calls Tryz.prog 180 #[.int .i64 r] w fun e w'=>e=.returned (.bool (decide (2≤r∧r≤36)))∧w'=w:=by
  by_cases h1:2≤r
  · by_cases h2:r≤36
    · have e:decide (2≤r∧r≤36)=true:=(by simp[h1,h2]);rw[e]
      go_enter Tryz.func180,Tryz.ntmps180
      go_wp2
      go_ret
      exact⟨rfl,rfl⟩
    · have e:decide (2≤r∧r≤36)=false:=(by simp[h2]);rw[e]
      go_enter Tryz.func180,Tryz.ntmps180
      go_wp2
      go_ret
      exact⟨rfl,rfl⟩
  · have e:decide (2≤r∧r≤36)=false:=(by simp[h1]);rw[e]
    go_enter Tryz.func180,Tryz.ntmps180
    go_wp2
    go_ret
    exact⟨rfl,rfl⟩

def byteAt(s:ByteArray)(i:Nat):Nat:=(s.data.toList.map UInt8.toNat).getD i 0
theorem byteAt_lt(s:ByteArray)(i:Nat):byteAt s i<256:=by
  unfold byteAt;simp only[List.getD_eq_getElem?_getD,List.getElem?_map];cases s.data.toList[i]? with
  | none => simp
  | some x => simpa using x.toNat_lt
def numeralS(r:Nat)(s:ByteArray):Bool:=decide (s.size≠0)&&(List.range s.size).all (fun i=>decide (dvn 36 (byteAt s i)<r))
theorem numeralS_iff(r:Nat)(s:ByteArray):numeralS r s=true↔s.size≠0∧∀i,i<s.size→dvn 36 (byteAt s i)<r:=by
  unfold numeralS;simp only[Bool.and_eq_true,decide_eq_true_eq,List.all_eq_true,List.mem_range]
theorem byteAt_eq(s:ByteArray)(i:Nat)(h:i<s.size):byteAt s i=s[i].toNat:=by
  unfold byteAt;have h2:i<s.data.toList.length:=by rw[Array.length_toList]; exact h
  simp only[List.getD_eq_getElem?_getD,List.getElem?_map,List.getElem?_eq_getElem h2,Option.map_some,Option.getD_some];rfl

set_option maxHeartbeats 1000000 in
set_option maxRecDepth 1000000 in
theorem isNumeral_any(s:ByteArray)(r:Nat)(w:World)(hr:2≤r)(hr2:r≤36)(hs:s.size≤9223372036854775807):
    Calls Tryz.prog 181 #[.string s,.int .i64 (r:Int)] w fun e w'=>e=.returned (.bool (numeralS r s))∧w'=w:=by
  have HZ:Hid _:=numeralS_iff r s;obtain⟨z,hz⟩:∃z,numeralS r s=z:=⟨_,rfl⟩;rw[hz]at HZ ⊢;clear hz
  go_enter Tryz.func181,Tryz.ntmps181
  go_wp2
  go_loopw [8] (fun v wr=>wr=w∧∃i:Nat,v=.int .i64 (i:Int)∧i≤s.size∧∀j,j<i→dvn 36 (byteAt s j)<r) (fun v _=>s.size-(intOf v).toNat)
  case atStart=>exact⟨rfl,0,rfl,by omega,fun j hj=>by omega⟩
  case round=>
    obtain⟨hw,i,rfl,hi,hall⟩:=hrel;have hw:=hw.symm;subst hw;have HALL:Hid _:=hall;clear hall;by_cases hin:i<s.size
    · have hbe:=byteAt_eq s i hin;have hlt:=byteAt_lt s i;rw[hbe]at hlt;have c1:=digitValue_any s[i].toNat w hlt;have HBE:Hid _:=hbe;obtain⟨V,hV⟩:∃V,dvn 36 s[i].toNat=V:=⟨_,rfl⟩;have hV36:V≤36:=(by rw[←hV]; exact dvn_le _);rw[hV]at c1;have HV:Hid _:=hV;have HC1:Hid _:=c1;clear c1 hV hbe hlt;by_cases hge:r≤V
      · have hzf:z=false:=by
          cases z with
          | false => rfl
          | true =>
            have h1:=(HZ.out.1 rfl).2 i hin;rw[HBE.out,HV.out]at h1;omega
        subst hzf
        go_wp2_with fail
        refine Calls.mono HC1.out ?_;rintro e w' ⟨rfl,hw'⟩;have hw':=hw'.symm;subst hw'
        go_wp2
        go_ret
        exact⟨rfl,rfl⟩
      · go_wp2_with fail
        refine Calls.mono HC1.out ?_;rintro e w' ⟨rfl,hw'⟩;have hw':=hw'.symm;subst hw'
        go_wp2
        go_roundw
        case rel=>
          refine⟨trivial,i+1,by go_num,by omega,fun j hj=>?_⟩;by_cases e:j=i
          · rw[e,HBE.out,HV.out];omega
          · exact HALL.out j (by omega)
        case measure=>simp only[intOf]; omega
    · have e:i=s.size:=(by omega);by_cases h0:s=ByteArray.empty
      · have hzf:z=false:=by
          cases z with
          | false => rfl
          | true =>
            have h1:=(HZ.out.1 rfl).1;rw[h0]at h1;exact absurd rfl h1
        subst hzf h0;clear e
        go_wp2
        go_ret
        exact⟨rfl,rfl⟩
      · have hzt:z=true:=HZ.out.2 ⟨by
          intro h1;apply h0;have h2:s.data.size=0:=h1;have h3:s.data=#[]:=Array.eq_empty_of_size_eq_zero h2;cases s
          simp only at h3;subst h3;rfl,fun j hj=>HALL.out j (by omega)⟩
        subst hzt;clear e;have hE:s.toList.isEmpty=false:=by
          rw[←decide_eq_emptyBytes];simpa using h0
        go_wp2
        go_ret
        exact⟨rfl,rfl⟩
end Go.Proofs.YtgjohjfehgdgbaaGreatDoor
