/- Bits -/
import Derived.Laws.Entries
import Derived.WalkKit
namespace Go.Proofs.YtgjohjfehgdgbaaGreatDoor
set_option linter.unusedVariables false
set_option linter.unusedSimpArgs false

theorem wrap_u32(x:Nat)(h:x<4294967296):IntKind.u32.wrap (x:Int)=x:=by
  simp[IntKind.wrap,IntKind.bits,IntKind.signed];omega
theorem wrap_u64(x:Nat)(h:x<18446744073709551616):IntKind.u64.wrap (x:Int)=x:=by
  simp[IntKind.wrap,IntKind.bits,IntKind.signed];omega
theorem and_u32(x y:Nat)(hx:x<4294967296)(hy:y<4294967296):bits .and .u32 (x:Int) (y:Int)=((x &&& y:Nat):Int):=by
  have h1:x &&& y<4294967296:=Nat.lt_of_le_of_lt Nat.and_le_left hx;have e:(BitVec.ofInt IntKind.u32.bits (x:Int) &&& BitVec.ofInt IntKind.u32.bits (y:Int)).toNat=x &&& y:=by
    rw[BitVec.ofInt_natCast,BitVec.ofInt_natCast,BitVec.toNat_and,BitVec.toNat_ofNat,BitVec.toNat_ofNat];show x%4294967296 &&& y%4294967296=_;rw[Nat.mod_eq_of_lt hx,Nat.mod_eq_of_lt hy]
  show IntKind.u32.wrap ((BitVec.ofInt IntKind.u32.bits (x:Int) &&& BitVec.ofInt IntKind.u32.bits (y:Int)).toNat:Int)=_;rw[e,wrap_u32 _ h1]
theorem or_u32(x y:Nat)(hx:x<4294967296)(hy:y<4294967296):bits .or .u32 (x:Int) (y:Int)=((x ||| y:Nat):Int):=by
  have h1:x ||| y<4294967296:=Nat.or_lt_two_pow (n:=32) hx hy;have e:(BitVec.ofInt IntKind.u32.bits (x:Int) ||| BitVec.ofInt IntKind.u32.bits (y:Int)).toNat=x ||| y:=by
    rw[BitVec.ofInt_natCast,BitVec.ofInt_natCast,BitVec.toNat_or,BitVec.toNat_ofNat,BitVec.toNat_ofNat];show x%4294967296 ||| y%4294967296=_;rw[Nat.mod_eq_of_lt hx,Nat.mod_eq_of_lt hy]
  show IntKind.u32.wrap ((BitVec.ofInt IntKind.u32.bits (x:Int) ||| BitVec.ofInt IntKind.u32.bits (y:Int)).toNat:Int)=_;rw[e,wrap_u32 _ h1]
theorem xor_u32(x y:Nat)(hx:x<4294967296)(hy:y<4294967296):bits .xor .u32 (x:Int) (y:Int)=((x ^^^ y:Nat):Int):=by
  have h1:x ^^^ y<4294967296:=Nat.xor_lt_two_pow (n:=32) hx hy;have e:(BitVec.ofInt IntKind.u32.bits (x:Int) ^^^ BitVec.ofInt IntKind.u32.bits (y:Int)).toNat=x ^^^ y:=by
    rw[BitVec.ofInt_natCast,BitVec.ofInt_natCast,BitVec.toNat_xor,BitVec.toNat_ofNat,BitVec.toNat_ofNat];show x%4294967296 ^^^ y%4294967296=_;rw[Nat.mod_eq_of_lt hx,Nat.mod_eq_of_lt hy]
  show IntKind.u32.wrap ((BitVec.ofInt IntKind.u32.bits (x:Int) ^^^ BitVec.ofInt IntKind.u32.bits (y:Int)).toNat:Int)=_;rw[e,wrap_u32 _ h1]
theorem or_u64(x y:Nat)(hx:x<18446744073709551616)(hy:y<18446744073709551616):bits .or .u64 (x:Int) (y:Int)=((x ||| y:Nat):Int):=by
  have h1:x ||| y<18446744073709551616:=Nat.or_lt_two_pow (n:=64) hx hy;have e:(BitVec.ofInt IntKind.u64.bits (x:Int) ||| BitVec.ofInt IntKind.u64.bits (y:Int)).toNat=x ||| y:=by
    rw[BitVec.ofInt_natCast,BitVec.ofInt_natCast,BitVec.toNat_or,BitVec.toNat_ofNat,BitVec.toNat_ofNat];show x%18446744073709551616 ||| y%18446744073709551616=_;rw[Nat.mod_eq_of_lt hx,Nat.mod_eq_of_lt hy]
  show IntKind.u64.wrap ((BitVec.ofInt IntKind.u64.bits (x:Int) ||| BitVec.ofInt IntKind.u64.bits (y:Int)).toNat:Int)=_;rw[e,wrap_u64 _ h1]
theorem or_add(hi lo k:Nat)(h:lo<2^k):(hi*2^k) ||| lo=hi*2^k+lo:=by
  rw[Nat.mul_comm];exact(Nat.two_pow_add_eq_or_of_lt h hi).symm
theorem and_one(x:Nat):x &&& 1=x%2:=Nat.and_one_is_mod x

theorem sub_borrow(x y c d:Nat)(hx:x<4294967296)(hy:y<4294967296)(hc:c≤1)(hd:d=(x+8589934592-y-c)%4294967296):
    (((4294967295 ^^^ x) &&& y) ||| ((4294967295 ^^^ (x ^^^ y)) &&& d)) / 2147483648=if x<y+c then 1 else 0:=by
  have e31:2147483648=2^31:=rfl;rw[e31,Nat.or_div_two_pow,Nat.and_div_two_pow,Nat.and_div_two_pow,Nat.xor_div_two_pow,Nat.xor_div_two_pow,Nat.xor_div_two_pow];have hX:x / 2^31=0∨x / 2^31=1:=by omega
  have hY:y / 2^31=0∨y / 2^31=1:=by omega
  have hD:d / 2^31=0∨d / 2^31=1:=by omega
  have e1:4294967295 / 2^31=1:=rfl;rw[e1];rcases hX with a | a<;>rcases hY with b | b<;>rcases hD with e | e<;>rw[a,b,e]<;>by_cases g:x<y+c<;>simp[g]<;>omega
end Go.Proofs.YtgjohjfehgdgbaaGreatDoor
