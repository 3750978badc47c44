/- NatN -/
import Derived.Test.YtgjohjfehgdgbaaGreatDoorNatH
import Derived.Test.YtgjohjfehgdgbaaGreatDoorShelf
import Derived.Test.YtgjohjfehgdgbaaGreatDoorBitLen
import Derived.Test.YtgjohjfehgdgbaaGreatDoorBits
namespace Go.Proofs.YtgjohjfehgdgbaaGreatDoor
open Go.RowKit
set_option linter.unusedVariables false
set_option linter.unusedSimpArgs false

theorem len32_any(x:Nat)(w:World)(h:x<4294967296):Calls Tryz.prog 184 #[.int .u32 (x:Int)] w fun e w'=>e=.returned (.int .i64 ((bl x:Nat):Int))∧w'=w:=by
  refine(Tryz.bits_Len32 (x:Int) w (by omega) (by omega)).mono ?_;rintro e w' ⟨rfl,rfl⟩;rw[Int.toNat_natCast,bitLen_bl x (by omega)];exact⟨rfl,rfl⟩

set_option maxHeartbeats 1000000 in
set_option maxRecDepth 1000000 in
theorem bit_any{w:World}{ao:Option Addr}{x:Nat}(cap k:Nat)(h:Rd w ao (words x))(hk:k≤10000000):
    Calls Tryz.prog 127 #[.slice ao (words x).length cap,.int .i64 (k:Int)] w fun e w'=>e=.returned (.int .u32 ((x / 2^k%2:Nat):Int))∧w'=w:=by
  have c1:=rword_any cap (k / 32) h;have hd:=(words_dig x).getD (k / 32);have HE:Hid _:=bit_word x k;rw[words_getD]at c1 hd;generalize x / pw (k / 32)%4294967296=d at *
  have e1:bits BinOp.and IntKind.u32 ((d:Int) / 2^(k%32)%4294967296) 1=((x / 2^k%2:Nat):Int):=by
    have e2:(d:Int) / 2^(k%32)%4294967296=((d / 2^(k%32)%4294967296:Nat):Int):=by
      rw[Int.natCast_emod,Int.natCast_ediv,Int.natCast_pow]; rfl
    rw[e2,show(1:Int)=((1:Nat):Int)from rfl,and_u32 _ _ (Nat.mod_lt _ (by omega)) (by omega),and_one,←HE.out]
    congr 1
    generalize d / 2^(k%32)=z;omega
  have HE1:Hid _:=e1;clear e1 h
  go_enter Tryz.func127,Tryz.ntmps127
  go_wp2_with fail
  refine c1.mono ?_;rintro e w' ⟨rfl,rfl⟩
  go_wp2
  go_ret
  exact⟨retI HE1.out,rfl⟩

set_option maxHeartbeats 1000000 in
set_option maxRecDepth 1000000 in
theorem size_any{w:World}{ao:Option Addr}{x:Nat}(cap:Nat)(h:Rd w ao (words x))(hl:(words x).length≤100000):
    Calls Tryz.prog 130 #[.slice ao (words x).length cap] w fun e w'=>e=.returned (.int .i64 ((bl x:Nat):Int))∧w'=w:=by
  have HW:Hid (x<2^(32*(words x).length)):=by have:=words_lt x; rw[pw_two]at this; exact this
  have c0:=fun(j:Nat) (hj:j≤10000000)=>bit_any cap j h hj;obtain⟨n,HN⟩:∃n,Hid ((words x).length=n):=⟨_,rfl⟩;rw[HN.out]at hl c0 HW ⊢;have HC:Hid _:=c0;clear c0 h
  go_enter Tryz.func130,Tryz.ntmps130
  go_wp2
  go_loopw [3] (fun v wr=>wr=w∧∃k:Nat,k≤32*n∧v=.int .i64 (k:Int)∧x<2^k) (fun v _=>(intOf v).toNat)
  case atStart=>exact⟨rfl,32*n,Nat.le_refl _,by go_num,HW.out⟩
  case round=>
    obtain⟨rfl,k,hk,rfl,hv⟩:=hrel;have HV:Hid _:=hv;clear hv;by_cases h0:k=0
    · subst h0;have hb:bl x=0:=by
        have:=HV.out;rw[Nat.pow_zero]at this;have e:x=0:=(by omega);rw[e];rfl
      have HB:Hid _:=hb;clear hb
      go_wp2
      go_ret
      exact⟨retI (by rw[HB.out]),rfl⟩
    · obtain⟨j,rfl⟩:∃j,k=j+1:=⟨k-1,by omega⟩;have c1:=HC.out j (by omega);have HD:Hid _:=bit_down HV.out;have hlt:x / 2^j%2<2:=Nat.mod_lt _ (by omega);obtain⟨d,hd⟩:∃d,x / 2^j%2=d:=⟨_,rfl⟩;rw[hd]at c1 HD hlt;clear hd;have e1:(((j+1:Nat):Int)-1)=(j:Int):=(by omega);have h1:(0:Int)<((j+1:Nat):Int):=(by omega);by_cases hd0:d=0
      · subst hd0
        go_wp2_with fail
        try simp only[e1]
        refine c1.mono ?_;rintro e w' ⟨rfl,rfl⟩
        go_wp2
        go_roundw
        case rel=>exact⟨trivial,j,by omega,by go_num,HD.out.1 (by trivial)⟩
        case measure=>simp only[intOf]; omega
      · have e3:((d:Int)==0)=false:=(by simp; omega);have e4:bl x=j+1:=HD.out.2 hd0;have HE4:Hid _:=e4;clear e4
        go_wp2_with fail
        try simp only[e1]
        refine c1.mono ?_;rintro e w' ⟨rfl,rfl⟩
        go_wp2
        go_ret
        exact⟨retI (by rw[HE4.out]; rfl),rfl⟩

set_option maxHeartbeats 1000000 in
set_option maxRecDepth 1000000 in
theorem wbits_any{w:World}{ao:Option Addr}{x:Nat}(cap:Nat)(h:Rd w ao (words x))(hl:(words x).length≤1000000):
    Calls Tryz.prog 171 #[.slice ao (words x).length cap] w fun e w'=>e=.returned (.int .i64 ((bl x:Nat):Int))∧w'=w:=by
  by_cases h0:(words x).length=0
  · have hx:x=0:=words_eq_nil.1 (List.length_eq_zero_iff.1 h0);subst hx;have hb:bl 0=0:=rfl;rw[hb];rw[h0];clear h hl h0 hb
    go_enter Tryz.func171,Tryz.ntmps171
    go_wp2
    go_ret
    exact⟨rfl,rfl⟩
  · obtain⟨b,off,rfl,hc⟩:=last_cell h h0;have hbl:=bl_words (x:=x) (fun e=>h0 (by rw[e,words_zero]; rfl));have hx:=(words_dig x).getD ((words x).length-1);generalize (words x).getD ((words x).length-1) 0=d at *
    have c2:=len32_any d w hx;rw[hbl];have hbd:bl d≤32:=bl_le.2 hx;generalize bl d=q at *
    generalize (words x).length=n at *
    have h1:((n:Int)==0)=false:=(by simp; omega);clear hbl h
    go_enter Tryz.func171,Tryz.ntmps171
    go_wp2_with fail
    refine c2.mono ?_;rintro e w' ⟨rfl,rfl⟩
    go_wp2
    go_ret
    exact⟨retI (by omega),rfl⟩

theorem Own.lit2(w:World)(x y:Nat)(hx:x<4294967296)(hy:y<4294967296):Own w.heap.size (w.alloc (.cells #[.int .u32 (x:Int),.int .u32 (y:Int)] 99)) (some ⟨w.heap.size,0,none⟩) 2 [x,y]:=
  ⟨by simp[Dig]; omega,World.ownsRow_lit (e:=99) (size:=1) w #[.int .u32 (x:Int),.int .u32 (y:Int)] 2 (Nat.le_refl _) (by unfold maxLen; omega) rfl⟩

set_option maxHeartbeats 1000000 in
set_option maxRecDepth 1000000 in
theorem wof_any(n:Nat)(w:World)(hn:n<18446744073709551616):
    Calls Tryz.prog 111 #[.int .u64 (n:Int)] w (Row1 w (words n)):=by
  have ho:=Own.lit2 w (n%4294967296) (n / 4294967296) (Nat.mod_lt _ (by omega)) (by omega);have hv:val [n%4294967296,n / 4294967296]=n:=by simp[val]; omega
  have c1:=trim_any ho (by simp);rw[hv]at c1;have HB:Hid (Below w.heap.size w (w.alloc (.cells #[.int .u32 ((n%4294967296:Nat):Int),.int .u32 ((n / 4294967296:Nat):Int)] 99))):=(Below.refl _ _).alloc (Nat.le_refl _) _;have HC:Hid _:=c1;clear ho hv c1
  go_enter Tryz.func111,Tryz.ntmps111
  go_wp2_with fail
  refine Calls.mono HC.out ?_;rintro e w' ⟨rfl,ho,rfl⟩;have HO:Hid _:=ho;clear ho
  go_wp2
  go_ret
  exact⟨_,_,rfl,HO.out,HB.out⟩

set_option maxHeartbeats 1000000 in
set_option maxRecDepth 1000000 in
theorem of_any(n:Nat)(w:World)(hn:n<18446744073709551616):
    Calls Tryz.prog 80 #[.int .u64 (n:Int)] w (Row1 w (words n)):=by
  have HC:Hid _:=wof_any n w hn
  go_enter Tryz.func80,Tryz.ntmps80
  go_wp2_with fail
  refine Calls.mono HC.out ?_;rintro e w' ⟨ro,rc,rfl,ho,hb⟩;have HO:Hid _:=ho;have HB:Hid _:=hb;clear ho hb
  go_wp2
  go_ret
  exact⟨_,_,rfl,HO.out,HB.out⟩

end Go.Proofs.YtgjohjfehgdgbaaGreatDoor
