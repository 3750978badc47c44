/- BitLen -/
import Derived.Lib.BitFns
import Derived.Test.YtgjohjfehgdgbaaGreatDoorWords
namespace Go.Proofs.YtgjohjfehgdgbaaGreatDoor
set_option linter.unusedVariables false
set_option linter.unusedSimpArgs false

def bl(x:Nat):Nat:=if x=0 then 0 else x.log2+1
theorem bl_le{x n:Nat}:bl x≤n↔x<2^n:=by
  unfold bl;by_cases h:x=0
  · subst h;simp[Nat.pow_pos]
  · rw[if_neg h];have:=Nat.log2_lt (k:=n) h;omega
theorem lt_bl(x:Nat):x<2^bl x:=bl_le.1 (Nat.le_refl _)
theorem bl_ge{x:Nat}(h:x≠0):2^(bl x-1)≤x:=by
  apply Classical.byContradiction;intro h1;have h2:=bl_le.2 (Nat.lt_of_not_le h1);have h3:bl x≠0:=by unfold bl; rw[if_neg h]; omega
  omega
theorem bl_eq{x n:Nat}(h1:2^n≤x)(h2:x<2^(n+1)):bl x=n+1:=by
  have a:=bl_le.2 h2;have b:¬bl x≤n:=fun h=>by have:=bl_le.1 h; omega
  omega
theorem bl_pos{x:Nat}(h:x≠0):bl x≠0:=by unfold bl; rw[if_neg h]; omega
theorem bl_shift{x k:Nat}(h:x / 2^k≠0):bl x=k+bl (x / 2^k):=by
  have p:0<2^k:=Nat.pow_pos (by omega);have h1:=lt_bl (x / 2^k);have h2:=bl_ge h;have h3:=bl_pos h;have e:k+bl (x / 2^k)=(k+bl (x / 2^k)-1)+1:=by omega
  rw[e];apply bl_eq
  · have e2:k+bl (x / 2^k)-1=(bl (x / 2^k)-1)+k:=(by omega);rw[e2,Nat.pow_add];exact(Nat.le_div_iff_mul_le p).1 h2
  · rw[←e,Nat.add_comm,Nat.pow_add];exact(Nat.div_lt_iff_lt_mul p).1 h1
theorem bl_half{x:Nat}(h:x≠0):bl x=1+bl (x / 2):=by
  by_cases h1:x / 2=0
  · have:x=1:=(by omega);subst this;decide
  · have:=bl_shift (x:=x) (k:=1) (by simpa using h1);simpa using this
theorem bitLen_bl(x:Nat)(h:x<18446744073709551616):Lib.bitLen x=bl x:=by
  induction x using Nat.strongRecOn with
  | _ x ih =>
    by_cases h0:x=0
    · subst h0; rfl
    · rw[Lib.bitLen_half x h0 h,bl_half h0,ih (x / 2) (by omega) (by omega)]
theorem bit_low{x a b:Nat}(hb:b<32):(x / 2^a%4294967296) / 2^b%2=x / 2^(a+b)%2:=by
  have e:x / 2^(a+b)=x / 2^a / 2^b:=by rw[Nat.pow_add,Nat.div_div_eq_div_mul]
  rw[e];generalize x / 2^a=y;have h1:(y%2^32).testBit b=y.testBit b:=by rw[Nat.testBit_mod_two_pow]; simp[hb]
  simp only[Nat.testBit_eq_decide_div_mod_eq]at h1;have h2:y%4294967296=y%2^32:=rfl;rw[h2];have h3:=decide_eq_decide.1 h1;generalize y%2^32 / 2^b=p at *
  generalize y / 2^b=q at *
  omega
theorem bit_word(x k:Nat):x / pw (k / 32)%4294967296 / 2^(k%32)%2=x / 2^k%2:=by
  rw[pw_two,bit_low (Nat.mod_lt _ (by omega)),show 32*(k / 32)+k%32=k by omega]
theorem bit_down{x j:Nat}(h:x<2^(j+1)):(x / 2^j%2=0→x<2^j)∧(x / 2^j%2≠0→bl x=j+1):=by
  have p:0<2^j:=Nat.pow_pos (by omega);have h1:x / 2^j<2:=by
    rw[Nat.div_lt_iff_lt_mul p,←Nat.pow_succ'];exact h
  have h2:x / 2^j=0→x<2^j:=(Nat.div_eq_zero_iff_lt p).1;have h3:1≤x / 2^j→1*2^j≤x:=(Nat.le_div_iff_mul_le p).1;have h4:2^j≤x→bl x=j+1:=fun h5=>bl_eq h5 h;generalize x / 2^j=z at *
  rw[Nat.one_mul]at h3;exact⟨fun h0=>h2 (by omega),fun h0=>h4 (h3 (by omega))⟩
theorem bl_words{x:Nat}(h:x≠0):bl x=((words x).length-1)*32+bl ((words x).getD ((words x).length-1) 0):=by
  have h1:=words_lt x;have h2:=words_ge h;have hl:(words x).length≠0:=fun e=>h (words_eq_nil.1 (List.length_eq_zero_iff.1 e));obtain⟨m,hm⟩:∃m,(words x).length=m+1:=⟨_,(Nat.succ_pred_eq_of_pos (by omega)).symm⟩;rw[hm]at h1 h2 ⊢;simp only[Nat.add_sub_cancel]at h2 ⊢;have hp:=pw_pos m;have e1:x / pw m<4294967296:=by
    rw[Nat.div_lt_iff_lt_mul hp,←pw_succ];exact h1
  rw[words_getD,Nat.mod_eq_of_lt e1];have e2:x / pw m≠0:=by
    have:1≤x / pw m:=(Nat.le_div_iff_mul_le hp).2 (by omega);omega
  rw[pw_two]at e2 ⊢;rw[bl_shift e2];omega
end Go.Proofs.YtgjohjfehgdgbaaGreatDoor
