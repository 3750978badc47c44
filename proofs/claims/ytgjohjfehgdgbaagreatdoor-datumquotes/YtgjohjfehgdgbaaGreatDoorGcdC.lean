/- GcdC -/
import Derived.Test.YtgjohjfehgdgbaaGreatDoorGcdB
import Derived.Test.YtgjohjfehgdgbaaGreatDoorNatK
import Derived.Deep.RegionHeld
import Derived.BigRegion
import Derived.Deep.Cut
import Derived.Deep.CutRange
import Derived.Deep.DeepCutAuto
namespace Go.Proofs.YtgjohjfehgdgbaaGreatDoor
open Go.RowKit
set_option linter.unusedVariables false
set_option linter.unusedSimpArgs false

theorem Four.below{w w':World}{g p q r s:Nat}(h:Four w g p q r s)(hb:Below w.heap.size w w'):Four w' g p q r s:=by
  have hg:g<w.heap.size:=cell_lt h.c0;have e:∀i,w'.cell? ⟨g,i,none⟩=w.cell? ⟨g,i,none⟩:=fun i=>hb.cell (p:=⟨g,i,none⟩) hg;have e2:∀i,w'.frozen? ⟨g,i,none⟩=w.frozen? ⟨g,i,none⟩:=fun i=>by
    have:=hb.block g hg;simp only[World.frozen?,this]
  exact⟨(e 0).trans h.c0,(e 1).trans h.c1,(e 2).trans h.c2,(e 3).trans h.c3,(e2 0).trans h.f0,(e2 1).trans h.f1,(e2 2).trans h.f2,(e2 3).trans h.f3⟩

def Later(A B X Y:Nat):Prop:=Nat.gcd X Y=Nat.gcd A B∧Y≤X∧X≤A∧X+Y<A+B

theorem bits_big{x:Nat}(h:2<(words x).length):64<bl x:=by
  apply Classical.byContradiction;intro h1;have h2:=bl_le.1 (Nat.le_of_not_lt h1);have h3:(words x).length≤2:=words_length_iff.2 (by rw[pw_two]; exact h2);omega
theorem top64{A:Nat}(h:64<bl A):A / 2^(bl A-64)<18446744073709551616:=by
  have h1:=lt_bl A;rw[Nat.div_lt_iff_lt_mul (Nat.pow_pos (by omega))];have:(18446744073709551616:Nat)=2^64:=rfl;rw[this,←Nat.pow_add,show 64+(bl A-64)=bl A by omega];exact h1

theorem word2{p:Nat}(h:p<18446744073709551616):(words p).length≤2:=words_length_le (by rw[show pw 2=18446744073709551616 from rfl]; exact h)

set_option maxHeartbeats 8000000 in
set_option maxRecDepth 1000000 in
theorem laterPair_any{w:World}{ao bo:Option Addr}{A B:Nat}(ca cb:Nat)(ha:Rd w ao (words A))(hb:Rd w bo (words B))(hx:(words A).length≤80000)(hBA:B≤A)(h2:2<(words B).length)(hna:ao=none→ca=0)(hnb:bo=none→cb=0):
    Calls Tryz.prog 147 #[.slice ao (words A).length ca,.slice bo (words B).length cb] w fun e w'=>∃X Y xo xc yo yc,e=.returned (.tuple #[.slice xo (words X).length xc,.slice yo (words Y).length yc])∧Later A B X Y∧Rd w' xo (words X)∧Rd w' yo (words Y)∧(xo=none→xc=0)∧(yo=none→yc=0)∧Below w.heap.size w w':=by
  have hAB:=words_mono hBA;have hB0:B≠0:=fun e=>by rw[e,words_zero]at h2; simp at h2
  have hbA:=bits_big (show 2<(words A).length by omega);have hblA:=bl_len hx;have c1:=wbits_any ca ha (by omega);obtain⟨k,hk⟩:∃k,bl A-64=k:=⟨_,rfl⟩;have hwA:=top64 hbA;rw[hk]at hwA;have hwB:B / 2^k≤A / 2^k:=Nat.div_le_div_right hBA;have c2:=window_any ca k ha (by omega) (by omega) hwA;have hkI:(bl A:Int)-64=(k:Int):=by omega
  obtain⟨n,HN⟩:∃n,Hid ((words A).length=n):=⟨_,rfl⟩;obtain⟨m,HM⟩:∃n,Hid ((words B).length=n):=⟨_,rfl⟩;obtain⟨bx,hbx⟩:∃b,bl A=b:=⟨_,rfl⟩;rw[HN.out]at c1 c2;rw[hbx]at c1 hkI hblA;have HEA:Hid (A=A / 2^k*2^k+A%2^k):=by
    show A=A / 2^k*2^k+A%2^k;have:=Nat.div_add_mod A (2^k);rw[Nat.mul_comm]at this;omega
  have HEB:Hid (B=B / 2^k*2^k+B%2^k):=by
    show B=B / 2^k*2^k+B%2^k;have:=Nat.div_add_mod B (2^k);rw[Nat.mul_comm]at this;omega
  have HPK:Hid (A%2^k<2^k∧B%2^k<2^k):=⟨Nat.mod_lt _ (Nat.pow_pos (by omega)),Nat.mod_lt _ (Nat.pow_pos (by omega))⟩;obtain⟨a0,ha0⟩:∃a,A / 2^k=a:=⟨_,rfl⟩;obtain⟨b0,hb0⟩:∃b,B / 2^k=b:=⟨_,rfl⟩;have HB0:Hid (B / 2^k=b0):=hb0;rw[ha0]at c2 hwA hwB HEA;rw[hb0]at hwB HEB;have HA:Hid _:=ha;have HRB:Hid _:=hb;have HBA:Hid _:=hBA;have HX:Hid _:=hx;have HBN:Hid _:=hB0;have HNA:Hid _:=hna;have HNB:Hid _:=hnb;have HC1:Hid _:=c1;have HC2:Hid _:=c2;have hk1:k≤10000000:=by omega
  rw[HN.out]at hx;rw[HN.out,HM.out]at hAB;rw[HM.out]at h2;rw[HN.out,HM.out];clear ha hb hBA hB0 hna hnb c1 c2 ha0 hb0 hbx hbA hk
  go_enter Tryz.func147,Tryz.ntmps147
  go_wp2_with fail
  refine Calls.mono HC1.out ?_;rintro e w' ⟨rfl,hw'⟩;have hw':=hw'.symm;subst hw';clear HC1
  go_wp2_with fail
  refine Calls.mono HC2.out ?_;rintro e w1 ⟨rfl,b1⟩;have c3:=window_any cb k (HRB.out.below b1) (by rw[HM.out]; omega) hk1 (by rw[HB0.out]; omega);rw[HB0.out,HM.out]at c3;have HC3:Hid _:=c3;have HB1:Hid _:=b1;clear c3 b1 HC2
  go_wp2_with fail
  refine Calls.mono HC3.out ?_;rintro e w2 ⟨rfl,b2⟩;have HB2:Hid _:=chain2 HB1.out b2;have HC4:Hid _:=sureSteps_any w2 HEA.out HEB.out HPK.out.1 HPK.out.2 HBA.out hwA hwB;clear b2 HC3
  go_wp2_with fail
  refine Calls.mono HC4.out ?_;rintro e w3 ⟨p,q,r,s,rfl,⟨lp,lq,lr,ls⟩,hst,b3⟩;have HB3:Hid _:=chain2 HB2.out b3;have HST:Hid _:=hst;clear b3 hst HC4;by_cases hq:q=0
  · subst hq;have hb4:Below w.heap.size w (w3.alloc (.cells #[.int .u64 (p:Int),.int .u64 (0:Int),.int .u64 (r:Int),.int .u64 (s:Int)] 179)):=HB3.out.alloc HB3.out.size _;have c5:=divide_any ca cb (HA.out.below hb4) (HRB.out.below hb4) (by rw[HN.out]; omega) (by rw[HM.out]; omega) HNA.out HBN.out;rw[HN.out,HM.out]at c5;have HC5:Hid _:=c5;have HB4:Hid _:=hb4;clear c5 hb4
    go_wp2_with fail
    refine Calls.mono HC5.out ?_;rintro e w5 ⟨qo,qc,ro,rc,rfl,oq,or,b5⟩;have HOR:Hid _:=or;have HB5:Hid _:=chain2 HB4.out b5;clear oq or b5 HC5
    go_wp2
    go_ret2
    refine⟨B,A%B,bo,cb,ro,rc,by rw[HM.out]; rfl,⟨?_,?_,HBA.out,?_⟩,HRB.out.below HB5.out,HOR.out.rd,HNB.out,fun e=>by have h:=HOR.out; rw[e]at h; exact h.none_cap,HB5.out⟩
    · rw[Nat.gcd_comm A B,Nat.gcd_rec B A,Nat.gcd_comm]
    · exact Nat.le_of_lt (Nat.mod_lt _ (Nat.pos_of_ne_zero HBN.out))
    · have h1:=Nat.mod_lt A (Nat.pos_of_ne_zero HBN.out);have h2:=HBA.out;omega
  · have hq':((q:Int)==0)=false:=(by simp; omega);have HQ:Hid _:=hq;clear hq;have hF:=Four.new w3 p q r s 179;have hb4:Below w.heap.size w (w3.alloc (.cells #[.int .u64 (p:Int),.int .u64 (q:Int),.int .u64 (r:Int),.int .u64 (s:Int)] 179)):=HB3.out.alloc HB3.out.size _;have HRA4:Hid _:=HA.out.below hb4;have HRB4:Hid _:=HRB.out.below hb4;have HB4:Hid _:=hb4;have HF4:Hid _:=hF;have HSF:Hid (∀w',Four w' w3.heap.size p q r s→(fun w'=>w'.cell? ⟨w3.heap.size,0,none⟩=some (.int .u64 (p:Int))∧w'.cell? ⟨w3.heap.size,1,none⟩=some (.int .u64 (q:Int))∧w'.cell? ⟨w3.heap.size,2,none⟩=some (.int .u64 (r:Int))∧w'.cell? ⟨w3.heap.size,3,none⟩=some (.int .u64 (s:Int))) w'):=fun w' h=>⟨h.c0,h.c1,h.c2,h.c3⟩;dsimp only at HSF;have hS4:=HSF.out _ hF.drew;clear hF hb4
    go_wp2_with fail
    go_cut [4] (fun v4 wx=>∃xo xc,v4=.slice xo (words (dist (p*A) (q*B))).length xc∧Own w.heap.size wx xo xc (words (dist (p*A) (q*B)))∧Four wx w3.heap.size p q r s∧Below w.heap.size w wx)
    case first=>
      go_region_held (fun w'=>w'.cell? ⟨w3.heap.size,0,none⟩=some (.int .u64 (p:Int))∧w'.cell? ⟨w3.heap.size,1,none⟩=some (.int .u64 (q:Int))∧w'.cell? ⟨w3.heap.size,2,none⟩=some (.int .u64 (r:Int))∧w'.cell? ⟨w3.heap.size,3,none⟩=some (.int .u64 (s:Int))) (first | assumption | go_keep) (first
        | (go_at_call_of 111 (Value.int IntKind.u64 (p : Int)); refine Calls.mono (wof_any p _ lp) ?_; rintro e wax ⟨xo, xc, rfl, o1, b1⟩; have HO1x : Hid _ := o1; have HBax : Hid _ := b1; have HFax : Hid _ := HF4.out.drew.below b1; have hSax := HSF.out _ HFax.out; clear o1 b1)
        | (go_at_call_of 175 (Value.slice xo (words p).length xc); refine Calls.mono (by have h := product_any xc ca HO1x.out.rd (HRA4.out.drew.below HBax.out) (by have := word2 lp; omega) (by rw [HN.out]; omega); rw [HN.out] at h; exact h) ?_; rintro e wbx ⟨po, pc, rfl, o1, b1⟩; have HO2x : Hid _ := o1; have HBbx : Hid _ := b1; have HFbx : Hid _ := HFax.out.below b1; have hSbx := HSF.out _ HFbx.out; clear o1 b1)
        | (go_at_call_of 111 (Value.int IntKind.u64 (q : Int)); refine Calls.mono (wof_any q _ lq) ?_; rintro e wcx ⟨yo, yc, rfl, o1, b1⟩; have HO3x : Hid _ := o1; have HBcx : Hid _ := b1; have HFcx : Hid _ := HFbx.out.below b1; have hScx := HSF.out _ HFcx.out; clear o1 b1)
        | (go_at_call_of 175 (Value.slice yo (words q).length yc); refine Calls.mono (by have h := product_any yc cb HO3x.out.rd (((HRB4.out.drew.below HBax.out).below HBbx.out).below HBcx.out) (by have := word2 lq; omega) (by rw [HM.out]; omega); rw [HM.out] at h; exact h) ?_; rintro e wdx ⟨qo, qc, rfl, o1, b1⟩; have HO4x : Hid _ := o1; have HBdx : Hid _ := b1; have HFdx : Hid _ := HFcx.out.below b1; have hSdx := HSF.out _ HFdx.out; clear o1 b1)
        | (go_at_call 174; refine Calls.mono (distance_any pc qc ((HO2x.out.rd.below HBcx.out).below HBdx.out) HO4x.out.rd (by have := words_mul_length (word2 lp) HX.out; omega) (by have := words_mul_length (word2 lq) (Nat.le_of_eq HM.out); omega)) ?_; rintro e wex ⟨dox, dcx, rfl, o1, b1⟩; have HO5x : Hid _ := o1; have HBlx : Hid _ := b1; have HFex : Hid _ := HFdx.out.below b1; have hSex := HSF.out _ HFex.out; have HBex : Hid (Below w.heap.size w wex) := chain2 (chain2 (chain2 (chain2 (chain2 HB4.out.drew HBax.out) HBbx.out) HBcx.out) HBdx.out) b1; clear o1 b1))
      all_goals (go_wp2_with fail; go_meet; exact⟨dox,dcx,rfl,HO5x.out.lower (Nat.le_trans HB4.out.drew.size (chain4 HBax.out HBbx.out HBcx.out HBdx.out).size),HFex.out,HBex.out⟩)
    case rest=>
      obtain⟨dox,dcx,rfl,hox,hfx,hbx⟩:=hcut;have HRA5:Hid _:=HA.out.below hbx;have HRB5:Hid _:=HRB.out.below hbx;have HFex:Hid _:=hfx;have HBex:Hid _:=hbx;have HOX:Hid _:=hox;have hS5:=HSF.out _ hfx.drew;clear hox hfx hbx
      go_wp2_with fail
      go_region_held (fun w'=>w'.cell? ⟨w3.heap.size,0,none⟩=some (.int .u64 (p:Int))∧w'.cell? ⟨w3.heap.size,1,none⟩=some (.int .u64 (q:Int))∧w'.cell? ⟨w3.heap.size,2,none⟩=some (.int .u64 (r:Int))∧w'.cell? ⟨w3.heap.size,3,none⟩=some (.int .u64 (s:Int))) (first | assumption | go_keep) (first
        | (go_at_call_of 111 (Value.int IntKind.u64 (r : Int)); refine Calls.mono (wof_any r _ lr) ?_; rintro e waz ⟨zo, zc, rfl, o1, b1⟩; have HO1z : Hid _ := o1; have HBaz : Hid _ := b1; have HFaz : Hid _ := HFex.out.drew.below b1; have hSaz := HSF.out _ HFaz.out; clear o1 b1)
        | (go_at_call_of 175 (Value.slice zo (words r).length zc); refine Calls.mono (by have h := product_any zc ca HO1z.out.rd (HRA5.out.drew.below HBaz.out) (by have := word2 lr; omega) (by rw [HN.out]; omega); rw [HN.out] at h; exact h) ?_; rintro e wbz ⟨po, pc, rfl, o1, b1⟩; have HO2z : Hid _ := o1; have HBbz : Hid _ := b1; have HFbz : Hid _ := HFaz.out.below b1; have hSbz := HSF.out _ HFbz.out; clear o1 b1)
        | (go_at_call_of 111 (Value.int IntKind.u64 (s : Int)); refine Calls.mono (wof_any s _ ls) ?_; rintro e wcz ⟨yo, yc, rfl, o1, b1⟩; have HO3z : Hid _ := o1; have HBcz : Hid _ := b1; have HFcz : Hid _ := HFbz.out.below b1; have hScz := HSF.out _ HFcz.out; clear o1 b1)
        | (go_at_call_of 175 (Value.slice yo (words s).length yc); refine Calls.mono (by have h := product_any yc cb HO3z.out.rd (((HRB5.out.drew.below HBaz.out).below HBbz.out).below HBcz.out) (by have := word2 ls; omega) (by rw [HM.out]; omega); rw [HM.out] at h; exact h) ?_; rintro e wdz ⟨qo, qc, rfl, o1, b1⟩; have HO4z : Hid _ := o1; have HBdz : Hid _ := b1; have HFdz : Hid _ := HFcz.out.below b1; have hSdz := HSF.out _ HFdz.out; clear o1 b1)
        | (go_at_call 174; refine Calls.mono (distance_any pc qc ((HO2z.out.rd.below HBcz.out).below HBdz.out) HO4z.out.rd (by have := words_mul_length (word2 lr) HX.out; omega) (by have := words_mul_length (word2 ls) (Nat.le_of_eq HM.out); omega)) ?_; rintro e wez ⟨doz, dcz, rfl, o1, b1⟩; have HO5z : Hid _ := o1; have HBlz : Hid _ := b1; have HFez : Hid _ := HFdz.out.below b1; have hSez := HSF.out _ HFez.out; have HBez : Hid (Below w.heap.size w wez) := chain2 (chain2 (chain2 (chain2 (chain2 HBex.out.drew HBaz.out) HBbz.out) HBcz.out) HBdz.out) b1; clear o1 b1))
      all_goals
        have HB9:Hid (Below wc.heap.size wc _):=chain2 (chain4 (chain2 ((Below.refl wc.heap.size wc).drew) HBaz.out) HBbz.out HBcz.out HBdz.out) HBlz.out;clear HBaz HBbz HBcz HBdz HBlz HFaz HFbz HFcz HFdz HFez HO1z HO2z HO3z HO4z
        go_wp2
        go_ret2
        rcases HST.out with h | ⟨X,Y,zz,hYX,hXA,hg,hp,hs⟩
        · exact absurd h HQ.out
        · obtain⟨e1,e2⟩:=pair_dist hp;have hX:=HOX.out;have hY:=HO5z.out;rw[e1]at hX;rw[e2]at hY;refine⟨X,Y,dox,dcx,doz,dcz,by rw[e1,e2]; rfl,⟨hg,hYX,hXA,by have:=Nat.pos_of_ne_zero HBN.out; omega⟩,hX.rd.below HB9.out,hY.rd,?_,?_,HBez.out⟩
          · intro e;rw[e]at hX;exact hX.none_cap
          · intro e;rw[e]at hY;exact hY.none_cap
end Go.Proofs.YtgjohjfehgdgbaaGreatDoor
