/- GcdB -/
import Derived.Test.YtgjohjfehgdgbaaGreatDoorGcdA
import Derived.OpenShut
import Derived.Laws.ResultCell
namespace Go.Proofs.YtgjohjfehgdgbaaGreatDoor
open Go.RowKit
set_option linter.unusedVariables false
set_option linter.unusedSimpArgs false

theorem results_cell1{fn:Func}{p:Tmp}{ty:TypeId}(h:fn.results=#[.cell p ty])(tmps:Array Value)(P:Program)(w:World):
    (results fn tmps).run P w=((asAddr (tmps.getD p undef)).run P w).andThen fun a w₁=>(loadVar ty a).run P w₁:=by
  simp only[results,h];simp[Sem.run_bind,Result.andThen]

structure Four(w:World)(g p q r s:Nat):Prop where
  c0:w.cell? ⟨g,0,none⟩=some (.int .u64 (p:Int))
  c1:w.cell? ⟨g,1,none⟩=some (.int .u64 (q:Int))
  c2:w.cell? ⟨g,2,none⟩=some (.int .u64 (r:Int))
  c3:w.cell? ⟨g,3,none⟩=some (.int .u64 (s:Int))
  f0:w.frozen? ⟨g,0,none⟩=false
  f1:w.frozen? ⟨g,1,none⟩=false
  f2:w.frozen? ⟨g,2,none⟩=false
  f3:w.frozen? ⟨g,3,none⟩=false

theorem Four.step{w:World}{g p q r s:Nat}(h:Four w g p q r s)(u v:Nat):
    Four ((((w.setCell ⟨g,0,none⟩ (.int .u64 (r:Int))).setCell ⟨g,2,none⟩ (.int .u64 (u:Int))).setCell ⟨g,1,none⟩ (.int .u64 (s:Int))).setCell ⟨g,3,none⟩ (.int .u64 (v:Int))).drew g r s u v:=by
  obtain⟨k0,k1,k2,k3,g0,g1,g2,g3⟩:=h;exact⟨by go_cell,by go_cell,by go_cell,by go_cell,by go_cell,by go_cell,by go_cell,by go_cell⟩
theorem Four.far{w:World}{g p q r s g':Nat}(h:Four w g p q r s)(hne:g'≠g)(j:Nat)(x:Value):Four (w.setCell ⟨g',j,none⟩ x) g p q r s:=by
  have e:∀i,(w.setCell ⟨g',j,none⟩ x).cell? ⟨g,i,none⟩=w.cell? ⟨g,i,none⟩:=fun i=>World.cell?_setCell_other _ _ _ _ (by intro e; cases e; exact hne rfl);have e2:∀i,(w.setCell ⟨g',j,none⟩ x).frozen? ⟨g,i,none⟩=w.frozen? ⟨g,i,none⟩:=fun i=>by go_cell
  exact⟨(e 0).trans h.c0,(e 1).trans h.c1,(e 2).trans h.c2,(e 3).trans h.c3,(e2 0).trans h.f0,(e2 1).trans h.f1,(e2 2).trans h.f2,(e2 3).trans h.f3⟩
theorem Four.drew{w:World}{g p q r s:Nat}(h:Four w g p q r s):Four w.drew g p q r s:=⟨h.c0,h.c1,h.c2,h.c3,h.f0,h.f1,h.f2,h.f3⟩
theorem Four.new(w:World)(p q r s:Nat)(t:TypeId):Four (w.alloc (.cells #[.int .u64 (p:Int),.int .u64 (q:Int),.int .u64 (r:Int),.int .u64 (s:Int)] t)) w.heap.size p q r s:=by
  exact⟨by go_cell,by go_cell,by go_cell,by go_cell,by go_cell,by go_cell,by go_cell,by go_cell⟩
theorem Four.alloc{w:World}{g p q r s:Nat}(h:Four w g p q r s)(o:Obj):Four (w.alloc o) g p q r s:=by
  have hg:g<w.heap.size:=cell_lt h.c0;exact⟨(World.cell?_alloc_past o g 0 hg).trans h.c0,(World.cell?_alloc_past o g 1 hg).trans h.c1,(World.cell?_alloc_past o g 2 hg).trans h.c2,(World.cell?_alloc_past o g 3 hg).trans h.c3,(World.frozen?_alloc_past o g 0 hg).trans h.f0,(World.frozen?_alloc_past o g 1 hg).trans h.f1,(World.frozen?_alloc_past o g 2 hg).trans h.f2,(World.frozen?_alloc_past o g 3 hg).trans h.f3⟩

set_option maxHeartbeats 1000000 in
set_option maxRecDepth 1000000 in
theorem sureSteps_any{A B T a0 b0 al be:Nat}(w:World)(hA:A=a0*T+al)(hB:B=b0*T+be)(hal:al<T)(hbe:be<T)(hBA:B≤A)(ha:a0<18446744073709551616)(hb0:b0≤a0):
    Calls Tryz.prog 172 #[.int .u64 (a0:Int),.int .u64 (b0:Int)] w fun e w'=>∃p q r s:Nat,e=.returned (.agg #[.int .u64 (p:Int),.int .u64 (q:Int),.int .u64 (r:Int),.int .u64 (s:Int)])∧(p<18446744073709551616∧q<18446744073709551616∧r<18446744073709551616∧s<18446744073709551616)∧Steps A B p q r s∧Below w.heap.size w w':=by
  have HA:Hid _:=hA;have HB:Hid _:=hB;have HAL:Hid _:=hal;have HBE:Hid _:=hbe;have HBA:Hid _:=hBA;clear hA hB hal hbe hBA
  go_enter Tryz.func172,Tryz.ntmps172
  go_wp2
  go_loopw [0,1,6,7] (fun v0 v1 v6 v7 wr=>∃(a b p q r s u v:Nat) (z:Bool),v0=.int .u64 (a:Int)∧v1=.int .u64 (b:Int)∧v6=.int .u64 (u:Int)∧v7=.int .u64 (v:Int)∧(a<18446744073709551616∧p<18446744073709551616∧q<18446744073709551616∧r<18446744073709551616∧s<18446744073709551616∧u<18446744073709551616∧v<18446744073709551616)∧Sure A B a0 b0 a b p q r s u v z∧Four wr (w.heap.size+1) p q r s∧(∃p q r s,Four wr w.heap.size p q r s)∧Below w.heap.size w wr) (fun _ v1 _ _ _=>(intOf v1).toNat)
  case atStart=>
    refine⟨a0,b0,0,0,1,0,0,1,true,rfl,rfl,rfl,rfl,by omega,sure_start hb0,?_,?_,?_⟩
    · have h:=Four.new (w.alloc (.cells #[.int .u64 0,.int .u64 0,.int .u64 0,.int .u64 0] 179)) 0 0 1 0 179;simpa using h
    · exact⟨0,0,0,0,(Four.new w 0 0 0 0 179).alloc _⟩
    · have h1:Below w.heap.size w (w.alloc (.cells #[.int .u64 0,.int .u64 0,.int .u64 0,.int .u64 0] 179)):=(Below.refl _ _).alloc (Nat.le_refl _) _;exact h1.alloc h1.size _
  case round=>
    obtain⟨a,b,p,q,r,s,u,v,z,rfl,rfl,rfl,rfl,⟨la,lp,lq,lr,ls,lu,lv⟩,hS,hF,hF2,hbw⟩:=hrel;have hle:=hS.le;by_cases hc1:v≤b
    · obtain⟨bv,bs⟩:=sure_bounds hS hc1 ha;by_cases hc2:b+(s+v)≤a
      · have hst:=sure_step HA.out HB.out HAL.out HBE.out HBA.out ha hb0 hS hc1 hc2;have hv1:=hS.v1;have hdm:a / b≤a:=Nat.div_le_self _ _;obtain⟨Q,hQ⟩:∃Q,a / b=Q:=⟨_,rfl⟩;obtain⟨R,hR⟩:∃R,a%b=R:=⟨_,rfl⟩;have hmod:a%b<b:=Nat.mod_lt _ (by omega);rw[hQ,hR]at hst;rw[hQ]at hdm;rw[hR]at hmod;obtain⟨hS',hb1,hb2⟩:=hst;have HS':Hid _:=hS';have m1:(Q:Int)*(v:Int)=((Q*v:Nat):Int):=(by rw[Int.natCast_mul]);have m2:(Q:Int)*(u:Int)=((Q*u:Nat):Int):=(by rw[Int.natCast_mul]);obtain⟨qv,hqv⟩:∃x,Q*v=x:=⟨_,rfl⟩;obtain⟨qu,hqu⟩:∃x,Q*u=x:=⟨_,rfl⟩;rw[hqv]at m1 hb1;rw[hqu]at m2 hb2;have t1:(a:Int) / (b:Int)=(Q:Int):=(by rw[←hQ,Int.natCast_ediv]);have t2:(a:Int)%(b:Int)=(R:Int):=(by rw[←hR,Int.natCast_emod]);have t3:((b:Int)==0)=false:=(by simp; omega);rw[hqv,hqu]at HS';have HFS:Hid _:=hF.step u v;obtain⟨k0,k1,k2,k3,g0,g1,g2,g3⟩:=hF;have HF2:Hid _:=hF2;have HBW:Hid _:=hbw;have hsz:w.heap.size≤wr.heap.size:=hbw.size;clear hF2 hbw hS hS' hqv hqu hQ hR
        go_wp2
        go_region
        all_goals go_wp2
        all_goals go_roundw
        case rel=>
          obtain⟨p',q',r',s',hf2⟩:=HF2.out;refine⟨b,R,r,s,u,v,r+qu,s+qv,!z,rfl,by go_num,by go_num,by go_num,by omega,HS'.out,HFS.out,⟨p',q',r',s',((((hf2.far (by omega) _ _).far (by omega) _ _).far (by omega) _ _).far (by omega) _ _).drew⟩,?_⟩;exact((((HBW.out.setCell (by show w.heap.size≤w.heap.size+1; omega) _).setCell (by show w.heap.size≤w.heap.size+1; omega) _).setCell (by show w.heap.size≤w.heap.size+1; omega) _).setCell (by show w.heap.size≤w.heap.size+1; omega) _).drew
        case measure=>simp only[intOf]; omega
      · have HEnd:Hid _:=sure_end hS;obtain⟨k0,k1,k2,k3,g0,g1,g2,g3⟩:=hF;obtain⟨p',q',r',s',hf2⟩:=hF2;obtain⟨k0',k1',k2',k3',g0',g1',g2',g3'⟩:=hf2;have HBW:Hid _:=hbw;have hne:w.heap.size+1≠w.heap.size:=(by omega);have HL:Hid (p<18446744073709551616∧q<18446744073709551616∧r<18446744073709551616∧s<18446744073709551616):=⟨lp,lq,lr,ls⟩;clear hbw hS
        go_wp2
        try simp only[Exit.inBlock,Exit.then]
        refine bodyPost_ret (v:=.agg #[.int .u64 (p:Int),.int .u64 (q:Int),.int .u64 (r:Int),.int .u64 (s:Int)]) ?_ rfl ⟨p,q,r,s,rfl,HL.out,HEnd.out,?_⟩
        · rw[results_cell1 rfl];go_simp
        · exact(((HBW.out.setCell (Nat.le_refl _) _).setCell (Nat.le_refl _) _).setCell (Nat.le_refl _) _).setCell (Nat.le_refl _) _
    · have HEnd:Hid _:=sure_end hS;obtain⟨k0,k1,k2,k3,g0,g1,g2,g3⟩:=hF;obtain⟨p',q',r',s',hf2⟩:=hF2;obtain⟨k0',k1',k2',k3',g0',g1',g2',g3'⟩:=hf2;have HBW:Hid _:=hbw;have hne:w.heap.size+1≠w.heap.size:=(by omega);have HL:Hid (p<18446744073709551616∧q<18446744073709551616∧r<18446744073709551616∧s<18446744073709551616):=⟨lp,lq,lr,ls⟩;clear hbw hS
      go_wp2
      try simp only[Exit.inBlock,Exit.then]
      refine bodyPost_ret (v:=.agg #[.int .u64 (p:Int),.int .u64 (q:Int),.int .u64 (r:Int),.int .u64 (s:Int)]) ?_ rfl ⟨p,q,r,s,rfl,HL.out,HEnd.out,?_⟩
      · rw[results_cell1 rfl];go_simp
      · exact(((HBW.out.setCell (Nat.le_refl _) _).setCell (Nat.le_refl _) _).setCell (Nat.le_refl _) _).setCell (Nat.le_refl _) _
end Go.Proofs.YtgjohjfehgdgbaaGreatDoor
