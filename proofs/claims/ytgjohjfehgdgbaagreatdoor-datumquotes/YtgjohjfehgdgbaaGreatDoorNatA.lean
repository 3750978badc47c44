/- NatA -/
import Derived.Test.YtgjohjfehgdgbaaGreatDoorMem
import Derived.Test.YtgjohjfehgdgbaaGreatDoorProg
namespace Go.Proofs.YtgjohjfehgdgbaaGreatDoor
open Go.RowKit
set_option linter.unusedVariables false
set_option linter.unusedSimpArgs false

theorem infoU: (Tryz.prog.info? 99).map (fun i=>(i.zero,i.size,i.bytes))=some (some (.int .u32 0),1,4):=by kernel_rfl

set_option maxHeartbeats 4000000 in
set_option maxRecDepth 1000000 in
theorem wordAt_any{w:World}{ao:Option Addr}{l:List Nat}(cap k:Nat)(h:Rd w ao l):
    Calls Tryz.prog 176 #[.slice ao l.length cap,.int .i64 (k:Int)] w fun e w'=>e=.returned (.int .u32 ((l.getD k 0:Nat):Int))∧w'=w:=by
  by_cases hk:k<l.length
  · have hne:l≠[]:=(by intro e; subst e; simp at hk);obtain⟨b,off,rfl,hb,hc⟩:=h.pos hne;have hcell:=hc k hk;generalize l.getD k 0=x at *
    clear hc h hne
    go_enter Tryz.func176,Tryz.ntmps176
    go_wp2
    go_ret
    exact⟨rfl,rfl⟩
  · have e:l.getD k 0=0:=(by simp[List.getElem?_eq_none (by omega:l.length≤k)]);rw[e];clear e h
    go_enter Tryz.func176,Tryz.ntmps176
    go_wp2
    go_ret
    exact⟨rfl,rfl⟩

set_option maxHeartbeats 4000000 in
set_option maxRecDepth 1000000 in
theorem add32_any(x y c:Nat)(w:World)(hx:x<4294967296)(hy:y<4294967296)(hc:c<4294967296):
    Calls Tryz.prog 195 #[.int .u32 (x:Int),.int .u32 (y:Int),.int .u32 (c:Int)] w fun e w'=>e=.returned (.tuple #[.int .u32 (((x+y+c)%4294967296:Nat):Int),.int .u32 (((x+y+c) / 4294967296:Nat):Int)])∧w'=w:=by
  go_enter Tryz.func195,Tryz.ntmps195
  go_wp2
  go_ret2
  refine⟨?_,rfl⟩
  congr 1

set_option maxHeartbeats 4000000 in
set_option maxRecDepth 1000000 in
theorem trim_any{B:Nat}{w:World}{ao:Option Addr}{cap:Nat}{l:List Nat}(h:Own B w ao cap l)(hl:l.length≤1000000):
    Calls Tryz.prog 136 #[.slice ao l.length cap] w fun e w'=>e=.returned (.slice ao (words (val l)).length cap)∧Own B w ao cap (words (val l))∧w'=w:=by
  go_enter Tryz.func136,Tryz.ntmps136
  go_wp2
  go_loopw [0] (fun v wr=>wr=w∧∃k:Nat,k≤l.length∧v=.slice ao k cap∧val (l.take k)=val l) (fun v _=>lenOf v)
  case atStart=>exact⟨rfl,l.length,Nat.le_refl _,rfl,by rw[List.take_length]⟩
  case round=>
    obtain⟨rfl,k,hk,rfl,hv⟩:=hrel;have hcap:=h.caps;have HV:Hid _:=hv;clear hv;by_cases h0:k=0
    · subst h0;have hw:words (val l)=[]:=by
        have:=HV.out;rw[List.take_zero]at this;rw[←this];exact words_zero
      go_wp2
      go_ret
      refine⟨by rw[hw]; rfl,?_,rfl⟩;rw[hw];cases ao with
      | none =>
        have:l.length=0:=by
          rcases h.row.2 with⟨_,h3⟩ | ⟨g,cap,cur,hv,_⟩
          · exact h3
          · simp at hv
        have e:=List.length_eq_zero_iff.1 this;subst e;exact h
      | some a =>
        obtain⟨g,e,_⟩:=h.form (by simp);cases e
        exact h.cut 0 (by omega)
    · have hne:ao≠none:=by
        intro e;subst e;rcases h.row.2 with⟨_,h3⟩ | ⟨g,cap,cur,hv,_⟩
        · omega
        · simp at hv
      obtain⟨g,rfl,hg1,hg2⟩:=h.form hne;have hcell:=h.cell (k-1) (by omega);have hx:=h.dig.getD (k-1);by_cases hz:l.getD (k-1) 0=0
      · have hv':=val_take_pred k h0 hz;rw[hz]at hcell;have HP:Hid _:=hv';clear hv' hz hx h hne;have e1:((k:Int)-1).toNat=k-1:=(by omega);have h1:(0:Int)<k:=by omega
        go_wp2
        go_roundw
        case rel=>exact⟨trivial,k-1,by omega,by simp,HP.out.trans HV.out⟩
        case measure=>simp[lenOf]; omega
      · have hvv:=words_take h.dig k hk HV.out (.inr hz);have ho:=h.cut k hk;rw[hvv]at ho;have hlen:(words (val l)).length=k:=(by rw[←hvv,List.length_take]; omega);have HO:Hid _:=ho;have HL:Hid _:=hlen;clear ho hlen hvv;generalize l.getD (k-1) 0=x at *
        have hz':((x:Int)==0)=false:=(by simp; omega);clear h hne;have h1:(0:Int)<k:=by omega
        go_wp2
        go_ret
        refine⟨?_,HO.out,rfl⟩;rw[HL.out];rfl
end Go.Proofs.YtgjohjfehgdgbaaGreatDoor
