/- Args -/
import Derived.Test.YtmnlfahgklnpeaaGreatDoorMem
import Derived.ChangeOld
import Derived.ProofKit
import Derived.OpenShut
namespace Go.Proofs.YtmnlfahgklnpeaaGreatDoor
open Go.RowKit
set_option linter.unusedVariables false
set_option linter.unusedSimpArgs false

structure Arg(w:World)(ao:Option Addr)(cap:Nat)(l:List Nat):Prop where
  rd:Rd w ao l
  caps:l.length≤cap
  len:l.length≤9223372036854775807
  nil:ao=none→cap=0
theorem chain2{a b c:World}(h1:Below a.heap.size a b)(h2:Below b.heap.size b c):Below a.heap.size a c:=h1.trans (h2.mono h1.size)
theorem chain3{a b c d:World}(h1:Below a.heap.size a b)(h2:Below b.heap.size b c)(h3:Below c.heap.size c d):Below a.heap.size a d:=chain2 (chain2 h1 h2) h3
theorem chain4{a b c d e:World}(h1:Below a.heap.size a b)(h2:Below b.heap.size b c)(h3:Below c.heap.size c d)(h4:Below d.heap.size d e):Below a.heap.size a e:=chain2 (chain3 h1 h2 h3) h4

theorem arg_nil(w:World):Arg w none 0 []:=⟨Rd.nil _ _,by simp,by simp,fun _=>rfl⟩
theorem arg_row{w:World}{x:Addr}{len cap:Nat}{zs:List Int}(hl:len≤cap)(hm:cap≤maxLen)(hz:zs.length=cap)
    (hc:∀i,i<zs.length→w.cell? (x.add i)=some (.int .u32 (zs.getD i 0))) (hw:∀n∈zs,(Lit.int .u32 n).wf=true) :
    ∃l:List Nat,l.length=len∧Arg w (some x) cap l:=by
  have hbd:∀n∈zs,0≤n∧n<4294967296:=by
    intro n hn;have:=bounds_u32 (hw n hn);omega
  refine⟨(zs.take len).map Int.toNat,by rw[List.length_map,List.length_take]; omega,?_⟩;have hlen:((zs.take len).map Int.toNat).length=len:=by rw[List.length_map,List.length_take]; omega
  refine⟨⟨?_,?_⟩,by omega,by rw[hlen]; unfold maxLen at hm; omega,by simp⟩
  · intro n hn;obtain⟨z,hz1,rfl⟩:=List.mem_map.1 hn;have:=hbd z (List.mem_of_mem_take hz1);omega
  · intro hne;have h0:0<len:=by
      apply Classical.byContradiction;intro h;have:len=0:=(by omega);subst this;simp at hne
    obtain⟨b,off,spot⟩:=x;have hspot:spot=none:=by
      have:=hc 0 (by omega);simp only[World.cell?,Addr.add]at this
      split at this
      · cases spot with
        | none => rfl
        | some s => simp at this
      · cases this
    subst hspot;have hcj:∀j,j<len→w.cell? ⟨b,off+j,none⟩=some (.int .u32 (((((zs.take len).map Int.toNat).getD j 0:Nat)):Int)):=by
      intro j hj;have h1:=hc j (by omega);rw[Addr.add_lit]at h1;rw[h1];have hjz:j<zs.length:=(by omega);have h2:=hbd zs[j] (List.getElem_mem hjz);have e1:zs.getD j 0=zs[j]:=(by simp[hjz]);have e2:((zs.take len).map Int.toNat).getD j 0=(zs[j]).toNat:=by
        simp[List.getElem?_take,hj,hjz]
      rw[e1,e2,Int.toNat_of_nonneg h2.1]
    refine⟨b,off,rfl,cell_lt (hcj 0 h0),fun j hj=>hcj j (by rw[hlen]at hj; exact hj)⟩
