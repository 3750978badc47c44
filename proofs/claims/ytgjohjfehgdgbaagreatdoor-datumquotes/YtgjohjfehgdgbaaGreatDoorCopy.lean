/- Copy -/
import Derived.Test.YtgjohjfehgdgbaaGreatDoorNatF
import Derived.Laws.AppendOwnNone
namespace Go.Proofs.YtgjohjfehgdgbaaGreatDoor
open Go.RowKit
set_option linter.unusedVariables false
set_option linter.unusedSimpArgs false

theorem Rd.lt{w:World}{ao:Option Addr}{l:List Nat}(h:Rd w ao l)(hne:l≠[]):∀a,ao=some a→a.block<w.heap.size:=by
  intro a e;obtain⟨b,off,h1,h2,_⟩:=h.pos hne;rw[h1]at e;cases e
  exact h2
theorem Rd.apart{w w':World}{ao:Option Addr}{l:List Nat}{g:Option Nat}(h:Rd w ao l)(hg:w.grownBy w' g)(hne:l≠[]→∀a,ao=some a→some a.block≠g):Rd w' ao l:=by
  by_cases hl:l=[]
  · subst hl;exact Rd.nil _ _
  · exact h.grown hg (hne hl)
theorem Rd.cells{w:World}{b off:Nat}{spot:Option Nat}{l:List Nat}(h:Rd w (some ⟨b,off,none⟩) l):∀(j:Nat) (u:Value),(U l)[j]?=some u→w.cell? ((⟨b,off,none⟩:Addr).add j)=some u:=by
  intro j u hj;have hjl:j<l.length:=by
    apply Classical.byContradiction;intro hh;rw[List.getElem?_eq_none (by rw[U_length]; omega)]at hj;cases hj
  obtain⟨b',off',e,_,hc⟩:=h.pos (by intro e; subst e; simp at hjl);cases e
  rw[Addr.add_lit,hc j hjl,←hj,U_get l j hjl]

theorem append_copy{w:World}{ops:Array Oper}{rest:List Oper}{o:Oper}{act:Act}{Q:Exit→Act→World→Prop}(hgd:o.guard=none)(s x:Operand)
    (ho:o.op=.call { callee:=.builtin .append,args:=#[s,x],argTypes:=#[22,22] })
    (base:Nat) (v:Value) (hs:act.eval s=v) (hown:w.ownsRow base 99 1 v 0 []) (hbase:base≤w.heap.size)
    (ao:Option Addr) (n cap:Nat) (l:List Nat) (hx:act.eval x=.slice ao n cap) (hrd:Rd w ao l) (hn:l.length=n) (hcap:ao=none→cap=0) (hlen:n*4≤140737488351232)
    (h:∀ro rc w',Own base w' ro rc l→w.grownBy w' v.ownBlock→wpList Tryz.prog ops Q rest (act.put o.dst (.slice ro n rc)) w'):wpList Tryz.prog ops Q (o::rest) act w:=by
  obtain⟨i0,hi,hz0,hz1,hz2⟩:=info_parts infoU;cases ao with
  | none =>
    have hl:l=[]:=by
      apply Classical.byContradiction;intro hne;obtain⟨b,off,e,_⟩:=hrd.pos hne;cases e
    subst hl;have hn0:n=0:=hn.symm;subst hn0;have hc0:=hcap rfl;subst hc0;obtain⟨ro,rc,e,how⟩:=own_of_row (l:=[]) dig_nil rfl hown;refine wpList_append_own_none hgd s x 22 ho base 99 i0 1 Tryz.underlying22 hi v 0 [] hs hown hx ?_;rw[e];exact h ro rc w how (World.grownBy.refl _ _)
  | some ad =>
    have hnews:∀(j:Nat) (u:Value),(U l)[j]?=some u→w.cell? (ad.add j)=some u:=by
      intro j u hj;by_cases hne:l=[]
      · subst hne;simp[U]at hj
      · obtain⟨b,off,e,_⟩:=hrd.pos hne;cases e
        exact Rd.cells (spot:=none) hrd j u hj
    refine wpList_append_own w hgd s x 22 ho base 99 i0 (.int .u32 0) 1 4 Tryz.underlying22 hi hz0 hz1 hz2 rfl (by decide) v 0 [] hs hown ad n cap (U l) hx (by rw[U_length,hn]; omega) hnews (U_one _) (by unfold maxLen; omega) (by omega) hbase ?_;intro v' w' h1 h2 _;rw[List.nil_append]at h1;obtain⟨ro,rc,e,how⟩:=own_of_row hrd.dig (by omega) h1;rw[e,hn];exact h ro rc w' how h2

end Go.Proofs.YtgjohjfehgdgbaaGreatDoor
