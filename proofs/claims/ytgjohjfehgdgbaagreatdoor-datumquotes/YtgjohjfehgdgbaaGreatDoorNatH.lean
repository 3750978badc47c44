/- NatH -/
import Derived.Test.YtgjohjfehgdgbaaGreatDoorNatG
namespace Go.Proofs.YtgjohjfehgdgbaaGreatDoor
open Go.RowKit
set_option linter.unusedVariables false
set_option linter.unusedSimpArgs false

theorem own_append{B:Nat}{w1:World}{v:Value}{acc:List Nat}{d:Nat}(hd:Dig acc)(hd2:d<4294967296)(h:w1.ownsRow B 99 1 v (acc.length+1) (U acc++[.int .u32 (d:Int)])):
    ∃ro rc,v=.slice ro (acc++[d]).length rc∧Own B w1 ro rc (acc++[d]):=by
  refine own_of_row (n:=acc.length+1) (dig_append.2 ⟨hd,by simp[Dig]; exact hd2⟩) (by simp) ?_;rw[U_append];exact h
theorem cell_one(w:World)(a:Value)(t:TypeId):∀j u,[a][j]?=some u→(w.alloc (.cells #[a] t)).cell? ((⟨w.heap.size,0,none⟩:Addr).add j)=some u:=by
  intro j u hj
  match j,hj with
  | 0, hj => simp at hj; subst hj; simp [Addr.add]
end Go.Proofs.YtgjohjfehgdgbaaGreatDoor
