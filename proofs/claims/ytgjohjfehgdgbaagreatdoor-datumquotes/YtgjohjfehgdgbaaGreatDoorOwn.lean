/- Own -/
import Derived.Test.YtgjohjfehgdgbaaGreatDoorText
import Derived.WalkKit
import Derived.WalkSpells
import Derived.WalkSmall
import Derived.Lib.OthersKept
import Derived.Laws.Cover4
namespace Go.Proofs.YtgjohjfehgdgbaaGreatDoor
open Go.RowKit
set_option linter.unusedVariables false
set_option linter.unusedSimpArgs false

section
variable {w w':World} {base:Nat} {e:TypeId} {size:Nat} {v:Value} {n:Nat} {xs:List Value}

theorem heap_below{k:Nat}{o:Obj}(hk:w.heap[k]?=some o)(hb:Below w.heap.size w w'):w'.heap[k]?=some o:=
  (hb.block k (Array.getElem?_eq_some_iff.1 hk).1).trans hk
end

theorem encode_valid(r:Int)(hv:ValidR r):(Utf8.encode r).data.toList=Lib.encodeRune r:=by
  obtain⟨h0,h1,h2⟩:=hv;have hval:Utf8.valid r=true:=by
    unfold Utf8.valid;simp;omega
  unfold Utf8.encode;simp only[hval,if_true];unfold Lib.encodeRune;by_cases a:r≤127
  · rw[Lib.encodeRuneZ_one h0 a,if_pos (by omega)];simp[Nat.toUInt8]
  · by_cases b:r≤2047
    · rw[Lib.encodeRuneZ_two (by omega) b,if_neg (by omega),if_pos (by omega)];have e1:(192+r / 64).toNat=192+r.toNat / 64:=(by omega);have e2:(128+r%64).toNat=128+r.toNat%64:=(by omega);simp[Nat.toUInt8,e1,e2]
    · by_cases c:r≤65535
      · rw[Lib.encodeRuneZ_three (by omega),if_neg (by omega),if_neg (by omega),if_pos (by omega)];have e1:(224+r / 4096).toNat=224+r.toNat / 4096:=(by omega);have e2:(128+r / 64%64).toNat=128+r.toNat / 64%64:=(by omega);have e3:(128+r%64).toNat=128+r.toNat%64:=(by omega);simp[Nat.toUInt8,e1,e2,e3]
      · rw[Lib.encodeRuneZ_four (by omega) (by omega),if_neg (by omega),if_neg (by omega),if_neg (by omega)];have e1:(240+r / 262144).toNat=240+r.toNat / 262144:=(by omega);have e2:(128+r / 4096%64).toNat=128+r.toNat / 4096%64:=(by omega);have e3:(128+r / 64%64).toNat=128+r.toNat / 64%64:=(by omega);have e4:(128+r%64).toNat=128+r.toNat%64:=(by omega);simp[Nat.toUInt8,e1,e2,e3,e4]
end Go.Proofs.YtgjohjfehgdgbaaGreatDoor
