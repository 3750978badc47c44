/- Rows of bytes that are read, joined and appended whole; memory of two calls, one behind the other. -/
import Derived.Test.YtbdhfooeanbnlaaMl
namespace Go.Proofs.Ytbdhfooeanbnlaa
open Go.RowKit Go.Lib
set_option linter.unusedVariables false
set_option linter.unusedSimpArgs false

section
variable {P : Program} {t : TypeId} {x y : Operand} {a b : ByteArray}
theorem bin_addS (hm : a.size + b.size ≤ 9223372036854775807) : ∀ w, (do eqGuard .add t x y (.string a) (.string b); binOp .add t (.string a) (.string b) : Sem Value).run P w = .ok (.string (a ++ b)) w := fun w => by
  simp [go_sem]
  exact hm
end
section
variable {P : Program} {w0 w w' : World} {L L' : List Ck} {l : List (Nat × Value)} {dst : Option Tmp} {ty : TypeId} {pos : String} {after : Array Edge} {guard : Option (Nat × Bool)} {v : Value}
theorem does_indexRow {t e : TypeId} (hu : P.underlying t = some (.slice e)) (he : (P.info? e).map (·.size) = some 1) {x i : Operand} {so : Option Addr} {b off n c k : Nat} {z : Int} (hx : ev l x = some (.slice so n c)) (hi : ev l i = some (.int .i64 z)) (hz : z = (k : Nat)) (hso : so = some ⟨b, off, none⟩) (hk : k < n) :
    Does P l ⟨dst, .indexAddr t x i, ty, pos, after, guard⟩ w (.pointer (some ⟨b, off + k, none⟩)) w := by
  subst hso hz
  exact does_indexI hx hi (run_indexU hu he hk)
theorem m_loadR (hM : Mg w0 w L) {b o : Nat} (hlt : b < w0.heap.size) (hc : w0.cell? ⟨b, o, none⟩ = some v) {t : TypeId} (ht : Is1 P t) {x : Operand} (hx : ev l x = some (.pointer (some ⟨b, o, none⟩))) : Does P l ⟨dst, .load t x, ty, pos, after, guard⟩ w v w :=
  does_load hx (run_load1 ht ((hM.bel.cell hlt).trans hc))
/-- Two calls, one behind the other: the second one's pieces are new. -/
theorem Mg.both (hM : Mg w0 w L) (h : Mg w w' L') (n1 : noBld L) (n2 : noBld L') : Mg w0 w' (L' ++ L) := by
  have hb : Below w.heap.size w w' := h.bel
  have h1 := hM.call hb
  refine ⟨h1.bel, fun c hc => ?_, List.pairwise_append.2 ⟨h.dis, hM.dis, fun c hc d hd => ?_⟩⟩
  · rcases List.mem_append.1 hc with hc | hc
    · exact Ck.low (h.all c hc) hM.bel.size (n2 c hc)
    · exact h1.all c hc
  · have k1 := Ck.lt (h.all c hc)
    have k2 := Ck.lt (hM.all d hd)
    cases c with
    | obj g o => cases d with
      | obj g' o' => intro e; subst e; have := k1 g rfl; have := k2 g rfl; omega
      | row e sz v n xs => intro e; have := k1 g rfl; have := k2 g e; omega
      | bld b bs => exact absurd rfl (n1 _ hd b bs)
    | row e sz v n xs => cases d with
      | obj g' o' => intro e; have := k1 g' e; have := k2 g' rfl; omega
      | row e' sz' v' n' xs' =>
        by_cases k : v.ownBlock = none
        · exact .inl k
        · right
          intro e
          obtain ⟨g, hg⟩ := Option.ne_none_iff_exists'.1 k
          have := k1 g hg
          have := k2 g (e.symm.trans hg)
          omega
      | bld b bs => exact absurd rfl (n1 _ hd b bs)
    | bld b bs => exact absurd rfl (n2 _ hc b bs)
/-- A row of the call's own reads as its bytes. -/
theorem rb_row (hM : Mg w0 w L) (k : Nat) {so : Option Addr} {n cap : Nat} {bs : List UInt8} (hk : L[k]? = some (.row BY 1 (.slice so n cap) n (byteCells bs))) : Rb w so bs ∧ n = bs.length := by
  have h := hM.has k hk
  have hn : n = bs.length := by have := h.1; rw [byteCells_length] at this; omega
  refine ⟨⟨fun hne => ?_⟩, hn⟩
  rcases h.2 with ⟨he, h0⟩ | ⟨g, cap', cur, he, hB, hc, h3⟩
  · rw [h0] at hn; exact absurd (List.length_eq_zero_iff.1 hn.symm) hne
  · cases he
    refine ⟨g, 0, rfl, (Array.getElem?_eq_some_iff.1 hc).1, fun j hj => ?_⟩
    rw [Nat.zero_add, World.ownsRow.cellAt h j (by omega)]
    simp [byteCells, List.getD_eq_getElem?_getD, hj]
theorem m_append0 {t : TypeId} {x y : Operand} (ht : P.underlying t = some (.slice BY)) (hinfo : (P.info? BY).map (fun i => (i.zero, i.size, i.bytes)) = some (some (.int .u8 0), 1, 1)) (hM : Mg w0 w L) (k : Nat) {q : Nat} {xs : List Value} (hk : L[k]? = some (.row BY 1 v q xs)) (hx : ev l x = some v) {so : Option Addr} {c2 : Nat} (hy : ev l y = some (.slice so 0 c2)) :
    Does P l ⟨dst, .call ⟨.builtin .append, #[x, y], #[t, t]⟩, ty, pos, after, guard⟩ w v w := by
  obtain ⟨i, hi, hzz⟩ := Option.map_eq_some_iff.1 hinfo
  simp only [Prod.mk.injEq] at hzz
  obtain ⟨hz, hs, hb⟩ := hzz
  have hrow := hM.has k hk
  obtain ⟨so1, cap, hle, rfl⟩ : ∃ so1 cap, q ≤ cap ∧ v = .slice so1 q cap := by
    rcases hrow.2 with ⟨rfl, rfl⟩ | ⟨g, cap, cur, rfl, _, _, h, _⟩
    · exact ⟨none, 0, Nat.le_refl _, rfl⟩
    · exact ⟨_, cap, h, rfl⟩
  have h2 : (sizeOf BY).run P w = .ok 1 w := by simp [sizeOf, typeInfo, hi, hs]
  intro ρ h
  cases so <;> cases so1 <;> simp [execOp, resolve, invoke, builtin, h x _ hx, h y _ hy, Builtin.append_, run_underlying ht, h2, Builtin.lenOf, Builtin.firstCells, loadCells, loadCellsFrom, storeCells, hle]
theorem set_same {c : Ck} {k : Nat} (hk : L[k]? = some c) : L.set k c = L := by
  apply List.ext_getElem?
  intro i
  by_cases hi : k = i
  · subst hi
    rw [List.getElem?_set_self (List.getElem?_eq_some_iff.1 hk).1, hk]
  · rw [List.getElem?_set_ne hi]
/-- .. whatever row is appended. -/
theorem m_appendG {t : TypeId} {x y : Operand} (ht : P.underlying t = some (.slice BY)) (hinfo : (P.info? BY).map (fun i => (i.zero, i.size, i.bytes)) = some (some (.int .u8 0), 1, 1)) (hM : Mg w0 w L) (k : Nat) {q : Nat} {xs : List Value} (hk : L[k]? = some (.row BY 1 v q xs)) (hx : ev l x = some v) (j : Nat) {so : Option Addr} {m c2 : Nat} {bs : List UInt8} (hj : L[j]? = some (.row BY 1 (.slice so m c2) m (byteCells bs))) (hy : ev l y = some (.slice so m c2)) (hlen : q + m ≤ 1000000000) :
    ∃ v' w', Does P l ⟨dst, .call ⟨.builtin .append, #[x, y], #[t, t]⟩, ty, pos, after, guard⟩ w v' w' ∧ Mg w0 w' (L.set k (.row BY 1 v' (q + m) (xs ++ byteCells bs))) := by
  by_cases hm : m = 0
  · subst hm
    have h0 : bs = [] := List.length_eq_zero_iff.1 (rb_row hM j hj).2.symm
    subst h0
    refine ⟨v, w, m_append0 ht hinfo hM k hk hx hy, ?_⟩
    rw [show L.set k (.row BY 1 v (q + 0) (xs ++ byteCells [])) = L from by rw [show xs ++ byteCells [] = xs from List.append_nil xs]; exact set_same hk]
    exact hM
  · obtain ⟨b, rfl⟩ : ∃ b, so = some ⟨b, 0, none⟩ := by
      rcases (hM.has j hj).2 with ⟨_, h0⟩ | ⟨g, cap, cur, he, _⟩
      · exact absurd h0 hm
      · cases he; exact ⟨g, rfl⟩
    exact m_append ht hinfo hM k hk hx j hj hy (by simp [byteCells, Value.oneCell']) (Nat.ble_eq_true_of_le (by omega)) hlen
end
end Go.Proofs.Ytbdhfooeanbnlaa
