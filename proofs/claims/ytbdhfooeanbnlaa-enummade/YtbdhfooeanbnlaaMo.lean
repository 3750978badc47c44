/- Steps that read or change memory, over its pieces. -/
import Derived.Test.YtbdhfooeanbnlaaMg
import Derived.Deep.AppendLies
namespace Go.Proofs.Ytbdhfooeanbnlaa
open Go.RowKit
set_option linter.unusedVariables false
set_option linter.unusedSimpArgs false
section
variable {P : Program} {w0 w : World} {L : List Ck} {l : List (Nat × Value)} {dst : Option Tmp} {ty : TypeId} {pos : String} {after : Array Edge} {guard : Option (Nat × Bool)} {v : Value}
theorem m_load1 (hM : Mg w0 w L) {t : TypeId} (ht : Is1 P t) {x : Operand} {g o : Nat} (hx : ev l x = some (.pointer (some ⟨g, o, none⟩))) (k : Nat) {vs : List Value} {e : TypeId} (hk : L[k]? = some (.obj g (.cells vs.toArray e))) (hv : vs[o]? = some v) :
    Does P l ⟨dst, .load t x, ty, pos, after, guard⟩ w v w := does_load hx (run_load1 ht (hM.cell k hk o hv))
theorem m_loadS (hM : Mg w0 w L) {t : TypeId} {n : Nat} (ht : IsS P t n) {x : Operand} {g o : Nat} (hx : ev l x = some (.pointer (some ⟨g, o, none⟩))) (k : Nat) {vs cs : List Value} {e : TypeId} (hk : L[k]? = some (.obj g (.cells vs.toArray e))) (hcs : (vs.drop o).take n = cs) (hl : cs.length = n) :
    Does P l ⟨dst, .load t x, ty, pos, after, guard⟩ w (.agg cs.toArray) w :=
  does_load hx (run_loadS ht cs hl (fun j v hj => hM.cell k hk (o + j) (by
    have hjn : j < n := by rw [← hl]; exact (List.getElem?_eq_some_iff.1 hj).1
    rw [← hcs, List.getElem?_take, if_pos hjn, List.getElem?_drop] at hj
    exact hj)))
theorem m_store {t : TypeId} {x y : Operand} {g o : Nat} {u : Value} {cs : List Value} (hx : ev l x = some (.pointer (some ⟨g, o, none⟩))) (hy : ev l y = some u) (hc : u.cells = cs.toArray) (hn : (P.info? t).map (·.size) = some cs.length)
    (hM : Mg w0 w L) (k : Nat) {vs : List Value} {e : TypeId} (hk : L[k]? = some (.obj g (.cells vs.toArray e))) (hl : Nat.ble (o + cs.length) vs.length = true) (h1 : cs.all Value.oneCell' = true) : Sets P l ⟨dst, .store t x y, ty, pos, after, guard⟩ w (w.setCells g o cs) := fun ρ h => by
  obtain ⟨i, hi, hsz⟩ := info_size hn
  have hl' : o + cs.length ≤ vs.length := Nat.le_of_ble_eq_true hl
  have h2 : (sizeOf t).run P w = .ok cs.length w := by simp [sizeOf, typeInfo, hi, hsz]
  have h3 := run_storeCells_cells (P := P) g o cs 0 w (fun j hj => by
      have hlt : o + 0 + j < vs.length := by omega
      rw [hM.cell k hk (o + 0 + j) (v := vs[o + 0 + j]) (List.getElem?_eq_getElem hlt)]; rfl) (fun j hj => hM.froz k hk _) (fun v hv => List.all_eq_true.1 h1 v hv)
  rw [Nat.add_zero] at h3
  have h4 : u.cells.toList = cs := by rw [hc]
  simp only [execOp, h x _ hx, h y _ hy, Instr.storeAt, Instr.sureAddr, Sem.run_bind, Sem.run_pure, Result.andThen_ok, storeVar, h2, hc, List.size_toArray, ne_eq, not_true_eq_false, if_false, List.toList_toArray, h3]
section
variable {ops : List Oper} {Q : Exit → Act → World → Prop} {a : Act} {n : Nat} {o : Oper} {rest : List Oper} {d : Nat}
/-- A new block. -/
theorem s_new (hA : Sl a n l) (hM : Mg w0 w L) (hg : passes l ops o = true) (hdst : o.dst = some d) (hd : Nat.blt d n = true) {vs : List Value} {t : TypeId} (val : Nat → Value) (he : Does P l o w (val w.heap.size) (w.alloc (.cells vs.toArray t))) (ht : t ≠ BY)
    (hk : ∀ g w', Mg w0 w' (.obj g (.cells vs.toArray t) :: L) → ∀ a', Sl a' n ((d, val g) :: l) → wpList P ops.toArray Q rest a' w') : wpList P ops.toArray Q (o :: rest) a w :=
  seq_do hA hg hdst hd he (hk _ _ (hM.addObj _ (quiet_cells ht)))
theorem s_store (hA : Sl a n l) (hM : Mg w0 w L) (hg : passes l ops o = true) (hdst : o.dst = none) {g q : Nat} {cs vs us : List Value} {e : TypeId} (he : Sets P l o w (w.setCells g q cs)) (k : Nat) (hk0 : L[k]? = some (.obj g (.cells vs.toArray e))) (hus : over vs q cs = us) {L' : List Ck} (hL : L.set k (.obj g (.cells us.toArray e)) = L')
    (hk : ∀ w', Mg w0 w' L' → wpList P ops.toArray Q rest a w') : wpList P ops.toArray Q (o :: rest) a w :=
  seq_set hA hg hdst he (hk _ (by subst hus hL; exact Mg.puts cs w L vs q hM k hk0))
/-- A range over a text begins. -/
theorem s_range (hA : Sl a n l) (hM : Mg w0 w L) {t : TypeId} {x : Operand} {s : ByteArray} (ho : o = ⟨dst, .range t x, ty, pos, after, guard⟩) (ht : P.underlying t = some .string) (hx : ev l x = some (.string s)) (hg : passes l ops o = true) (hdst : o.dst = some d) (hd : Nat.blt d n = true)
    (hk : ∀ g w', Mg w0 w' (.obj g (.stringIter s 0) :: L) → ∀ a', Sl a' n ((d, .pointer (some ⟨g, 0, none⟩)) :: l) → wpList P ops.toArray Q rest a' w') : wpList P ops.toArray Q (o :: rest) a w := by
  refine seq_do hA hg hdst hd (v := .pointer (some ⟨w.heap.size, 0, none⟩)) (w' := w.alloc (.stringIter s 0)) ?_ (hk _ _ (hM.addObj _ (quiet_iter s 0)))
  subst ho
  intro ρ h
  have := run_range_string (P := P) w t s ht
  simp only [execOp, h x _ hx, Sem.run_bind, this, Result.andThen_ok, Sem.run_pure]
  rfl
theorem next_at (hM : Mg w0 w L) (k : Nat) {g : Nat} {s : ByteArray} {p : Nat} (hk : L[k]? = some (.obj g (.stringIter s p))) (p' : Nat) : Mg w0 (w.iterAt g s p') (L.set k (.obj g (.stringIter s p'))) := by
  have ho := hM.obj k hk
  refine hM.turn k hk (by simp) ⟨rfl, rfl, rfl, by rw [Lib.iterAt_size]; exact Nat.le_refl _, fun j hj hne => Lib.iterAt_other w g j s p' (fun e => hne (by rw [e]; rfl))⟩ ⟨(hM.has k hk).1, Lib.iterAt_heap w g s p p' ho⟩ (fun c _ ha => ?_)
  cases c with
  | obj g' o' => exact ha
  | row e' sz' v' n' xs' => exact ha
  | bld b' bs' => exact ⟨ha.1, quiet_iter s p'⟩
/-- .. goes on. -/
theorem s_next (hA : Sl a n l) (hM : Mg w0 w L) {x : Operand} {g : Nat} {s : ByteArray} {p : Nat} (ho : o = ⟨dst, .next x true, ty, pos, after, guard⟩) (hx : ev l x = some (.pointer (some ⟨g, 0, none⟩))) (k : Nat) (hk0 : L[k]? = some (.obj g (.stringIter s p))) (hp : p < s.size) (hg : passes l ops o = true) (hdst : o.dst = some d) (hd : Nat.blt d n = true) {L' : List Ck} {r q : Nat} (hr : Utf8.decode s p = (r, q)) (hL : L.set k (.obj g (.stringIter s (p + q))) = L')
    (hk : ∀ w', Mg w0 w' L' → ∀ a', Sl a' n ((d, .tuple #[.bool true, .int .i64 ((p : Nat) : Int), .int .i32 ((r : Nat) : Int)]) :: l) → wpList P ops.toArray Q rest a' w') : wpList P ops.toArray Q (o :: rest) a w := by
  subst hL
  refine seq_do hA hg hdst hd (v := .tuple #[.bool true, .int .i64 ((p : Nat) : Int), .int .i32 ((r : Nat) : Int)]) (w' := w.iterAt g s (p + q)) ?_ (hk _ (next_at hM k hk0 _))
  subst ho
  intro ρ h
  have := Lib.run_next_any_at (P := P) w g s p ty (hM.obj k hk0) hp
  rw [hr] at this
  simp only [execOp, h x _ hx, Sem.run_bind, this, Result.andThen_ok, Sem.run_pure]
/-- .. is over. -/
theorem s_over (hA : Sl a n l) (hM : Mg w0 w L) {x : Operand} {g : Nat} {s : ByteArray} {p : Nat} (ho : o = ⟨dst, .next x true, ty, pos, after, guard⟩) (hx : ev l x = some (.pointer (some ⟨g, 0, none⟩))) (k : Nat) (hk0 : L[k]? = some (.obj g (.stringIter s p))) (hp : ¬ p < s.size) (hg : passes l ops o = true) (hdst : o.dst = some d) (hd : Nat.blt d n = true)
    (hk : ∀ a', Sl a' n ((d, .tuple #[.bool false]) :: l) → wpList P ops.toArray Q rest a' w) : wpList P ops.toArray Q (o :: rest) a w := by
  refine seq_do hA hg hdst hd (v := .tuple #[.bool false]) (w' := w) ?_ hk
  subst ho
  intro ρ h
  have := Lib.run_next_end_at (P := P) w g s p ty (hM.obj k hk0) hp
  simp only [execOp, h x _ hx, Sem.run_bind, this, Result.andThen_ok, Sem.run_pure]
end
end
/-- A result that lives in a cell. -/
theorem res_cell1 {P : Program} {w0 w : World} {L : List Ck} {l : List (Nat × Value)} {v : Value} (hM : Mg w0 w L) {c : Tmp} {t : TypeId} (ht : Is1 P t) {g o : Nat} (hx : look l c = some (.pointer (some ⟨g, o, none⟩))) (k : Nat) {vs : List Value} {e : TypeId} (hk : L[k]? = some (.obj g (.cells vs.toArray e))) (hv : vs[o]? = some v) : resOf P l w (.cell c t) v :=
  ⟨_, hx, run_load1 ht (hM.cell k hk o hv)⟩
theorem len_str {P : Program} {t : TypeId} (h : P.underlying t = some .string) {ty : TypeId} {s : ByteArray} : ∀ w cs, (builtin .len #[t] ty cs #[.string s]).run P w = .ok (.value (.int .i64 ((s.size : Nat) : Int))) w := fun w cs => by
  simp [go_sem, Builtin.len_, run_underlying h, goInt]
section
variable {P : Program} {w0 w : World} {L : List Ck} {l : List (Nat × Value)} {ops : List Oper} {Q : Exit → Act → World → Prop} {a : Act} {n : Nat} {o : Oper} {S : World → Prop} {md : Region.Mode} {fuel : Nat} {listed : Array Bool}
theorem g_store (hA : Sl a n l) (hM : Mg w0 w L) (i : Nat) (hi : ops[i]? = some o) (hg : passes l ops o = true) (hdst : o.dst = none) {g q : Nat} {cs vs us : List Value} {e : TypeId} (he : Sets P l o w (w.setCells g q cs)) (k : Nat) (hk0 : L[k]? = some (.obj g (.cells vs.toArray e))) (hus : over vs q cs = us) {L' : List Ck} (hL : L.set k (.obj g (.cells us.toArray e)) = L')
    (hk : ∀ w', Mg w0 w' L' → S w' ∧ wpAnyH P md ops.toArray Q S fuel (listed.setIfInBounds i true) a w') : wpOp P ops.toArray Q i (fun a' w' => S w' ∧ wpAnyH P md ops.toArray Q S fuel (listed.setIfInBounds i true) a' w') a w := by
  have h := hk _ (by subst hus hL; exact Mg.puts cs w L vs q hM k hk0)
  exact op_set hA i hi hg hdst he h.1 h.2
end
/-! ### Function values -/
def quietC : Ck → Prop
  | .obj _ o => quiet o
  | .row e _ _ _ _ => e ≠ BY
  | .bld _ _ => False
theorem quietL_nil : ∀ d ∈ ([] : List Ck), quietC d := by intro d hd; cases hd
theorem quietL_cons {c : Ck} {L : List Ck} (h : quietC c) (t : ∀ d ∈ L, quietC d) : ∀ d ∈ c :: L, quietC d := by
  intro d hd
  rcases List.mem_cons.1 hd with rfl | hd
  · exact h
  · exact t d hd
/-- A character, or (-1) none. -/
def OkU (r : Int) : Prop := r = -1 ∨ (0 ≤ r ∧ r ≤ 1114111 ∧ ¬ (55296 ≤ r ∧ r ≤ 57343))
/-- A function that is handed characters one by one: what it does to what it holds, and whether it wants more; so many more may come. -/
structure Visits (P : Program) (w0 : World) (f : FuncId) (cs : List Value) {σ : Type} (A : Nat → σ → List Ck → Prop) (step : σ → Int → Int → σ × Bool) : Prop where
  inv : ∀ (us : Array Value) (w : World), (callFunc f us).run P w = .ok (.enter f us) w
  mono : ∀ (n m : Nat) (s : σ) (T : List Ck), m ≤ n → A n s T → A m s T
  run : ∀ (n : Nat) (s : σ) (at_ r : Int) (w : World) (X T : List Ck), A (n + 1) s T → OkU r → (∀ d ∈ X, quietC d) → Mg w0 w (X ++ T) → Calls P f ([Value.int .i64 at_, Value.int .i32 r] ++ cs).toArray w (fun e w' => e = .returned (.bool (step s at_ r).2) ∧ ∃ T', A n (step s at_ r).1 T' ∧ Mg w0 w' (X ++ T'))
/-- All of a list are handed over, until no more are wanted. -/
def runV {σ : Type} (step : σ → Int → Int → σ × Bool) : σ → List (Int × Int) → σ
  | s, [] => s
  | s, (at_, r) :: us => if (step s at_ r).2 then runV step (step s at_ r).1 us else (step s at_ r).1
end Go.Proofs.Ytbdhfooeanbnlaa
