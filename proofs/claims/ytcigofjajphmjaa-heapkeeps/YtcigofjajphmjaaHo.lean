/- Steps of the law of collections: a model's rows, words of two cells, rows of answers. -/
import Derived.Test.YtcigofjajphmjaaHl
import Derived.Laws.StructEq
import Derived.Test.YtcigofjajphmjaaProg
namespace Go.Proofs.Ytcigofjajphmjaa
open Go.RowKit
set_option linter.unusedVariables false
set_option linter.unusedSimpArgs false

theorem in_u16 {a : Int} (h0 : 0 ≤ a) (h1 : a ≤ 65535) : IntKind.u16.wrap a = a := by
  show a % 65536 = a
  omega
theorem rem_nat (a b : Nat) : ((a : Nat) : Int).tmod ((b : Nat) : Int) = ((a % b : Nat) : Int) := by
  rw [Int.tmod_eq_emod_of_nonneg (by omega)]
  exact (Int.natCast_emod a b).symm
/-- The model's row of rows: none for 0, one for each that was made, none for the others. -/
def slR (n : Nat) (ms : List Ob) : List Value := .slice none 0 0 :: (ms.map Ob.sl ++ List.replicate (n - ms.length) (.slice none 0 0))
theorem slR_made (n : Nat) : (madeCells #[.slice none 0 0] ((n + 1) * 1)).toList = slR n [] := by
  have key : ∀ m : Nat, (madeCells #[.slice none 0 0] (m * 1)).toList = List.replicate m (Value.slice none 0 0) := by
    intro m
    unfold madeCells
    rw [Array.toList_map, Array.toList_range, Nat.mul_one]
    induction m with
    | zero => rfl
    | succ m ih =>
      rw [List.range_succ, List.map_append, ih, List.replicate_succ']
      simp [Nat.mod_one]
  rw [key]
  simp [slR, List.replicate_succ]
theorem slR_len {n : Nat} {ms : List Ob} (h : ms.length ≤ n) : (slR n ms).length = (n + 1) * 1 := by
  simp [slR]
  omega
theorem slR_at {n : Nat} {ms : List Ob} {j : Nat} {q : Ob} (h : ms[j]? = some q) : (slR n ms)[j + 1]? = some q.sl := by
  unfold slR
  rw [List.getElem?_cons_succ, List.getElem?_append_left (by rw [List.length_map]; exact (List.getElem?_eq_some_iff.1 h).1), List.getElem?_map, h]
  rfl
theorem slR_set {n : Nat} {ms : List Ob} (h : ms.length < n) (q : Ob) : over (slR n ms) (ms.length + 1) [q.sl] = slR n (ms ++ [q]) := by
  simp only [over, slR, List.set_cons_succ]
  rw [List.set_append_right _ _ (by rw [List.length_map]; omega), List.length_map, Nat.sub_self]
  obtain ⟨k, hk⟩ : ∃ k, n - ms.length = k + 1 := ⟨n - ms.length - 1, by omega⟩
  rw [hk, List.replicate_succ, List.set_cons_zero]
  simp
  omega
theorem slR_put {n : Nat} {ms : List Ob} {j : Nat} {q : Ob} (h : ms[j]? = some q) (i : Nat) (c : Int × Bool) : slR n (ms.set j (q.put i c)) = slR n ms := by
  unfold slR
  rw [List.length_set]
  congr 2
  rw [List.map_set]
  apply List.ext_getElem?
  intro k
  by_cases e : j = k
  · subst e
    rw [List.getElem?_set_self (by rw [List.length_map]; exact (List.getElem?_eq_some_iff.1 h).1), List.getElem?_map, h]
    simp [Ob.sl, Ob.put]
  · rw [List.getElem?_set_ne e]
theorem row_in2 {os ms : List Ob} {o : Ob} (h : o ∈ ms) {L X : List Ck} (n : Nat) (hL : L.drop n = os.map Ob.row ++ (ms.map Ob.row ++ X)) : o.row ∈ L := by
  have : o.row ∈ L.drop n := by rw [hL]; simp only [List.mem_append, List.mem_map]; exact .inr (.inl ⟨o, h, rfl⟩)
  exact List.mem_of_mem_drop this
theorem row_place2 {os ms : List Ob} {j : Nat} {o : Ob} (h : ms[j]? = some o) (C X : List Ck) : (C ++ (os.map Ob.row ++ (ms.map Ob.row ++ X)))[C.length + (os.length + j)]? = some o.row := by
  rw [List.getElem?_append_right (by omega), Nat.add_sub_cancel_left, List.getElem?_append_right (by rw [List.length_map]; omega), List.length_map, Nat.add_sub_cancel_left, List.getElem?_append_left (by rw [List.length_map]; exact (List.getElem?_eq_some_iff.1 h).1), List.getElem?_map, h]
  rfl
theorem row_put2 {os ms : List Ob} {j : Nat} {o : Ob} (h : ms[j]? = some o) (C X : List Ck) (i : Nat) (z : Int) (b : Bool) (hi : i < o.ws.length) : (C ++ (os.map Ob.row ++ (ms.map Ob.row ++ X))).set (C.length + (os.length + j)) (.row 32 2 (.slice (some ⟨o.g, 0, none⟩) o.ws.length o.c) o.ws.length (over (cellC o.ws) (i * 2) [.int .i64 z, .bool b])) = C ++ (os.map Ob.row ++ ((ms.set j (o.put i (z, b))).map Ob.row ++ X)) := by
  have hl := (List.getElem?_eq_some_iff.1 h).1
  rw [cellC_set z b hi, List.set_append_right _ _ (by omega), Nat.add_sub_cancel_left, List.set_append_right _ _ (by rw [List.length_map]; omega), List.length_map, Nat.add_sub_cancel_left, List.set_append_left _ _ (by rw [List.length_map]; exact hl), List.map_set]
  congr 4
  simp [Ob.row, Ob.sl, Ob.put]
theorem perm_row2 {C X : List Ck} {os ms : List Ob} {o : Ob} {w0 w : World} (h : Mg w0 w (o.row :: (C ++ (os.map Ob.row ++ (ms.map Ob.row ++ X))))) : Mg w0 w (C ++ (os.map Ob.row ++ ((ms ++ [o]).map Ob.row ++ X))) := by
  refine h.perm ?_
  rw [List.map_append, List.map_cons, List.map_nil]
  have e : C ++ (os.map Ob.row ++ (ms.map Ob.row ++ [o.row] ++ X)) = (C ++ os.map Ob.row ++ ms.map Ob.row) ++ o.row :: X := by simp
  have e2 : o.row :: (C ++ (os.map Ob.row ++ (ms.map Ob.row ++ X))) = o.row :: ((C ++ os.map Ob.row ++ ms.map Ob.row) ++ X) := by simp
  rw [e, e2]
  exact List.perm_middle.symm
theorem cellC_0 : ∀ {ws : List (Int × Bool)} {i : Nat} {z : Int} {b : Bool}, ws[i]? = some (z, b) → (cellC ws)[i * 2]? = some (.int .i64 z)
  | [], _, _, _, h => by simp at h
  | (a, c) :: t, 0, z, b, h => by simp at h; obtain ⟨rfl, rfl⟩ := h; rfl
  | (a, c) :: t, i + 1, z, b, h => by
    have := cellC_0 (ws := t) (i := i) (z := z) (b := b) (by simpa using h)
    rw [show (i + 1) * 2 = i * 2 + 1 + 1 from by omega]
    exact this
theorem cellC_1 : ∀ {ws : List (Int × Bool)} {i : Nat} {z : Int} {b : Bool}, ws[i]? = some (z, b) → (cellC ws)[i * 2 + 1]? = some (.bool b)
  | [], _, _, _, h => by simp at h
  | (a, c) :: t, 0, z, b, h => by simp at h; obtain ⟨rfl, rfl⟩ := h; rfl
  | (a, c) :: t, i + 1, z, b, h => by
    have := cellC_1 (ws := t) (i := i) (z := z) (b := b) (by simpa using h)
    rw [show (i + 1) * 2 = i * 2 + 1 + 1 from by omega]
    exact this
section
variable {P : Program} {w0 w : World} {L : List Ck} {l : List (Nat × Value)} {dst : Option Tmp} {ty : TypeId} {pos : String} {after : Array Edge} {guard : Option (Nat × Bool)} {v : Value}
theorem m_ldW0 (hM : Mg w0 w L) {o : Ob} (hm : o.row ∈ L) {i : Nat} {z : Int} {b : Bool} (hi : o.ws[i]? = some (z, b)) {t : TypeId} (ht : Is1 P t) {x : Operand} (hx : ev l x = some (.pointer (some ⟨o.g, i * 2, none⟩))) : Does P l ⟨dst, .load t x, ty, pos, after, guard⟩ w (.int .i64 z) w := by
  obtain ⟨k, hk⟩ := List.mem_iff_getElem?.1 hm
  exact m_loadE hM k hk (cellC_0 hi) ht hx
theorem m_ldW1 (hM : Mg w0 w L) {o : Ob} (hm : o.row ∈ L) {i : Nat} {z : Int} {b : Bool} (hi : o.ws[i]? = some (z, b)) {t : TypeId} (ht : Is1 P t) {x : Operand} (hx : ev l x = some (.pointer (some ⟨o.g, i * 2 + 1, none⟩))) : Does P l ⟨dst, .load t x, ty, pos, after, guard⟩ w (.bool b) w := by
  obtain ⟨k, hk⟩ := List.mem_iff_getElem?.1 hm
  exact m_loadE hM k hk (cellC_1 hi) ht hx
theorem does_ixA2 {t : TypeId} {x i : Operand} {u u' : Value} (hx : ev l x = some u) (hi : ev l i = some u') (hr : ∀ w, (Instr.indexAt t u u').run P w = .ok v w) : Does P l ⟨dst, .indexAddr t x i, ty, pos, after, guard⟩ w v w := fun ρ h => by
  simp only [execOp, h x _ hx, h i _ hi, Sem.run_bind, hr w, Result.andThen_ok, Sem.run_pure]
end
section
variable {P : Program} {w0 w : World} {L : List Ck} {l : List (Nat × Value)} {ops : List Oper} {Q : Exit → Act → World → Prop} {a : Act} {n : Nat} {o : Oper} {d : Nat} {S : World → Prop} {md : Region.Mode} {fuel : Nat} {listed : Array Bool}
/-- A new block, in a region that draws its order. -/
theorem g_new (hA : Sl a n l) (hM : Mg w0 w L) (i : Nat) (hi : ops[i]? = some o) (hg : passes l ops o = true) (hdst : o.dst = some d) (hd : Nat.blt d n = true) {vs : List Value} {t : TypeId} (val : Nat → Value) (he : Does P l o w (val w.heap.size) (w.alloc (.cells vs.toArray t))) (ht : t ≠ BY)
    (hk : ∀ g w', Mg w0 w' (.obj g (.cells vs.toArray t) :: L) → S w' ∧ ∀ a', Sl a' n ((d, val g) :: l) → wpAnyH P md ops.toArray Q S fuel (listed.setIfInBounds i true) a' w') : wpOp P ops.toArray Q i (fun a' w' => S w' ∧ wpAnyH P md ops.toArray Q S fuel (listed.setIfInBounds i true) a' w') a w := by
  have h := hk _ _ (hM.addObj _ (quiet_cells ht))
  exact op_do hA i hi hg hdst hd he h.1 h.2
end
/-- Numbers of 16 bits that came in. -/
structure Rh (w : World) (so : Option Addr) (l : List Nat) : Prop where
  pos : l ≠ [] → ∃ b off, so = some ⟨b, off, none⟩ ∧ b < w.heap.size ∧ ∀ j, j < l.length → w.cell? ⟨b, off + j, none⟩ = some (.int .u16 (((l.getD j 0) : Nat) : Int))
  lt : ∀ j, l.getD j 0 < 65536
theorem ws_same {os ms : List Ob} (h : ms.map Ob.ws = os.map Ob.ws) {j : Nat} {q o : Ob} (hq : ms[j]? = some q) (ho : os[j]? = some o) : q.ws = o.ws := by
  have h1 : (ms.map Ob.ws)[j]? = some q.ws := by rw [List.getElem?_map, hq]; rfl
  rw [h, List.getElem?_map, ho] at h1
  exact (Option.some.inj h1).symm
theorem not_on {bs : List Bool} {i : Nat} (hi : i < bs.length) (h : ¬ On bs i) : bs[i]? = some false := by
  unfold On at h
  rw [List.getElem?_eq_getElem hi] at h ⊢
  cases k : bs[i] with
  | false => rfl
  | true => rw [k] at h; exact absurd rfl h
theorem mark_is {os : List Ob} {rs ws : List Int} {bs : List Bool} (hall : ∀ y : Nat, 1 ≤ y → (On bs y ↔ Rc os rs ((y : Nat) : Int))) (hW : ∀ x, x ∈ ws ↔ Rc os rs x) {y : Nat} (h1 : 1 ≤ y) (hl : y < bs.length) {b : Bool} (h : decide (((y : Nat) : Int) ∈ ws) = b) : bs[y]? = some b := by
  cases b with
  | true =>
    have := of_decide_eq_true h
    rw [hW] at this
    exact (hall y h1).2 this
  | false =>
    have := of_decide_eq_false h
    rw [hW] at this
    exact not_on hl (fun k => this ((hall y h1).1 k))
/-- Pieces change places with those behind them. -/
theorem Mg.swapE {w0 w : World} {C E R X : List Ck} (h : Mg w0 w (C ++ (E ++ (R ++ X)))) : Mg w0 w (C ++ (R ++ (E ++ X))) := by
  refine h.perm (List.Perm.append_left C ?_)
  rw [← List.append_assoc, ← List.append_assoc]
  exact List.Perm.append_right X List.perm_append_comm
/-- The rows of what goes are forgotten. -/
theorem Mg.stays {w0 w : World} {C X : List Ck} {os : List Ob} (ws : List Int) (h : Mg w0 w (C ++ (os.map Ob.row ++ X))) : Mg w0 w (C ++ ((mvD 0 (stay ws os)).map Ob.row ++ X)) := by
  rw [mvD_rows]
  exact h.sub ((List.Sublist.refl C).append ((List.filter_sublist.map Ob.row).append (List.Sublist.refl X)))
theorem on_snoc {sts : List Bool} {rs : List Int} {rx : Nat} (hl : rx < sts.length) (h : ∀ y : Nat, On sts y ↔ ((y : Nat) : Int) ∈ rs) : ∀ y : Nat, On (sts.set rx true) y ↔ ((y : Nat) : Int) ∈ rs ++ [((rx : Nat) : Int)] := by
  intro y
  rw [on_set hl, h y, List.mem_append, List.mem_singleton]
  constructor
  · rintro (k | k)
    · exact .inr (by omega)
    · exact .inl k
  · rintro (k | k)
    · exact .inr k
    · exact .inl (by omega)
theorem root_snoc {n : Nat} {rs : List Int} {rx : Nat} (hl : rx < n + 1) (h : ∀ r ∈ rs, 0 ≤ r ∧ r ≤ ((n : Nat) : Int)) : ∀ r ∈ rs ++ [((rx : Nat) : Int)], 0 ≤ r ∧ r ≤ ((n : Nat) : Int) := by
  intro r hr
  rcases List.mem_append.1 hr with k | k
  · exact h r k
  · rw [List.mem_singleton] at k; omega
theorem neqC {x y : Operand} {z z' : Int} {b b' : Bool} : ∀ w, (do eqGuard .neq 32 x y (.agg #[.int .i64 z, .bool b]) (.agg #[.int .i64 z', .bool b']); binOp .neq 32 (.agg #[.int .i64 z, .bool b]) (.agg #[.int .i64 z', .bool b']) : Sem Value).run Try.prog w = .ok (.bool (!(decide (z = z') && decide (b = b')))) w := fun w => by
  have u3 := Try.underlying3
  have a3 := Try.isAgg3
  have u4 := Try.underlying4
  have a4 := Try.isAgg4
  have hS : Try.prog.underlying 32 = some (.struct (Try.prog.fieldsOf 32)) := by kernel_rfl
  have hp : Try.prog.stoodInHeld 32 = false := by kernel_rfl
  have hm : Try.prog.eqGuardType Try.prog.depth 32 = false := by kernel_rfl
  rw [Sem.run_bind, run_eqGuard_agg w _ _ _ _ _ _ hm, Result.andThen_ok, run_neq_struct, show (10000 : Nat) = 9999 + 1 from rfl, run_equalIn_agg w 9999 32 _ _ hS hp]
  simp only [Program.fieldsOf, Try.underlying32]
  go_simp
  by_cases h1 : z = z'
  · by_cases h2 : b = b'
    · simp [h1, h2, Op.eqFields, Op.equalIn, part, u3, a3, u4, a4, run_underlying u3, run_underlying u4]
    · simp [h1, h2, Op.eqFields, Op.equalIn, part, u3, a3, u4, a4, run_underlying u3, run_underlying u4]
  · simp [h1, Op.eqFields, Op.equalIn, part, u3, a3, u4, a4, run_underlying u3, run_underlying u4]
end Go.Proofs.Ytcigofjajphmjaa
