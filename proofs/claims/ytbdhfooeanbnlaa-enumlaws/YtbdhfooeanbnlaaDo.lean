/- A law for each kind of step of a walk that leaves memory as it is, and for a walk's beginning, its end and its loops. -/
import Derived.Test.YtbdhfooeanbnlaaSl
namespace Go.Proofs.Ytbdhfooeanbnlaa
open Go.RowKit
set_option linter.unusedVariables false
set_option linter.unusedSimpArgs false

def over : List Value → Nat → List Value → List Value
  | vs, _, [] => vs
  | vs, o, c :: cs => over (vs.set o c) (o + 1) cs
section
variable {P : Program} {w w' : World}
structure IsS (P : Program) (t : TypeId) (n : Nat) : Prop where
  und : ∃ fs, P.underlying t = some (.struct fs)
  size : (P.info? t).map (·.size) = some n
theorem info_size {P : Program} {t : TypeId} {n : Nat} (h : (P.info? t).map (·.size) = some n) : ∃ i, P.info? t = some i ∧ i.size = n := by
  cases hi : P.info? t with
  | none => rw [hi] at h; cases h
  | some i => rw [hi] at h; exact ⟨i, rfl, by simpa using h⟩
structure Is1 (P : Program) (t : TypeId) : Prop where
  und : ∃ d, P.underlying t = some d ∧ (match d with | .struct _ | .array _ _ => false | _ => true) = true
  size : (P.info? t).map (·.size) = some 1
def FieldAt (P : Program) (s : TypeId) (f off : Nat) : Prop := ∃ fs fld, P.underlying s = some (.struct fs) ∧ fs[f]? = some fld ∧ fld.offset = off ∧ (P.info? fld.type).map (fun i => Nat.beq i.size 0) = some false
theorem addr_add (g o j : Nat) : (⟨g, o, none⟩ : Addr).add j = ⟨g, o + j, none⟩ := by unfold Addr.add; split <;> simp_all
theorem run_loadS {t : TypeId} {n : Nat} (ht : IsS P t n) {g o : Nat} (cs : List Value) (hl : cs.length = n) (hc : ∀ j v, cs[j]? = some v → w.cell? ⟨g, o + j, none⟩ = some v) : (loadVar t ⟨g, o, none⟩).run P w = .ok (.agg cs.toArray) w := by
  obtain ⟨fs, hu⟩ := ht.und
  obtain ⟨i, hi, hn⟩ := info_size ht.size
  have h1 : (isAgg t).run P w = .ok true w := by simp [isAgg, run_underlying hu]
  have h2 : (sizeOf t).run P w = .ok cs.length w := by simp [sizeOf, typeInfo, hi, hn, hl]
  have h3 := run_loadCells_list (P := P) w ⟨g, o, none⟩ cs (fun j v hj => by rw [addr_add]; exact hc j v hj)
  simp only [loadVar, Sem.run_bind, h1, Result.andThen_ok, if_true, h2, h3, Sem.run_pure]
theorem run_load1 {t : TypeId} (ht : Is1 P t) {a : Addr} {v : Value} (hc : w.cell? a = some v) : (loadVar t a).run P w = .ok v w := by
  obtain ⟨d, hu, hd⟩ := ht.und
  have h1 : (isAgg t).run P w = .ok false w := by
    cases d <;> first | (simp at hd; done) | simp [isAgg, run_underlying hu]
  simp only [loadVar, Sem.run_bind, h1, Result.andThen_ok, if_false, Bool.false_eq_true]
  simp [hc]
variable {l : List (Nat × Value)} {dst : Option Tmp} {ty : TypeId} {pos : String} {after : Array Edge} {guard : Option (Nat × Bool)} {v : Value}
theorem does_move {x : Operand} (hx : ev l x = some v) : Does P l ⟨dst, .move x, ty, pos, after, guard⟩ w v w := fun ρ h => by
  simp only [execOp, h x v hx]; rfl
theorem does_assign {x : Operand} (hx : ev l x = some v) : Does P l ⟨dst, .assign x, ty, pos, after, guard⟩ w v w := fun ρ h => by
  simp only [execOp, h x v hx]; rfl
theorem does_pick {c x y : Operand} {b : Bool} {u u' : Value} (hc : ev l c = some (.bool b)) (hx : ev l x = some u) (hy : ev l y = some u') (hv : v = cond b u u') : Does P l ⟨dst, .pick c x y, ty, pos, after, guard⟩ w v w := fun ρ h => by
  subst hv
  simp only [execOp, h c _ hc, h x _ hx, h y _ hy]
  cases b <;> rfl
theorem does_extract {x : Operand} {vs : List Value} {i : Nat} (hx : ev l x = some (.tuple vs.toArray)) (hi : vs[i]? = some v) : Does P l ⟨dst, .extract x i, ty, pos, after, guard⟩ w v w := fun ρ h => by
  simp only [execOp, h x _ hx, Instr.extract, List.getElem?_toArray, hi]; rfl
theorem does_load {t : TypeId} {x : Operand} {a : Addr} (hx : ev l x = some (.pointer (some a))) (hr : (loadVar t a).run P w = .ok v w) : Does P l ⟨dst, .load t x, ty, pos, after, guard⟩ w v w := fun ρ h => by
  simp only [execOp, h x _ hx, Instr.loadAt, Instr.sureAddr, Sem.run_bind, Sem.run_pure, Result.andThen_ok, hr]
theorem does_field {s : TypeId} {x : Operand} {f g o off o' : Nat} (hf : FieldAt P s f off) (hx : ev l x = some (.pointer (some ⟨g, o, none⟩))) (ho : o + off = o') : Does P l ⟨dst, .fieldAddr s x f, ty, pos, after, guard⟩ w (.pointer (some ⟨g, o', none⟩)) w := fun ρ h => by
  obtain ⟨fs, fld, hu, hff, hoff, hm⟩ := hf
  obtain ⟨i, hi, hz⟩ : ∃ i, P.info? fld.type = some i ∧ i.size ≠ 0 := by
    cases hi : P.info? fld.type with
    | none => rw [hi] at hm; cases hm
    | some i =>
      rw [hi] at hm
      refine ⟨i, rfl, fun e => ?_⟩
      simp [e] at hm
  subst ho
  have h2 : (sizeOf fld.type).run P w = .ok i.size w := by simp [sizeOf, typeInfo, hi]
  simp only [execOp, h x _ hx, Instr.fieldAt, Sem.run_bind, run_underlying hu, Result.andThen_ok, hff, Instr.sureAddr, Sem.run_pure, fieldPlace, h2, if_neg hz, addr_add, hoff]
theorem does_box {t : TypeId} {x : Operand} {u : Value} (hx : ev l x = some u) {vs : List Value} (hc : u.cells = vs.toArray) : Does P l ⟨dst, .box t x, ty, pos, after, guard⟩ w (.pointer (some ⟨w.heap.size, 0, none⟩)) (w.alloc (.cells vs.toArray t)) := fun ρ h => by
  simp only [execOp, h x _ hx, ← hc]; rfl
theorem does_alloc {t : TypeId} {z : Value} (hz : (P.info? t).map (·.zero) = some (some z)) {vs : List Value} (hc : z.cells = vs.toArray) : Does P l ⟨dst, .alloc t, ty, pos, after, guard⟩ w (.pointer (some ⟨w.heap.size, 0, none⟩)) (w.alloc (.cells vs.toArray t)) := fun ρ h => by
  cases hi : P.info? t with
  | none => rw [hi] at hz; cases hz
  | some i =>
    rw [hi] at hz
    simp only [Option.map_some, Option.some.injEq] at hz
    have h1 : (zeroValue t).run P w = .ok z w := by simp [zeroValue, typeInfo, hi, hz]
    simp only [execOp, Instr.alloc, Sem.run_bind, h1, Result.andThen_ok, ← hc]
    rfl
theorem does_build {t : TypeId} {parts : List (Nat × Operand)} {pv : List (Nat × Value)} (hp : evp l parts = some pv) (hb : ∀ w, (Instr.build t pv.toArray).run P w = .ok v w) : Does P l ⟨dst, .build t parts.toArray, ty, pos, after, guard⟩ w v w := fun ρ h => by
  have e : parts.toArray.map (fun p => (p.1, ρ p.2)) = pv.toArray := by
    simp only [List.map_toArray]
    congr 1
    have : ∀ (xs : List (Nat × Operand)) (vs : List (Nat × Value)), evp l xs = some vs → xs.map (fun p => (p.1, ρ p.2)) = vs := by
      intro xs
      induction xs with
      | nil => intro vs hx; simp [evp] at hx; simp [hx]
      | cons x xs ih =>
        intro vs hx
        obtain ⟨i, x⟩ := x
        unfold evp at hx
        split at hx
        · rename_i v us h1 h2
          cases hx
          simp [h _ _ h1, ih _ h2]
        · cases hx
    exact this parts pv hp
  have e' : (parts.toArray.map fun (i, x) => (i, ρ x)) = pv.toArray := e
  simp only [execOp, e', Sem.run_bind, hb w, Result.andThen_ok, Sem.run_pure]
theorem does_buildSlice {t : TypeId} {n : Nat} {parts : List (Nat × Operand)} {pv : List (Nat × Value)} (hp : evp l parts = some pv) {w' : World} (hb : (Instr.buildSlice t n pv.toArray).run P w = .ok v w') : Does P l ⟨dst, .buildSlice t n parts.toArray, ty, pos, after, guard⟩ w v w' := fun ρ h => by
  have e : parts.toArray.map (fun p => (p.1, ρ p.2)) = pv.toArray := by
    simp only [List.map_toArray]
    congr 1
    have : ∀ (xs : List (Nat × Operand)) (vs : List (Nat × Value)), evp l xs = some vs → xs.map (fun p => (p.1, ρ p.2)) = vs := by
      intro xs
      induction xs with
      | nil => intro vs hx; simp [evp] at hx; simp [hx]
      | cons x xs ih =>
        intro vs hx
        obtain ⟨i, x⟩ := x
        unfold evp at hx
        split at hx
        · rename_i v us h1 h2
          cases hx
          simp [h _ _ h1, ih _ h2]
        · cases hx
    exact this parts pv hp
  have e' : (parts.toArray.map fun (i, x) => (i, ρ x)) = pv.toArray := e
  simp only [execOp, e', Sem.run_bind, hb, Result.andThen_ok, Sem.run_pure]
theorem does_len {x : Operand} {t e : TypeId} {so : Option Addr} {n c : Nat} (hu : P.underlying t = some (.slice e)) (hx : ev l x = some (.slice so n c)) : Does P l ⟨dst, .call ⟨.builtin .len, #[x], #[t]⟩, ty, pos, after, guard⟩ w (.int .i64 n) w := fun ρ h => by
  have := h x _ hx
  simp [go_sem, this, Builtin.len_, run_underlying hu, goInt]
theorem does_bin {b : BinOp} {t t' : TypeId} {x y : Operand} {u u' : Value} (hx : ev l x = some u) (hy : ev l y = some u') (hr : ∀ w, (do eqGuard b t x y u u'; binOp b t u u' : Sem Value).run P w = .ok v w) : Does P l ⟨dst, .binOp b t x y t', ty, pos, after, guard⟩ w v w := fun ρ h => by
  simp only [execOp, h x _ hx, h y _ hy]
  rw [Sem.run_bind, hr w]
  rfl
theorem does_un {b : UnOp} {t : TypeId} {x : Operand} {u : Value} (hx : ev l x = some u) (hr : ∀ w, (Op.unary b u).run P w = .ok v w) : Does P l ⟨dst, .unOp b t x, ty, pos, after, guard⟩ w v w := fun ρ h => by
  simp only [execOp, h x _ hx, Sem.run_bind, hr w, Result.andThen_ok, Sem.run_pure]
theorem enters_func {x : Operand} {f : FuncId} {args : List Operand} {ts : Array TypeId} {vs : List Value} (hx : ev l x = some (.func (.func f) #[] #[])) (ha : evs l args = some vs) (hf : ∀ w, (invoke (.fn (.func f) #[]) vs.toArray).run P w = .ok (.enter f vs.toArray) w) :
    Enters P l ⟨dst, .call ⟨.value x, args.toArray, ts⟩, ty, pos, after, guard⟩ w f vs := fun ρ h => by
  have e : args.map ρ = vs := by
    have : ∀ (xs : List Operand) (vs : List Value), evs l xs = some vs → xs.map ρ = vs := by
      intro xs
      induction xs with
      | nil => intro vs hx; simp [evs] at hx; simp [hx]
      | cons x xs ih =>
        intro vs hx
        unfold evs at hx
        split at hx
        · rename_i v us h1 h2
          cases hx
          simp [h _ _ h1, ih _ h2]
        · cases hx
    exact this args vs ha
  have := hf w
  simp [execOp, resolve, h x _ hx, Deferred.ofValue, e, this]
theorem evs_map {ρ : Operand → Value} (h : ∀ x u, ev l x = some u → ρ x = u) : ∀ (xs : List Operand) (vs : List Value), evs l xs = some vs → xs.map ρ = vs := by
  intro xs
  induction xs with
  | nil => intro vs hx; simp [evs] at hx; simp [hx]
  | cons x xs ih =>
    intro vs hx
    unfold evs at hx
    split at hx
    · rename_i v us h1 h2
      cases hx
      simp [h _ _ h1, ih _ h2]
    · cases hx
/-- A call through a function value: what is captured stands behind the arguments. -/
theorem enters_fn {x : Operand} {f : FuncId} {cs : List Value} {args : List Operand} {ts : Array TypeId} {vs : List Value} (hx : ev l x = some (.func (.func f) #[] cs.toArray)) (ha : evs l args = some vs) (hf : ∀ (us : Array Value) w, (callFunc f us).run P w = .ok (.enter f us) w) :
    Enters P l ⟨dst, .call ⟨.value x, args.toArray, ts⟩, ty, pos, after, guard⟩ w f (vs ++ cs) := fun ρ h => by
  have e : args.map ρ = vs := evs_map h args vs ha
  simp [execOp, resolve, h x _ hx, Deferred.ofValue, e, invoke, hf]
/-- A function value is made. -/
theorem does_makeFunc {f : FuncId} {cs : List Operand} {vs : List Value} (hc : evs l cs = some vs) : Does P l ⟨dst, .makeFunc (.func f) #[] cs.toArray, ty, pos, after, guard⟩ w (.func (.func f) #[] vs.toArray) w := fun ρ h => by
  have e : cs.map ρ = vs := evs_map h cs vs hc
  simp [execOp, Instr.makeFunc, e]
end
/-! ### The end -/
section
variable {P : Program} {w w' : World} {l : List (Nat × Value)} {v : Value}
def resOf (P : Program) (l : List (Nat × Value)) (w : World) : ResultVar → Value → Prop
  | .tmp t, v => look l t = some v
  | .cell c t, v => ∃ p, look l c = some (.pointer (some p)) ∧ (loadVar t p).run P w = .ok v w
def AllRes (P : Program) (l : List (Nat × Value)) (w : World) : List ResultVar → List Value → Prop
  | [], [] => True
  | r :: rs, v :: vs => resOf P l w r v ∧ AllRes P l w rs vs
  | _, _ => False
theorem AllRes.nil : AllRes P l w [] [] := trivial
theorem AllRes.cons {r : ResultVar} {v : Value} {rs : List ResultVar} {vs : List Value} (h : resOf P l w r v) (t : AllRes P l w rs vs) : AllRes P l w (r :: rs) (v :: vs) := ⟨h, t⟩
variable {a : Act} {n : Nat} {fn : Func} {Z : Ending → World → Prop}
theorem res_tmp {t : Tmp} (h : look l t = some v) : resOf P l w (.tmp t) v := h
def resSem (tmps : Array Value) : ResultVar → Sem Value
  | .tmp t => pure (tmps.getD t undef)
  | .cell c t => do loadVar t (← asAddr (tmps.getD c undef))
def packed : List Value → Value
  | [x] => x
  | xs => .tuple xs.toArray
theorem Sl.res (hA : Sl a n l) {r : ResultVar} (h : resOf P l w r v) : (resSem a.tmps r).run P w = .ok v w := by
  cases r with
  | tmp t =>
    have := hA.holds t v h
    simp [resSem, Array.getD_eq_getD_getElem?, this]
  | cell c t =>
    obtain ⟨p, hp, hr⟩ := h
    have := hA.holds c _ hp
    simp [resSem, Array.getD_eq_getD_getElem?, this, asAddr, hr]
theorem results_list (hA : Sl a n l) : ∀ (rs : List ResultVar) (vs : List Value), AllRes P l w rs vs → Sem.run P (rs.mapM (resSem a.tmps)) w = .ok vs w
  | [], [], _ => by simp
  | [], _ :: _, h => h.elim
  | _ :: _, [], h => h.elim
  | r :: rs, v :: vs, h => by
    have e1 := hA.res h.1
    have e2 := results_list hA rs vs h.2
    simp only [List.mapM_cons, Sem.run_bind, e1, Result.andThen_ok, e2, Sem.run_pure]
theorem ends (hA : Sl a n l) {rs : List ResultVar} (hrs : fn.results = rs.toArray) {vs : List Value} (hvs : AllRes P l w rs vs) (hv : packed vs = v) (hz : Z (.returned v) w) : bodyPost P fn Z .ret a w := by
  refine ⟨hA.none_, v, ?_, hz⟩
  have e := results_list hA rs vs hvs
  subst hv
  have e' : results fn a.tmps = (do let us ← fn.results.mapM (resSem a.tmps); pure (if h : us.size = 1 then us[0] else .tuple us)) := by
    unfold results
    congr 1
  have e2 : Sem.run P (List.toArray <$> rs.mapM (resSem a.tmps)) w = .ok vs.toArray w := by
    show Sem.run P (rs.mapM (resSem a.tmps) >>= fun us => pure us.toArray) w = _
    rw [Sem.run_bind, e]
    rfl
  rw [e', hrs, List.mapM_toArray, Sem.run_bind, e2, Result.andThen_ok]
  match vs with
  | [] => simp [packed]
  | [x] => simp [packed]
  | x :: y :: r => simp [packed]
theorem walk_of {f : FuncId} {fn : Func} {c : Code} {args : List Value} {n : Nat} {Z : Ending → World → Prop} (hf : P.funcs[f]? = some fn) (hb : fn.body = some c) (hn : fn.ntmps = n) (hl : Nat.ble args.length n = true) (hs : (args.zipIdx.map fun p => (p.2, p.1)) = l)
    (h : ∀ Q : Exit → Act → World → Prop, (∀ a w, bodyPost P fn Z .ret a w → Q .ret a w) → (∀ a w, bodyPost P fn Z .ret a w → Q .normal a w) → (∀ c a d v w, Q (.panic c) (Act.put a d v) w → Q (.panic c) a w) → ∀ a, Sl a n l → c.wp P Q a w) : Calls P f args.toArray w Z := by
  subst hs
  refine calls_of_wp hf hb (h _ (fun _ _ h => h) (fun _ _ h => h) (fun c a d v w h => ?_) _ ?_)
  · cases d <;> exact h
  · rw [hn]
    exact Sl.enter (Nat.le_of_ble_eq_true hl)
end
/-! ### Loops -/
section
variable {P : Program} {w : World} {Q : Exit → Act → World → Prop} {a : Act} {c : Code}
theorem rounds_k {m : Nat} (h : ∀ K : Act → World → Prop, (∀ a w, Code.rounds P c Q m a w → K a w) → c.wp P (Exit.then K Q) a w) : Code.rounds P c Q (m + 1) a w := h _ (fun _ _ h => h)
theorem rounds_mono : ∀ n m, n ≤ m → ∀ a w, Code.rounds P c Q n a w → Code.rounds P c Q m a w
  | 0, _, _, _, _, h => h.elim
  | n + 1, 0, hl, _, _, _ => by omega
  | n + 1, m + 1, hl, a, w, h => Code.wp_mono (fun e a w q => by
      cases e <;> first | exact rounds_mono n m (by omega) _ _ q | exact q) h
theorem wp_loop_n (I : Nat → Act → World → Prop) (N : Nat) (h0 : I N a w) (round : ∀ m a w, I m a w → ∀ K : Act → World → Prop, (∀ m' a' w', m' < m → I m' a' w' → K a' w') → c.wp P (Exit.then K Q) a w) : (Code.loop c).wp P Q a w := by
  have key : ∀ m a w, I m a w → Code.rounds P c Q (m + 1) a w := by
    intro m
    induction m using Nat.strongRecOn with
    | _ m ih =>
      intro a w h
      exact round m a w h _ (fun m' a' w' hm h' => rounds_mono (m' + 1) m (by omega) _ _ (ih m' hm a' w' h'))
  exact wp_loop_rounds (N + 1) (key N a w h0)
end
section
variable {P : Program} {w w' : World} {l : List (Nat × Value)} {dst : Option Tmp} {ty : TypeId} {pos : String} {after : Array Edge} {guard : Option (Nat × Bool)} {v : Value}
theorem does_indexI {t : TypeId} {x i : Operand} {u u' : Value} (hx : ev l x = some u) (hi : ev l i = some u') (hr : ∀ w, (Instr.indexAt t u u').run P w = .ok v w) : Does P l ⟨dst, .indexAddr t x i, ty, pos, after, guard⟩ w v w := fun ρ h => by
  simp only [execOp, h x _ hx, h i _ hi, Sem.run_bind, hr w, Result.andThen_ok, Sem.run_pure]
theorem run_indexU {t e : TypeId} (hu : P.underlying t = some (.slice e)) (he : (P.info? e).map (·.size) = some 1) {g o n c k : Nat} (hk : k < n) : ∀ w, (Instr.indexAt t (.slice (some ⟨g, o, none⟩) n c) (.int .i64 (k : Nat))).run P w = .ok (.pointer (some ⟨g, o + k, none⟩)) w := fun w => by
  obtain ⟨i, hi, hs⟩ := info_size he
  have h2 : (sizeOf e).run P w = .ok 1 w := by simp [sizeOf, typeInfo, hi, hs]
  have h3 : (0 : Int) ≤ (k : Nat) ∧ ((k : Nat) : Int) < (n : Nat) := ⟨by omega, by omega⟩
  simp [Instr.indexAt, asIntOf, run_underlying hu, h2, h3, addr_add]
  intro h
  omega
theorem does_fieldV {t : TypeId} {x : Operand} {f : Nat} {u : Value} (hx : ev l x = some u) (hr : ∀ w, (Instr.field t u f).run P w = .ok v w) : Does P l ⟨dst, .field t x f, ty, pos, after, guard⟩ w v w := fun ρ h => by
  simp only [execOp, h x _ hx, Sem.run_bind, hr w, Result.andThen_ok, Sem.run_pure]
theorem does_convert {s d : TypeId} {x : Operand} {u : Value} (hx : ev l x = some u) (hr : ∀ w, (convert s d u).run P w = .ok v w) : Does P l ⟨dst, .convert s d x, ty, pos, after, guard⟩ w v w := fun ρ h => by
  simp only [execOp, h x _ hx, Sem.run_bind, hr w, Result.andThen_ok, Sem.run_pure]
theorem does_builtin {b : Builtin} {xs : List Operand} {ts : Array TypeId} {vs : List Value} (hx : evs l xs = some vs) (hr : ∀ w cs, (builtin b ts ty cs vs.toArray).run P w = .ok (.value v) w) : Does P l ⟨dst, .call ⟨.builtin b, xs.toArray, ts⟩, ty, pos, after, guard⟩ w v w := fun ρ h => by
  have e : xs.map ρ = vs := by
    have : ∀ (xs : List Operand) (vs : List Value), evs l xs = some vs → xs.map ρ = vs := by
      intro xs
      induction xs with
      | nil => intro vs hx; simp [evs] at hx; simp [hx]
      | cons x xs ih =>
        intro vs hx
        unfold evs at hx
        split at hx
        · rename_i v us h1 h2
          cases hx
          simp [h _ _ h1, ih _ h2]
        · cases hx
    exact this xs vs hx
  rw [BigFrame.execOp_builtin]
  simp only [List.map_toArray, e, hr]
end
/-! ### Operators -/
section
variable {P : Program} {t : TypeId} {x y : Operand} {k : IntKind} {a b : Int}
theorem bin_lss : ∀ w, (do eqGuard .lss t x y (.int k a) (.int k b); binOp .lss t (.int k a) (.int k b) : Sem Value).run P w = .ok (.bool (decide (a < b))) w := fun w => by simp [go_sem]
theorem bin_leq : ∀ w, (do eqGuard .leq t x y (.int k a) (.int k b); binOp .leq t (.int k a) (.int k b) : Sem Value).run P w = .ok (.bool (decide (a ≤ b))) w := fun w => by simp [go_sem]
theorem bin_gtr : ∀ w, (do eqGuard .gtr t x y (.int k a) (.int k b); binOp .gtr t (.int k a) (.int k b) : Sem Value).run P w = .ok (.bool (decide (b < a))) w := fun w => by simp [go_sem]
theorem bin_geq : ∀ w, (do eqGuard .geq t x y (.int k a) (.int k b); binOp .geq t (.int k a) (.int k b) : Sem Value).run P w = .ok (.bool (decide (b ≤ a))) w := fun w => by simp [go_sem]
theorem bin_eql : ∀ w, (do eqGuard .eql t x y (.int k a) (.int k b); binOp .eql t (.int k a) (.int k b) : Sem Value).run P w = .ok (.bool (a == b)) w := fun w => by simp [go_sem]
theorem bin_neq : ∀ w, (do eqGuard .neq t x y (.int k a) (.int k b); binOp .neq t (.int k a) (.int k b) : Sem Value).run P w = .ok (.bool (a != b)) w := fun w => by simp [go_sem]
theorem bin_eqlB (hu : P.underlying t = some .bool) {c d : Bool} : ∀ w, (do eqGuard .eql t x y (.bool c) (.bool d); binOp .eql t (.bool c) (.bool d) : Sem Value).run P w = .ok (.bool (c == d)) w := fun w => by
  simp [go_sem, hu, run_underlying hu]
theorem bin_neqB (hu : P.underlying t = some .bool) {c d : Bool} : ∀ w, (do eqGuard .neq t x y (.bool c) (.bool d); binOp .neq t (.bool c) (.bool d) : Sem Value).run P w = .ok (.bool (!(c == d))) w := fun w => by
  simp [go_sem, hu, run_underlying hu]
theorem un_not {c : Bool} : ∀ w, (Op.unary .not (.bool c)).run P w = .ok (.bool (!c)) w := fun w => by simp [go_sem]
end
section
variable {P : Program} {w : World} {Q : Exit → Act → World → Prop} {a : Act} {ops : List Oper} {S : World → Prop}
theorem wp_draw {id : Nat} (hm : P.follows .mixedOrders = true) (h : wpAnyH P .any ops.toArray Q S ops.length (Array.replicate ops.length false) a w.drew) : (Code.region id ops.toArray true).wp P Q a w :=
  wp_region_held (S := S) hm (by simpa using h)
end
/-- An operation whose guard was passed over itself. -/
def staysU (l : List (Nat × Value)) (ops : List Oper) (o : Oper) : Bool :=
  match o.guard with
  | none => false
  | some (j, b) => match ops[j]? with
    | some oj => match oj.dst with
      | some d => match look l d with
        | some (.bool _) => false
        | some _ => true
        | none => false
      | none => false
    | none => false
section
variable {P : Program} {ops : List Oper} {Q : Exit → Act → World → Prop} {a : Act} {w w' : World} {n : Nat} {l : List (Nat × Value)} {o : Oper} {v : Value} {rest : List Oper}
theorem Sl.unwantedU (h : Sl a n l) (hp : staysU l ops o = true) : Region.wanted o (yielded ops.toArray a.tmps) = false := by
  unfold Region.wanted
  unfold staysU at hp
  split at hp
  · cases hp
  · rename_i j b hg
    rw [hg]
    split at hp
    · rename_i oj hj
      split at hp
      · rename_i d hd
        split at hp
        · cases hp
        · rename_i v' hb hv
          have := h.holds d _ hv
          cases v' <;> first | (exact absurd rfl (hb _)) | simp [yielded, hj, hd, this]
        · cases hp
      · cases hp
    · cases hp
theorem seq_skipU (hA : Sl a n l) (hg : staysU l ops o = true) {d : Nat} (hdst : o.dst = some d) (hd : Nat.blt d n = true)
    (hk : ∀ a', Sl a' n ((d, undef) :: l) → wpList P ops.toArray Q rest a' w) : wpList P ops.toArray Q (o :: rest) a w := by
  unfold wpList
  rw [hA.unwantedU hg, if_neg (by simp), hdst]
  exact hk _ (hA.put hd undef)
end
end Go.Proofs.Ytbdhfooeanbnlaa
