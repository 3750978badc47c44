/- Maps of the call's own whose keys are ints, as pieces of memory: what each kind of step does to them. The heap's parts as cells: gaps, words, objects. Rows of numbers and of objects; marks; what a sweep leaves; what is moved down; what is laid free. What is reached from roots, and when a list of handles is just that. More of sweeps, of what is live, of what is moved and of what stands. What the law of room keeps of a heap. What the law of collections keeps: stacks of objects, a model of their words, marks round by round. Rounds of marks, and where what uf stands. Places: what is free of objects, which parts are laid free, and where a new object stands. The document's heap as rows: objects of three cells, and their words. Walks of the document: where objects stand. Walks of the document: what is asked of a heap. Walks of the document: what is made and what is set. -/
import Derived.Test.YtjjkcpmhlcjaoaaPheappl9b
import Derived.Maps.RangeRun
import Derived.Test.YtjjkcpmhlcjaoaaProg
namespace Go.Proofs.Ytjjkcpmhlcjaoaa
open Go.RowKit Go.MapKept
open Go.ChangeMaps (setBlock)
set_option linter.unusedVariables false
set_option linter.unusedSimpArgs false

/-- An entry: its key, its value, its stamp. -/
structure En where
  k : Int
  v : Value
  b : Nat
def En.e (x : En) : MapEntry := ⟨.int .i64 x.k, x.v, x.b⟩
/-- A map as an object. -/
def qc (es : List En) (ck : Nat) : Obj := .map (es.map En.e).toArray ck
theorem xo (es : List En) (ck : Nat) : xx (qc es ck) := fun c fz e => by cases e
theorem qdf (m : Option Nat) (s : Nat) (seen : Array Nat) (c : Nat) : xx (.mapIter m s seen c) := fun c fz e => by cases e
/-- The entry of a key. -/
def atK (x : Int) : List En → Option En
  | [] => none
  | e :: es => if e.k = x then some e else atK x es
/-- .. where it stands. -/
def xg (x : Int) : List En → Nat
  | [] => 0
  | e :: es => if e.k = x then 0 else xg x es + 1
/-- A key's value is changed. -/
def qge (x : Int) (v : Value) : List En → List En
  | [] => []
  | e :: es => if e.k = x then ⟨x, v, e.b⟩ :: es else e :: qge x v es
/-- A key goes. -/
def kz (x : Int) : List En → List En
  | [] => []
  | e :: es => if e.k = x then es else e :: kz x es
theorem qih (x : Int) : ∀ (es : List En) (i : Nat), Instr.findNow (.int .i64) (.int .i64 x) (es.map En.e) i = some ((atK x es).map fun e => (i + xg x es, e.v))
  | [], _ => rfl
  | e :: es, i => by
    simp only [List.map_cons, Instr.findNow, En.e, Instr.sameNow, if_true, atK, xg]
    by_cases h : e.k = x
    · rw [if_pos h, if_pos h, h]; simp
    · rw [if_neg h, if_neg h]
      have : (x == e.k) = false := beq_false_of_ne (fun k => h k.symm)
      rw [this]
      have ih := qih x es (i + 1)
      simp only [En.e] at ih ⊢
      rw [ih]
      cases atK x es <;> simp <;> omega
theorem atK_at {x : Int} : ∀ {es : List En} {e : En}, atK x es = some e → es[xg x es]? = some e ∧ e.k = x
  | [], _, h => by cases h
  | a :: es, e, h => by
    simp only [atK, xg] at h ⊢
    by_cases k : a.k = x
    · rw [if_pos k] at h; rw [if_pos k]; cases h; exact ⟨rfl, k⟩
    · rw [if_neg k] at h; rw [if_neg k]; exact atK_at h
theorem qii {x : Int} {v : Value} : ∀ {es : List En} {e : En}, atK x es = some e → qge x v es = es.set (xg x es) ⟨x, v, e.b⟩
  | [], _, h => by cases h
  | a :: es, e, h => by
    simp only [atK, xg, qge] at h ⊢
    by_cases k : a.k = x
    · rw [if_pos k] at h; rw [if_pos k, if_pos k]; cases h; rfl
    · rw [if_neg k] at h; rw [if_neg k, if_neg k, List.set_cons_succ, qii h]
theorem yc {x : Int} : ∀ {es : List En} {e : En}, atK x es = some e → kz x es = es.eraseIdx (xg x es)
  | [], _, h => by cases h
  | a :: es, e, h => by
    simp only [atK, xg, kz] at h ⊢
    by_cases k : a.k = x
    · rw [if_pos k, if_pos k]; rfl
    · rw [if_neg k] at h; rw [if_neg k, if_neg k, List.eraseIdx_cons_succ, yc h]
section
variable {P : Program} {w0 w : World} {L : List Ck} {l : List (Nat × Value)} {dst : Option Tmp} {ty : TypeId} {pos : String} {after : Array Edge} {guard : Option (Nat × Bool)} {v : Value} {t kt et : TypeId}
theorem vp (hk : P.underlying kt = some (.int .i64)) (x : Int) (es : List En) : (Instr.findKey kt (.int .i64 x) (es.map En.e)).run P w = .ok ((atK x es).map fun e => (xg x es, e.v)) w := by
  have := MapKept.run_findKey (w := w) hk (qih x es 0)
  simpa using this
theorem Mg.setObj (h : Mg w0 w L) (k : Nat) {g : Nat} {o o' : Obj} (hk : L[k]? = some (.obj g o)) (hq : xx o') : Mg w0 (setBlock w g o') (L.set k (.obj g o')) := by
  have ho := h.obj k hk
  refine h.turn k hk (by simp) ⟨rfl, rfl, rfl, by simp [setBlock], fun j hj hne => (heap_set ho).2 j (fun e => hne (by rw [e]; rfl))⟩ ⟨(h.has k hk).1, (heap_set ho).1⟩ (fun c _ ha => ?_)
  cases c with
  | obj g' o' => exact ha
  | row e' sz' v' n' xs' => exact ha
  | bld b' bs' => exact ⟨ha.1, hq⟩
/-- A xt at a key that is there. -/
theorem kh (hM : Mg w0 w L) (ht : P.underlying t = some (.map kt et)) (hkt : P.underlying kt = some (.int .i64)) {x y : Operand} {c : Bool} {g ck : Nat} {z : Int} {es : List En} {e : En} (hx : ev l x = some (.map (some g))) (hy : ev l y = some (.int .i64 z)) (k : Nat) (hk : L[k]? = some (.obj g (qc es ck))) (he : atK z es = some e)
    (hv : v = cond c (.tuple #[e.v, .bool true]) e.v) : Does P l ⟨dst, .lookup t x y c, ty, pos, after, guard⟩ w v w := fun ρ h => by
  subst hv
  have h1 := MapKept.run_getObj_map (P := P) (hM.obj k hk)
  have h2 : ∀ b : Bool, (Instr.checkKey b 10000 kt (.int .i64 z)).run P w = .ok () w := fun b => MapKept.run_checkKey hkt (by simp [IsKey]) b 9999
  have h3 := vp (P := P) (w := w) hkt z es
  rw [he] at h3
  simp only [execOp, h x _ hx, h y _ hy, Instr.lookup, Sem.run_bind, run_underlying ht, Result.andThen_ok, h1, h2, h3, Option.map_some, Sem.run_pure]
  cases c <;> rfl
/-- .. that is not. -/
theorem ut (hM : Mg w0 w L) (ht : P.underlying t = some (.map kt et)) (hkt : P.underlying kt = some (.int .i64)) {zv : Value} (hz : (P.info? et).map (·.zero) = some (some zv)) {x y : Operand} {c : Bool} {g ck : Nat} {z : Int} {es : List En} (hx : ev l x = some (.map (some g))) (hy : ev l y = some (.int .i64 z)) (k : Nat) (hk : L[k]? = some (.obj g (qc es ck))) (he : atK z es = none)
    (hv : v = cond c (.tuple #[zv, .bool false]) zv) : Does P l ⟨dst, .lookup t x y c, ty, pos, after, guard⟩ w v w := fun ρ h => by
  subst hv
  have h1 := MapKept.run_getObj_map (P := P) (hM.obj k hk)
  have h2 : ∀ b : Bool, (Instr.checkKey b 10000 kt (.int .i64 z)).run P w = .ok () w := fun b => MapKept.run_checkKey hkt (by simp [IsKey]) b 9999
  have h3 := vp (P := P) (w := w) hkt z es
  rw [he] at h3
  have h4 : (zeroValue et).run P w = .ok zv w := by
    cases hi : P.info? et with
    | none => rw [hi] at hz; cases hz
    | some i =>
      rw [hi] at hz
      simp only [Option.map_some, Option.some.injEq] at hz
      simp [zeroValue, typeInfo, hi, hz]
  simp only [execOp, h x _ hx, h y _ hy, Instr.lookup, Sem.run_bind, run_underlying ht, Result.andThen_ok, h1, h2, h3, Option.map_none, Sem.run_pure, h4]
  cases c <;> rfl
theorem qad (hM : Mg w0 w L) (ht : P.underlying t = some (.map kt et)) (hkt : P.underlying kt = some (.int .i64)) {x y u : Operand} {g ck : Nat} {z : Int} {es : List En} (hx : ev l x = some (.map (some g))) (hy : ev l y = some (.int .i64 z)) (hu : ev l u = some v) (k : Nat) (hk : L[k]? = some (.obj g (qc es ck))) (he : atK z es = none) :
    Sets P l ⟨dst, .mapUpdate t x y u, ty, pos, after, guard⟩ w (setBlock w g (qc (es ++ [⟨z, v, ck⟩]) (ck + 1))) := fun ρ h => by
  have ho := hM.obj k hk
  have h1 := MapKept.run_getObj_map (P := P) ho
  have h2 : ∀ b : Bool, (Instr.checkKey b 10000 kt (.int .i64 z)).run P w = .ok () w := fun b => MapKept.run_checkKey hkt (by simp [IsKey]) b 9999
  have h3 := vp (P := P) (w := w) hkt z es
  rw [he] at h3
  have h4 := fun o' => MapKept.run_setObj_map (P := P) o' ho
  have e1 : (es.map En.e).toArray.push ⟨.int .i64 z, v, ck⟩ = ((es ++ [(⟨z, v, ck⟩ : En)]).map En.e).toArray := by simp [En.e]
  simp only [execOp, h x _ hx, h y _ hy, h u _ hu, Instr.mapUpdate, Sem.run_bind, run_underlying ht, Result.andThen_ok, h1, h2, h3, Option.map_none, Sem.run_pure, h4, e1]
  rfl
theorem sets_old (hM : Mg w0 w L) (ht : P.underlying t = some (.map kt et)) (hkt : P.underlying kt = some (.int .i64)) {x y u : Operand} {g ck : Nat} {z : Int} {es : List En} {e : En} (hx : ev l x = some (.map (some g))) (hy : ev l y = some (.int .i64 z)) (hu : ev l u = some v) (k : Nat) (hk : L[k]? = some (.obj g (qc es ck))) (he : atK z es = some e) :
    Sets P l ⟨dst, .mapUpdate t x y u, ty, pos, after, guard⟩ w (setBlock w g (qc (qge z v es) ck)) := fun ρ h => by
  have ho := hM.obj k hk
  have h1 := MapKept.run_getObj_map (P := P) ho
  have h2 : ∀ b : Bool, (Instr.checkKey b 10000 kt (.int .i64 z)).run P w = .ok () w := fun b => MapKept.run_checkKey hkt (by simp [IsKey]) b 9999
  have h3 := vp (P := P) (w := w) hkt z es
  rw [he] at h3
  have h4 := fun o' => MapKept.run_setObj_map (P := P) o' ho
  obtain ⟨ha, hz⟩ := atK_at he
  have e0 : ((es.map En.e).toArray[xg z es]?) = some e.e := by simp [ha]
  have e2 : (Instr.keyThatStays (.int .i64 z) (.int .i64 z)).run P w = .ok (.int .i64 z) w := MapKept.run_keyThatStays (d := .int .i64) (by simp [IsKey])
  have e1 : (es.map En.e).toArray.modify (xg z es) (fun e => { e with key := .int .i64 z, val := v }) = ((qge z v es).map En.e).toArray := by
    apply Array.ext'
    rw [Array.toList_modify, Go.ChangeMaps.modify_eq_set _ _ _ e.e (by simp [ha]), qii he, List.map_set]
    rfl
  simp only [execOp, h x _ hx, h y _ hy, h u _ hu, Instr.mapUpdate, Sem.run_bind, run_underlying ht, Result.andThen_ok, h1, h2, h3, Option.map_some, Sem.run_pure, h4, e0, Option.getD_some, En.e, hz, e2]
  rw [e1]
  rfl
theorem sets_del (hM : Mg w0 w L) (ht : P.underlying t = some (.map kt et)) (hkt : P.underlying kt = some (.int .i64)) {x y : Operand} {g ck : Nat} {z : Int} {es : List En} {e : En} (hx : ev l x = some (.map (some g))) (hy : ev l y = some (.int .i64 z)) (k : Nat) (hk : L[k]? = some (.obj g (qc es ck))) (he : atK z es = some e) :
    Does P l ⟨dst, .call ⟨.builtin .delete, #[x, y], #[t, kt]⟩, ty, pos, after, guard⟩ w (.tuple #[]) (setBlock w g (qc (kz z es) ck)) := fun ρ h => by
  have ho := hM.obj k hk
  have h1 := MapKept.run_getObj_map (P := P) ho
  have h2 : ∀ b : Bool, (Instr.checkKey b 10000 kt (.int .i64 z)).run P w = .ok () w := fun b => MapKept.run_checkKey hkt (by simp [IsKey]) b 9999
  have h3 := vp (P := P) (w := w) hkt z es
  rw [he] at h3
  have h4 := fun o' => MapKept.run_setObj_map (P := P) o' ho
  obtain ⟨ha, hz⟩ := atK_at he
  have e1 : (es.map En.e).toArray.eraseIdxIfInBounds (xg z es) = ((kz z es).map En.e).toArray := by
    apply Array.ext'
    have hlt := (List.getElem?_eq_some_iff.1 ha).1
    unfold Array.eraseIdxIfInBounds
    rw [dif_pos (by simpa using hlt), yc he, Go.ChangeMaps.map_eraseIdx]
    simp
  simp only [execOp, resolve, invoke, builtin, h x _ hx, h y _ hy, List.map_toArray, List.map_cons, List.map_nil, Sem.run_bind, Sem.run_pure, Result.andThen_ok, Builtin.delete_, run_underlying ht, h1, h2, h3, Option.map_some, h4, e1]
  simp [run_underlying ht, h1, h2, h3, h4, e1, Builtin.delete_, Result.andThen]
  rw [yc he] at *
  simp [qc, setBlock, Go.ChangeMaps.map_eraseIdx]
section
variable {ops : List Oper} {Q : Exit → Act → World → Prop} {a : Act} {n : Nat} {o : Oper} {rest : List Oper} {d : Nat} {S : World → Prop} {md : Region.Mode} {fuel : Nat} {listed : Array Bool}
theorem qgf : Does P l ⟨dst, .makeMap t none, ty, pos, after, guard⟩ w (.map (some w.heap.size)) (w.alloc (qc [] 0)) := fun ρ h => by
  simp [execOp, Instr.makeMap, qc]
/-- A new map. -/
theorem ub (hA : Sl a n l) (hM : Mg w0 w L) (ho : o = ⟨dst, .makeMap t none, ty, pos, after, guard⟩) (hg : zw l ops o = true) (hdst : o.dst = some d) (hd : Nat.blt d n = true)
    (hk : ∀ g w', Mg w0 w' (.obj g (qc [] 0) :: L) → ∀ a', Sl a' n ((d, .map (some g)) :: l) → wpList P ops.toArray Q rest a' w') : wpList P ops.toArray Q (o :: rest) a w := by
  subst ho
  exact ve hA hg hdst hd qgf (hk _ _ (hM.addObj _ (xo _ _)))
/-- An object is changed by a step that answers nothing, or something. -/
theorem s_setObj (hA : Sl a n l) (hM : Mg w0 w L) (hg : zw l ops o = true) (hdst : o.dst = none) {g : Nat} {o1 o2 : Obj} (he : Sets P l o w (setBlock w g o2)) (k : Nat) (hk0 : L[k]? = some (.obj g o1)) (hq : xx o2) {L' : List Ck} (hL : L.set k (.obj g o2) = L')
    (hk : ∀ w', Mg w0 w' L' → wpList P ops.toArray Q rest a w') : wpList P ops.toArray Q (o :: rest) a w :=
  qgc hA hg hdst he (hk _ (hL ▸ hM.setObj k hk0 hq))
theorem qae (hA : Sl a n l) (hM : Mg w0 w L) (i : Nat) (hi : ops[i]? = some o) (hg : zw l ops o = true) (hdst : o.dst = none) {g : Nat} {o1 o2 : Obj} (he : Sets P l o w (setBlock w g o2)) (k : Nat) (hk0 : L[k]? = some (.obj g o1)) (hq : xx o2) {L' : List Ck} (hL : L.set k (.obj g o2) = L')
    (hk : ∀ w', Mg w0 w' L' → S w' ∧ wpAnyH P md ops.toArray Q S fuel (listed.setIfInBounds i true) a w') : wpOp P ops.toArray Q i (fun a' w' => S w' ∧ wpAnyH P md ops.toArray Q S fuel (listed.setIfInBounds i true) a' w') a w := by
  have h := hk _ (hL ▸ hM.setObj k hk0 hq)
  exact op_set hA i hi hg hdst he h.1 h.2
/-- A range over a map begins. -/
theorem yk (hA : Sl a n l) (hM : Mg w0 w L) {x : Operand} {g ck : Nat} {es : List En} (ho : o = ⟨dst, .range t x, ty, pos, after, guard⟩) (ht : P.underlying t = some (.map kt et)) (hx : ev l x = some (.map (some g))) (k : Nat) (hk0 : L[k]? = some (.obj g (qc es ck))) (hg : zw l ops o = true) (hdst : o.dst = some d) (hd : Nat.blt d n = true)
    (hk : ∀ r w', Mg w0 w' (.obj r (.mapIter (some g) ck #[] ck) :: L) → ∀ a', Sl a' n ((d, .pointer (some ⟨r, 0, none⟩)) :: l) → wpList P ops.toArray Q rest a' w') : wpList P ops.toArray Q (o :: rest) a w := by
  refine ve hA hg hdst hd (v := .pointer (some ⟨w.heap.size, 0, none⟩)) (w' := w.alloc (.mapIter (some g) ck #[] ck)) ?_ (hk _ _ (hM.addObj _ (qdf _ _ _ _)))
  subst ho
  intro ρ h
  have := run_range_map (P := P) w t kt et g _ ck ht (hM.obj k hk0)
  simp only [execOp, h x _ hx, Sem.run_bind, this, Result.andThen_ok, Sem.run_pure]
/-- What is still to come. -/
def qdg (es : List En) (seen : List Nat) : List En := es.filter fun e => !seen.contains e.b
theorem qij (es : List En) (seen : List Nat) : (leftOf (es.map En.e).toArray seen.toArray).toList = (qdg es seen).map En.e := by
  unfold leftOf qdg
  rw [Array.toList_filter, List.filter_map]
  congr 1
  apply List.filter_congr
  intro e _
  simp [En.e]
  exact decide_eq_decide.2 Iff.rfl
/-- .. goes on with any that is left, or is over. -/
theorem uu (hA : Sl a n l) (hM : Mg w0 w L) {x : Operand} {r g ck since c0 : Nat} {seen : List Nat} {es : List En} (ho : o = ⟨dst, .next x false, ty, pos, after, guard⟩) (hx : ev l x = some (.pointer (some ⟨r, 0, none⟩))) (k j : Nat) (hk0 : L[k]? = some (.obj r (.mapIter (some g) since seen.toArray c0))) (hj0 : L[j]? = some (.obj g (qc es ck))) (hold : ∀ e ∈ es, e.b < since) (hsc : since ≤ c0) (hg : zw l ops o = true) (hdst : o.dst = some d) (hd : Nat.blt d n = true) {L' : En → List Ck} (hL : ∀ e, L.set k (.obj r (.mapIter (some g) since (seen ++ [e.b]).toArray ck)) = L' e)
    (h0 : qdg es seen = [] → ∀ a', Sl a' n ((d, .tuple #[.bool false]) :: l) → wpList P ops.toArray Q rest a' w)
    (h1 : ∀ e ∈ qdg es seen, ∀ w', Mg w0 w' (L' e) → ∀ a', Sl a' n ((d, .tuple #[.bool true, .int .i64 e.k, e.v]) :: l) → wpList P ops.toArray Q rest a' w') : wpList P ops.toArray Q (o :: rest) a w := by
  subst ho
  have hr := hM.obj k hk0
  have hb := hM.obj j hj0
  rcases run_next_at (P := P) w ty r g since c0 seen.toArray (es.map En.e).toArray ck hr hb (fun q hq => by
      simp only [List.mem_map] at hq
      obtain ⟨e, he, rfl⟩ := hq
      exact hold e he) hsc with ⟨hz, hrun⟩ | ⟨e, he, w1, hw1, hrun⟩
  · refine ve hA hg hdst hd (v := .tuple #[.bool false]) (w' := w) (fun ρ h => ?_) (h0 ?_)
    · simp only [execOp, h x _ hx, Sem.run_bind, hrun, Result.andThen_ok, Sem.run_pure]
    · have := qij es seen
      rw [Array.eq_empty_of_size_eq_zero hz] at this
      exact List.map_eq_nil_iff.1 this.symm
  · rw [qij] at he
    obtain ⟨q, hq, rfl⟩ := List.mem_map.1 he
    have hM1 : Mg w0 w1 L := by rcases hw1 with rfl | rfl; exact hM; exact hM.drew
    refine ve hA hg hdst hd (v := .tuple #[.bool true, .int .i64 q.k, q.v]) (w' := setBlock w1 r (.mapIter (some g) since (seen ++ [q.b]).toArray ck)) (fun ρ h => ?_) (h1 q hq _ (hL q ▸ hM1.setObj k hk0 (qdf _ _ _ _)))
    simp only [execOp, h x _ hx, Sem.run_bind, hrun, Result.andThen_ok, Sem.run_pure]
    simp [En.e]
/-- The entry that came last. -/
theorem uv (hM : Mg w0 w L) {x : Operand} {r g ck since : Nat} {seen : List Nat} {es : List En} {e : En} (hx : ev l x = some (.pointer (some ⟨r, 0, none⟩))) (k j : Nat) (hk0 : L[k]? = some (.obj r (.mapIter (some g) since (seen ++ [e.b]).toArray ck))) (hj0 : L[j]? = some (.obj g (qc es ck))) (he : e ∈ es) (hn : (es.map En.b).Nodup) :
    Does P l ⟨dst, .entry x, ty, pos, after, guard⟩ w (.tuple #[.int .i64 e.k, e.v]) w := fun ρ h => by
  have hr := hM.obj k hk0
  rw [show (seen ++ [e.b]).toArray = seen.toArray.push e.e.born from by simp [En.e]] at hr
  have := run_entry_at (P := P) w r g since seen.toArray (es.map En.e).toArray ck e.e hr (hM.obj j hj0) (by simp; exact ⟨e, he, rfl⟩) (by simpa [List.map_map, Function.comp_def, En.e] using hn)
  simp only [execOp, h x _ hx, Sem.run_bind, this, Result.andThen_ok, Sem.run_pure]
  rfl
end
end
theorem qaf {α : Type} : ∀ (L : List α) (k : Nat) (c : α), L[k]? = some c → L.Perm (c :: L.eraseIdx k)
  | [], _, _, h => by simp at h
  | a :: t, 0, c, h => by cases h; exact .refl _
  | a :: t, k + 1, c, h => ((qaf t k c (by simpa using h)).cons a).trans (.swap c a _)
/-- A piece is put first. -/
theorem Mg.bring {w0 w : World} {L L' : List Ck} (h : Mg w0 w L) (k : Nat) {c : Ck} (hk : L[k]? = some c) (hL : c :: L.eraseIdx k = L') : Mg w0 w L' := by
  subst hL
  exact h.perm (qaf L k c hk)
section
variable {P : Program} {t : TypeId} {x y : Operand}
theorem yl {e : TypeId} (hu : P.underlying t = some (.pointer e)) : ∀ w, (do eqGuard .eql t x y (.pointer none) (.pointer none); binOp .eql t (.pointer none) (.pointer none) : Sem Value).run P w = .ok (.bool true) w := fun w => by simp [go_sem, hu, run_underlying hu]
theorem jn {e : TypeId} (hu : P.underlying t = some (.pointer e)) {a : Addr} : ∀ w, (do eqGuard .eql t x y (.pointer (some a)) (.pointer none); binOp .eql t (.pointer (some a)) (.pointer none) : Sem Value).run P w = .ok (.bool false) w := fun w => by simp [go_sem, hu, run_underlying hu]
theorem qu {w : World} {l : List (Nat × Value)} {dst : Option Tmp} {ty : TypeId} {pos : String} {after : Array Edge} {guard : Option (Nat × Bool)} {x : Operand} {a : Addr} (hx : ev l x = some (.pointer (some a))) : Does P l ⟨dst, .nilCheck x, ty, pos, after, guard⟩ w (.pointer (some a)) w := fun ρ h => by
  simp only [execOp, h x _ hx]; rfl
end
open Go.RowKit
/-- Gaps as cells. -/
def qa : List (Nat × Nat) → List Value
  | [] => []
  | (p, s) :: t => .int .i64 ((p : Nat) : Int) :: .int .i64 ((s : Nat) : Int) :: qa t
theorem ki : ∀ {gs : List (Nat × Nat)} {i p s : Nat}, gs[i]? = some (p, s) → ((qa gs).drop (i * 2)).take 2 = [.int .i64 ((p : Nat) : Int), .int .i64 ((s : Nat) : Int)]
  | [], _, _, _, h => by simp at h
  | (a, b) :: t, 0, p, s, h => by simp at h; obtain ⟨rfl, rfl⟩ := h; rfl
  | (a, b) :: t, i + 1, p, s, h => by
    have := ki (gs := t) (i := i) (p := p) (s := s) (by simpa using h)
    rw [show (i + 1) * 2 = i * 2 + 1 + 1 from by omega]
    exact this
theorem xb (c : Value) : ∀ (cs vs : List Value) (o : Nat), over (c :: vs) (o + 1) cs = c :: over vs o cs
  | [], _, _ => rfl
  | a :: cs, vs, o => by simp only [over, List.set_cons_succ]; exact xb c cs _ (o + 1)
theorem qag : ∀ {gs : List (Nat × Nat)} {i : Nat} (p s : Nat), i < gs.length → over (qa gs) (i * 2) [.int .i64 ((p : Nat) : Int), .int .i64 ((s : Nat) : Int)] = qa (gs.set i (p, s))
  | [], i, _, _, h => by simp at h
  | (a, b) :: t, 0, p, s, h => rfl
  | (a, b) :: t, i + 1, p, s, h => by
    rw [show (i + 1) * 2 = (i * 2 + 1) + 1 from by omega]
    simp only [qa, List.set_cons_succ]
    rw [xb, xb, qag p s (by simpa using h)]
theorem ui (a b : List (Nat × Nat)) : qa (a ++ b) = qa a ++ qa b := by
  induction a with
  | nil => rfl
  | cons g t ih => obtain ⟨p, s⟩ := g; simp only [List.cons_append, qa, ih]
/-- The first gap that is wide enough. -/
def jp (n : Nat) : List (Nat × Nat) → Option Nat
  | [] => none
  | g :: t => if n ≤ g.2 then some 0 else (jp n t).map (· + 1)
def ym (n : Nat) (gs : List (Nat × Nat)) : Int := match jp n gs with | none => -1 | some i => ((i : Nat) : Int)
theorem qja {n : Nat} : ∀ {gs : List (Nat × Nat)} {i p s : Nat}, (∀ (j : Nat) (g : Nat × Nat), j < i → gs[j]? = some g → ¬ n ≤ g.2) → gs[i]? = some (p, s) → n ≤ s → jp n gs = some i
  | [], _, _, _, _, h, _ => by simp at h
  | g :: t, 0, p, s, _, h, hs => by simp at h; subst h; simp [jp, hs]
  | g :: t, i + 1, p, s, hb, h, hs => by
    simp only [jp]
    rw [if_neg (hb 0 g (by omega) rfl), qja (i := i) (fun j q hj hq => hb (j + 1) q (by omega) (by simpa using hq)) (by simpa using h) hs]
    rfl
theorem qdh {n : Nat} : ∀ {gs : List (Nat × Nat)}, (∀ (j : Nat) (g : Nat × Nat), gs[j]? = some g → ¬ n ≤ g.2) → jp n gs = none
  | [], _ => rfl
  | g :: t, hb => by
    simp only [jp]
    rw [if_neg (hb 0 g rfl), qdh (fun j q hq => hb (j + 1) q (by simpa using hq))]
    rfl
theorem qgg {n : Nat} : ∀ {gs : List (Nat × Nat)} {i : Nat}, jp n gs = some i → ∃ p s, gs[i]? = some (p, s) ∧ n ≤ s
  | [], _, h => by cases h
  | g :: t, i, h => by
    simp only [jp] at h
    by_cases k : n ≤ g.2
    · rw [if_pos k] at h; cases h; exact ⟨g.1, g.2, rfl, k⟩
    · rw [if_neg k] at h
      obtain ⟨j, hj, rfl⟩ := Option.map_eq_some_iff.1 h
      obtain ⟨p, s, h1, h2⟩ := qgg hj
      exact ⟨p, s, by simpa using h1, h2⟩
/-- Words as cells. -/
def za : List (Int × Bool) → List Value
  | [] => []
  | (z, b) :: t => .int .i64 z :: .bool b :: za t
theorem xy : ∀ ws : List (Int × Bool), (za ws).length = ws.length * 2
  | [] => rfl
  | (z, b) :: t => by simp only [za, List.length_cons, xy t]; omega
theorem qjb : ∀ {ws : List (Int × Bool)} {i : Nat} {z : Int} {b : Bool}, ws[i]? = some (z, b) → ((za ws).drop (i * 2)).take 2 = [.int .i64 z, .bool b]
  | [], _, _, _, h => by simp at h
  | (a, c) :: t, 0, z, b, h => by simp at h; obtain ⟨rfl, rfl⟩ := h; rfl
  | (a, c) :: t, i + 1, z, b, h => by
    have := qjb (ws := t) (i := i) (z := z) (b := b) (by simpa using h)
    rw [show (i + 1) * 2 = i * 2 + 1 + 1 from by omega]
    exact this
theorem xz : ∀ {ws : List (Int × Bool)} {i : Nat} (z : Int) (b : Bool), i < ws.length → over (za ws) (i * 2) [.int .i64 z, .bool b] = za (ws.set i (z, b))
  | [], i, _, _, h => by simp at h
  | (a, c) :: t, 0, z, b, h => rfl
  | (a, c) :: t, i + 1, z, b, h => by
    rw [show (i + 1) * 2 = (i * 2 + 1) + 1 from by omega]
    simp only [za, List.set_cons_succ]
    rw [xb, xb, xz z b (by simpa using h)]
theorem qgh (a b : List (Int × Bool)) : za (a ++ b) = za a ++ za b := by
  induction a with
  | nil => rfl
  | cons g t ih => obtain ⟨p, s⟩ := g; simp only [List.cons_append, za, ih]
theorem vg : ∀ n : Nat, (madeCells #[.int .i64 0, .bool false] (n * 2)).toList = za (List.replicate n (0, false)) := by
  intro n
  unfold madeCells
  rw [Array.toList_map, Array.toList_range]
  induction n with
  | zero => rfl
  | succ n ih =>
    rw [show (n + 1) * 2 = n * 2 + 1 + 1 from by omega, List.range_succ, List.range_succ, List.map_append, List.map_append, ih, List.replicate_succ', qgh]
    have h0 : n * 2 % 2 = 0 := by omega
    have h1 : (n * 2 + 1) % 2 = 1 := by omega
    simp [za, h0, h1]
/-- An object: its handle, its place, the block of its words, their room, its words. -/
structure Ob where
  x : Nat
  p : Nat
  g : Nat
  c : Nat
  ws : List (Int × Bool)
def Ob.sl (o : Ob) : Value := .slice (some ⟨o.g, 0, none⟩) o.ws.length o.c
def Ob.v (o : Ob) : Value := .agg #[.int .i64 ((o.p : Nat) : Int), o.sl]
def Ob.en (o : Ob) : En := ⟨((o.x : Nat) : Int), o.v, o.x - 1⟩
def Ob.row (o : Ob) : Ck := .row 32 2 o.sl o.ws.length (za o.ws)
/-- The object of a handle. -/
def fO (z : Int) : List Ob → Option Ob
  | [] => none
  | o :: os => if ((o.x : Nat) : Int) = z then some o else fO z os
theorem vh (z : Int) : ∀ os : List Ob, atK z (os.map Ob.en) = (fO z os).map Ob.en
  | [] => rfl
  | o :: os => by
    simp only [List.map_cons, atK, fO]
    by_cases h : ((o.x : Nat) : Int) = z
    · rw [if_pos (show o.en.k = z from h), if_pos h]; rfl
    · rw [if_neg (show ¬ o.en.k = z from h), if_neg h, vh z os]
theorem yd {z : Int} : ∀ {os : List Ob} {o : Ob}, fO z os = some o → o ∈ os ∧ ((o.x : Nat) : Int) = z
  | [], _, h => by cases h
  | a :: os, o, h => by
    simp only [fO] at h
    by_cases k : ((a.x : Nat) : Int) = z
    · rw [if_pos k] at h; cases h; exact ⟨by simp, k⟩
    · rw [if_neg k] at h; obtain ⟨h1, h2⟩ := yd h; exact ⟨by simp [h1], h2⟩
theorem qgi {z : Int} : ∀ {os : List Ob}, (∀ o ∈ os, ((o.x : Nat) : Int) ≠ z) → fO z os = none
  | [], _ => rfl
  | a :: os, h => by
    simp only [fO]
    rw [if_neg (h a (by simp)), qgi fun o ho => h o (by simp [ho])]
section
variable {P : Program} {w0 w : World} {L : List Ck} {l : List (Nat × Value)} {ops : List Oper} {Q : Exit → Act → World → Prop} {a : Act} {n : Nat} {o : Oper} {d : Nat} {S : World → Prop} {md : Region.Mode} {fuel : Nat} {listed : Array Bool}
/-- A row is made, in a region that draws its order. -/
theorem uw (hA : Sl a n l) (hM : Mg w0 w L) {t e ty : TypeId} {z : Value} {sz by_ : Nat} {dst : Option Tmp} {pos : String} {after : Array Edge} {guard : Option (Nat × Bool)} (ht : P.underlying t = some (.slice e)) (hinfo : (P.info? e).map (fun i => (i.zero, i.size, i.bytes)) = some (some z, sz, by_)) {x y : Operand} {m : Nat} (hx : ev l x = some (.int .i64 ((m : Nat) : Int))) (hy : ev l y = some (.int .i64 ((m : Nat) : Int))) (ho : o = ⟨dst, .makeSlice t x y, ty, pos, after, guard⟩) (i : Nat) (hi : ops[i]? = some o) (hg : zw l ops o = true) (hdst : o.dst = some d) (hd : Nat.blt d n = true) (hb : by_ * m ≤ 281474976710656) (h63 : m ≤ 9223372036854775807) (hnb : e ≠ BY ∨ zu L)
    (hk : ∀ g w', Mg w0 w' (.row e sz (.slice (some ⟨g, 0, none⟩) m m) m (madeCells z.cells (m * sz)).toList :: L) → S w' ∧ ∀ a', Sl a' n ((d, .slice (some ⟨g, 0, none⟩) m m) :: l) → wpAnyH P md ops.toArray Q S fuel (listed.setIfInBounds i true) a' w') : wpOp P ops.toArray Q i (fun a' w' => S w' ∧ wpAnyH P md ops.toArray Q S fuel (listed.setIfInBounds i true) a' w') a w := by
  subst ho
  obtain ⟨i0, hi0, hzz⟩ := Option.map_eq_some_iff.1 hinfo
  simp only [Prod.mk.injEq] at hzz
  obtain ⟨hz, hs, hbb⟩ := hzz
  obtain ⟨w', hr, hown, hgr⟩ := run_make_full (P := P) (w := w) w0.heap.size t e i0 z sz ht hi0 hz hs .i64 .i64 m (by rw [hbb]; exact hb) (by unfold maxLen; omega) hM.bel.size
  have hbel : Below w.heap.size w w' := ⟨hgr.os, hgr.tape, hgr.output, hgr.size, fun k hk => hgr.block k hk (by simp)⟩
  have h := hk w.heap.size w' (hM.add hbel hown (fun k e => by simp [Ck.at_, Value.ownBlock] at e; omega) (.inr (.inl ⟨_, _, _, _, _, rfl, hnb⟩)))
  refine qde hA i hi hg hdst hd (v := .slice (some ⟨w.heap.size, 0, none⟩) m m) (w' := w') (fun ρ h => ?_) h.1 h.2
  simp only [execOp, h x _ hx, h y _ hy, Sem.run_bind, hr, Result.andThen_ok, Sem.run_pure]
end
section
variable {P : Program} {w0 w : World} {L : List Ck} {l : List (Nat × Value)} {ops : List Oper} {Q : Exit → Act → World → Prop} {a : Act} {n : Nat} {o : Oper} {rest : List Oper} {v : Value}
/-- A step whose answer is dropped changes an object. -/
theorem s_doObjN (hA : Sl a n l) (hM : Mg w0 w L) (hg : zw l ops o = true) (hdst : o.dst = none) {g : Nat} {o1 o2 : Obj} (he : Does P l o w v (setBlock w g o2)) (k : Nat) (hk0 : L[k]? = some (.obj g o1)) (hq : xx o2) {L' : List Ck} (hL : L.set k (.obj g o2) = L')
    (hk : ∀ w', Mg w0 w' L' → wpList P ops.toArray Q rest a w') : wpList P ops.toArray Q (o :: rest) a w := by
  have h := hk _ (hL ▸ hM.setObj k hk0 hq)
  unfold wpList
  rw [if_pos (hA.wanted hg)]
  refine .inl ?_
  unfold Oper.wp
  rw [he a.eval (fun x u hx => hA.ev hx), Oper.upon_value, hdst]
  exact h
theorem Mg.nilRowH (h : Mg w0 w L) (hb : zu L) (e : TypeId) (sz : Nat) : Mg w0 w (.row e sz (.slice none 0 0) 0 [] :: L) := by
  refine h.add (Below.refl _ _) ⟨by simp, .inl ⟨rfl, rfl⟩⟩ (fun k hk => by cases hk) (.inr (.inl ⟨_, _, _, _, _, rfl, .inr hb⟩))
end
section
variable {P : Program} {w0 w : World} {L : List Ck} {l : List (Nat × Value)} {dst : Option Tmp} {ty : TypeId} {pos : String} {after : Array Edge} {guard : Option (Nat × Bool)} {v : Value}
/-- Rows of the call's own whose slice is known by an equation. -/
theorem jy {t e : TypeId} {sz : Nat} (hu : P.underlying t = some (.slice e)) (he : (P.info? e).map (·.size) = some sz) {x i : Operand} {so : Option Addr} {g n c k : Nat} {z : Int} (hx : ev l x = some (.slice so n c)) (hi : ev l i = some (.int .i64 z)) (hz : z = (k : Nat)) (hso : so = some ⟨g, 0, none⟩) (hk : k < n) :
    Does P l ⟨dst, .indexAddr t x i, ty, pos, after, guard⟩ w (.pointer (some ⟨g, k * sz, none⟩)) w := by
  subst hso
  exact ze hu he hx hi hz hk
theorem ye (hM : Mg w0 w L) (k : Nat) {e : TypeId} {sz g n c j : Nat} {so : Option Addr} {xs : List Value} (hk : L[k]? = some (.row e sz (.slice so n c) n xs)) (hso : so = some ⟨g, 0, none⟩) (hj : xs[j]? = some v) {t : TypeId} (ht : Is1 P t) {x : Operand} (hx : ev l x = some (.pointer (some ⟨g, j, none⟩))) : Does P l ⟨dst, .load t x, ty, pos, after, guard⟩ w v w := by
  subst hso
  exact xr hM k hk hj ht hx
theorem qgj (hM : Mg w0 w L) (k : Nat) {e : TypeId} {sz g n c o m : Nat} {so : Option Addr} {xs cs : List Value} (hk : L[k]? = some (.row e sz (.slice so n c) n xs)) (hso : so = some ⟨g, 0, none⟩) {t : TypeId} (ht : IsS P t m) (hcs : (xs.drop o).take m = cs) (hl : cs.length = m) {x : Operand} (hx : ev l x = some (.pointer (some ⟨g, o, none⟩))) : Does P l ⟨dst, .load t x, ty, pos, after, guard⟩ w (.agg cs.toArray) w := by
  subst hso
  exact vo hM k hk ht hcs hl hx
end
theorem zx {w : World} {B : Nat} {e : TypeId} {sz : Nat} {v : Value} {n : Nat} {xs : List Value} (h : w.ownsRow B e sz v n xs) : ∃ so cap, v = .slice so n cap := by
  rcases h.2 with ⟨rfl, rfl⟩ | ⟨g, cap, cur, rfl, _⟩
  · exact ⟨none, 0, rfl⟩
  · exact ⟨_, cap, rfl⟩
theorem zy {w : World} {B : Nat} {e : TypeId} {sz : Nat} {so : Option Addr} {n c : Nat} {xs : List Value} (h : w.ownsRow B e sz (.slice so n c) n xs) (hn : n ≠ 0) : ∃ g, so = some ⟨g, 0, none⟩ := by
  rcases h.2 with ⟨e1, rfl⟩ | ⟨g, cap, cur, e1, _⟩
  · exact absurd rfl hn
  · cases e1; exact ⟨g, rfl⟩
/-- Numbers as cells. -/
def qg (xs : List Int) : List Value := xs.map (.int .i64 ·)
theorem vq (a b : List Int) : qg (a ++ b) = qg a ++ qg b := List.map_append
theorem qjc (a : List Int) : (qg a).length = a.length * 1 := by unfold qg; rw [List.length_map]; omega
theorem kj {a : List Int} {i : Nat} {z : Int} (h : a[i]? = some z) : (qg a)[i]? = some (.int .i64 z) := by unfold qg; rw [List.getElem?_map, h]; rfl
/-- Objects as cells. -/
def obC : List Ob → List Value
  | [] => []
  | o :: t => .int .i64 ((o.p : Nat) : Int) :: o.sl :: obC t
theorem qah (a b : List Ob) : obC (a ++ b) = obC a ++ obC b := by
  induction a with
  | nil => rfl
  | cons g t ih => simp only [List.cons_append, obC, ih]
theorem obC_at : ∀ {os : List Ob} {i : Nat} {o : Ob}, os[i]? = some o → ((obC os).drop (i * 2)).take 2 = [.int .i64 ((o.p : Nat) : Int), o.sl]
  | [], _, _, h => by simp at h
  | a :: t, 0, o, h => by simp at h; subst h; rfl
  | a :: t, i + 1, o, h => by
    have := obC_at (os := t) (i := i) (o := o) (by simpa using h)
    rw [show (i + 1) * 2 = i * 2 + 1 + 1 from by omega]
    exact this
/-- Marks, in the order in which they were made. -/
def mkE : Nat → List Int → List En
  | _, [] => []
  | i, x :: t => ⟨x, .agg #[], i⟩ :: mkE (i + 1) t
theorem qjd (x : Int) : ∀ (ws : List Int) (i : Nat), mkE i (ws ++ [x]) = mkE i ws ++ [⟨x, .agg #[], i + ws.length⟩]
  | [], _ => rfl
  | y :: t, i => by
    simp only [List.cons_append, mkE, qjd x t (i + 1), List.length_cons]
    rw [show i + 1 + t.length = i + (t.length + 1) from by omega]
theorem qha {x : Int} : ∀ {ws : List Int} {i : Nat}, x ∈ ws → ∃ e, atK x (mkE i ws) = some e ∧ e.v = .agg #[]
  | [], _, h => by cases h
  | y :: t, i, h => by
    simp only [mkE, atK]
    by_cases k : y = x
    · rw [if_pos k]; exact ⟨_, rfl, rfl⟩
    · rw [if_neg k]
      rcases List.mem_cons.1 h with h | h
      · exact absurd h.symm k
      · exact qha h
theorem yn {x : Int} : ∀ {ws : List Int} {i : Nat}, x ∉ ws → atK x (mkE i ws) = none
  | [], _, _ => rfl
  | y :: t, i, h => by
    simp only [mkE, atK]
    rw [if_neg (fun k => h (by simp [k])), yn (fun k => h (by simp [k]))]
/-- A handle is visited. -/
def vis (ws : List Int) (x : Int) : List Int := if x ≠ 0 ∧ x ∉ ws then ws ++ [x] else ws
/-- Rising handles: each object's is above those before it. -/
def Rise (os : List Ob) : Prop := os.Pairwise fun a b => a.x < b.x
theorem rise_nodup {os : List Ob} (h : Rise os) (h1 : ∀ o ∈ os, 1 ≤ o.x) : ((os.map Ob.en).map En.b).Nodup := by
  rw [List.map_map]
  unfold List.Nodup
  rw [List.pairwise_map]
  exact h.imp_of_mem fun {a b} ha hb hab => by
    show a.x - 1 ≠ b.x - 1
    have := h1 a ha
    have := h1 b hb
    omega
theorem fO_at {os : List Ob} (hr : Rise os) : ∀ {i : Nat} {o : Ob}, os[i]? = some o → fO ((o.x : Nat) : Int) os = some o := by
  induction os with
  | nil => intro i o h; simp at h
  | cons a t ih =>
    intro i o h
    obtain ⟨h1, h2⟩ := List.pairwise_cons.1 hr
    cases i with
    | zero => simp at h; subst h; simp [fO]
    | succ i =>
      have h' : t[i]? = some o := by simpa using h
      have hlt := h1 o (List.mem_of_getElem? h')
      simp only [fO]
      rw [if_neg (by omega)]
      exact ih h2 h'
/-- The gap between two places, if there is one. -/
def qy (a b : Nat) : List (Nat × Nat) := if a < b then [(a, b - a)] else []
/-- What objects leave free, and where the last one kx. -/
def vk : Nat → List Ob → Nat
  | b, [] => b
  | _, o :: t => vk (o.p + o.ws.length) t
def vr : Nat → List Ob → List (Nat × Nat)
  | _, [] => []
  | b, o :: t => qy b o.p ++ vr (o.p + o.ws.length) t
theorem qdi (o : Ob) : ∀ (os : List Ob) (b : Nat), vk b (os ++ [o]) = o.p + o.ws.length
  | [], _ => rfl
  | a :: t, b => by simp only [List.cons_append, vk, qdi o t]
theorem qdj (o : Ob) : ∀ (os : List Ob) (b : Nat), vr b (os ++ [o]) = vr b os ++ qy (vk b os) o.p
  | [], b => by simp [vr, vk]
  | a :: t, b => by simp only [List.cons_append, vr, vk, qdj o t, List.append_assoc]
/-- The free parts of an area of so many words. -/
def qr (size : Nat) (os : List Ob) : List (Nat × Nat) := vr 0 os ++ qy (vk 0 os) size
def big (o : Ob) : Bool := decide (16 < ((o.ws.length : Nat) : Int))
/-- The small objects are moved down. -/
def mvD : Nat → List Ob → List Ob
  | _, [] => []
  | p, o :: t => if big o = true then o :: mvD p t else { o with p := p } :: mvD (p + o.ws.length) t
def mvP : Nat → List Ob → Nat
  | p, [] => p
  | p, o :: t => if big o = true then mvP p t else mvP (p + o.ws.length) t
theorem yo (o : Ob) : ∀ (os : List Ob) (p : Nat), mvD p (os ++ [o]) = mvD p os ++ [if big o = true then o else { o with p := mvP p os }]
  | [], p => by simp only [List.nil_append, mvD, mvP]; split <;> rfl
  | a :: t, p => by
    simp only [List.cons_append, mvD, mvP]
    split <;> simp only [List.cons_append, yo o t]
theorem yp (o : Ob) : ∀ (os : List Ob) (p : Nat), mvP p (os ++ [o]) = if big o = true then mvP p os else mvP p os + o.ws.length
  | [], p => by simp only [List.nil_append, mvP]
  | a :: t, p => by
    simp only [List.cons_append, mvP]
    split <;> simp only [yp o t]
theorem kk : ∀ (os : List Ob) (p : Nat), (mvD p os).length = os.length
  | [], _ => rfl
  | a :: t, p => by simp only [mvD]; split <;> simp [kk t]
theorem mvD_x : ∀ (os : List Ob) (p : Nat), (mvD p os).map Ob.x = os.map Ob.x
  | [], _ => rfl
  | a :: t, p => by simp only [mvD]; split <;> simp [mvD_x t]
/-- How many words objects have. -/
def zr : List Ob → Nat
  | [] => 0
  | o :: t => o.ws.length + zr t
theorem vt (a b : List Ob) : zr (a ++ b) = zr a + zr b := by
  induction a with
  | nil => simp [zr]
  | cons o t ih => simp only [List.cons_append, zr, ih]; omega
theorem qhb : ∀ (os : List Ob) (p : Nat), mvP p os ≤ p + zr os
  | [], p => Nat.le_refl _
  | a :: t, p => by
    simp only [mvP, zr]
    split
    · have := qhb t p; omega
    · have := qhb t (p + a.ws.length); omega
theorem sumW_take (os : List Ob) (i : Nat) : zr (os.take i) ≤ zr os := by
  have := vt (os.take i) (os.drop i)
  rw [List.take_append_drop] at this
  omega
/-- The value of a key is changed, where the keys rise. -/
theorem putK_at {os : List Ob} (hr : Rise os) {i : Nat} {o : Ob} (h : os[i]? = some o) (q : Ob) (hx : q.x = o.x) : qge ((o.x : Nat) : Int) q.v (os.map Ob.en) = (os.set i q).map Ob.en := by
  induction os generalizing i with
  | nil => simp at h
  | cons a t ih =>
    obtain ⟨h1, h2⟩ := List.pairwise_cons.1 hr
    cases i with
    | zero =>
      simp at h
      subst h
      simp only [List.map_cons, qge, List.set_cons_zero]
      rw [if_pos (show a.en.k = ((a.x : Nat) : Int) from rfl)]
      simp [Ob.en, hx]
    | succ i =>
      have h' : t[i]? = some o := by simpa using h
      have hlt := h1 o (List.mem_of_getElem? h')
      simp only [List.map_cons, qge, List.set_cons_succ]
      rw [if_neg (show ¬ a.en.k = _ from by show ¬ ((a.x : Nat) : Int) = _; omega), ih h2 h']
theorem qje {os : List Ob} (hr : Rise os) {o : Ob} (h : o ∈ os) : kz ((o.x : Nat) : Int) (os.map Ob.en) = (os.filter fun q => decide (q.x ≠ o.x)).map Ob.en := by
  induction os with
  | nil => cases h
  | cons a t ih =>
    obtain ⟨h1, h2⟩ := List.pairwise_cons.1 hr
    simp only [List.map_cons, kz]
    by_cases k : a.x = o.x
    · rw [if_pos (show a.en.k = _ from by show ((a.x : Nat) : Int) = _; omega), List.filter_cons_of_neg (by simp [k])]
      congr 1
      refine (List.filter_eq_self.2 fun q hq => ?_).symm
      have := h1 q hq
      simp; omega
    · rw [if_neg (show ¬ a.en.k = _ from by show ¬ ((a.x : Nat) : Int) = _; omega), List.filter_cons_of_pos (by simp [k])]
      rcases List.mem_cons.1 h with rfl | h
      · exact absurd rfl k
      · rw [ih h2 h]; rfl
/-- What a sweep has left when it has seen so many stamps. -/
def swp (ws : List Int) (seen : List Nat) (os : List Ob) : List Ob := os.filter fun o => decide (((o.x : Nat) : Int) ∈ ws) || !seen.contains (o.x - 1)
def uq (ws : List Int) (seen : List Nat) (os : List Ob) : List Ob := os.filter fun o => !decide (((o.x : Nat) : Int) ∈ ws) && seen.contains (o.x - 1)
def jb (seen : List Nat) (os : List Ob) : List Ob := os.filter fun o => !seen.contains (o.x - 1)
theorem swp_nil (ws : List Int) (os : List Ob) : swp ws [] os = os := List.filter_eq_self.2 fun o _ => by simp
theorem gone_nil (ws : List Int) (os : List Ob) : uq ws [] os = [] := List.filter_eq_nil_iff.2 fun o _ => by simp
theorem xj (seen : List Nat) (os : List Ob) : qdg (os.map Ob.en) seen = (jb seen os).map Ob.en := by
  unfold qdg jb
  rw [List.filter_map]
  rfl
theorem qai (ws : List Int) (seen : List Nat) (os : List Ob) : jb seen (swp ws seen os) = jb seen os := by
  unfold jb swp
  rw [List.filter_filter]
  apply List.filter_congr
  intro o _
  cases seen.contains (o.x - 1) <;> simp
theorem yq {os os' : List Ob} (h : Rise os) (hs : os'.Sublist os) : Rise os' := List.Pairwise.sublist hs h
theorem same_x {os : List Ob} (hr : Rise os) {a b : Ob} (ha : a ∈ os) (hb : b ∈ os) (h : a.x = b.x) : a = b := by
  induction os with
  | nil => cases ha
  | cons c t ih =>
    obtain ⟨h1, h2⟩ := List.pairwise_cons.1 hr
    rcases List.mem_cons.1 ha with e1 | ha' <;> rcases List.mem_cons.1 hb with e2 | hb'
    · rw [e1, e2]
    · have := h1 b hb'; rw [← e1] at this; omega
    · have := h1 a ha'; rw [← e2] at this; omega
    · exact ih h2 ha' hb'
theorem xc {seen : List Nat} {os : List Ob} (h1 : ∀ o ∈ os, 1 ≤ o.x) {o : Ob} (ho : o ∈ jb seen os) (q : Ob) (hq : q ∈ os) : (seen ++ [o.x - 1]).contains (q.x - 1) = (seen.contains (q.x - 1) || decide (q.x = o.x)) := by
  have := h1 q hq
  have := h1 o (List.mem_filter.1 ho).1
  rw [List.contains_eq_mem, List.contains_eq_mem, Bool.eq_iff_iff]
  simp only [List.mem_append, List.mem_singleton, Bool.or_eq_true, decide_eq_true_eq]
  constructor
  · rintro (h | h)
    · exact .inl h
    · exact .inr (by omega)
  · rintro (h | h)
    · exact .inl h
    · exact .inr (by omega)
section
variable {ws : List Int} {seen : List Nat} {os : List Ob} (h1 : ∀ o ∈ os, 1 ≤ o.x) {o : Ob} (ho : o ∈ jb seen os)
include h1 ho
theorem swp_keep (hw : ((o.x : Nat) : Int) ∈ ws) : swp ws (seen ++ [o.x - 1]) os = swp ws seen os := by
  unfold swp
  apply List.filter_congr
  intro q hq
  rw [xc h1 ho q hq]
  by_cases k : q.x = o.x
  · rw [k]; simp [hw]
  · simp [k]
theorem swp_drop (hw : ((o.x : Nat) : Int) ∉ ws) : swp ws (seen ++ [o.x - 1]) os = (swp ws seen os).filter fun q => decide (q.x ≠ o.x) := by
  unfold swp
  rw [List.filter_filter]
  apply List.filter_congr
  intro q hq
  rw [xc h1 ho q hq]
  by_cases k : q.x = o.x
  · rw [k]; simp [hw]
  · simp [k]
theorem sum_keep (hw : ((o.x : Nat) : Int) ∈ ws) : zr (uq ws (seen ++ [o.x - 1]) os) = zr (uq ws seen os) := by
  congr 1
  unfold uq
  apply List.filter_congr
  intro q hq
  rw [xc h1 ho q hq]
  by_cases k : q.x = o.x
  · rw [k]; simp [hw]
  · simp [k]
theorem jt : (jb (seen ++ [o.x - 1]) os).length < (jb seen os).length := by
  have e : jb (seen ++ [o.x - 1]) os = (jb seen os).filter fun q => decide (q.x ≠ o.x) := by
    unfold jb
    rw [List.filter_filter]
    apply List.filter_congr
    intro q hq
    rw [xc h1 ho q hq]
    by_cases k : q.x = o.x <;> simp [k]
  rw [e]
  exact List.length_filter_lt_length_iff_exists.2 ⟨o, ho, by simp⟩
end
open Classical in
theorem sumW_drop {ws : List Int} {seen : List Nat} {os : List Ob} (hr : Rise os) (h1 : ∀ o ∈ os, 1 ≤ o.x) {o : Ob} (ho : o ∈ jb seen os) (hw : ((o.x : Nat) : Int) ∉ ws) : zr (uq ws (seen ++ [o.x - 1]) os) = zr (uq ws seen os) + o.ws.length := by
  have key : ∀ os' : List Ob, os'.Sublist os → zr (uq ws (seen ++ [o.x - 1]) os') = zr (uq ws seen os') + if o ∈ os' then o.ws.length else 0 := by
    intro os' hs
    induction os' with
    | nil => simp [uq, zr]
    | cons a t ih =>
      have ih := ih (List.Sublist.trans (List.sublist_cons_self a t) hs)
      have ha : a ∈ os := hs.subset (by simp)
      have hrt := yq hr hs
      obtain ⟨r1, r2⟩ := List.pairwise_cons.1 hrt
      have hn := xc h1 ho a ha
      unfold uq at ih ⊢
      rw [List.filter_cons, List.filter_cons, hn]
      by_cases k : a.x = o.x
      · have e := same_x hr ha (List.mem_filter.1 ho).1 k
        subst e
        have hns : seen.contains (a.x - 1) = false := by
          have := (List.mem_filter.1 ho).2
          simpa using this
        have hnt : a ∉ t := fun h => by have := r1 a h; omega
        rw [if_neg hnt] at ih
        simp only [hw, hns, decide_false, Bool.not_false, decide_true, Bool.or_true, Bool.and_true, Bool.and_false, if_true, Bool.false_eq_true, if_false, zr, ih, List.mem_cons, true_or]
        omega
      · have hne : o ≠ a := fun h => k (by rw [h])
        have e2 : (o ∈ a :: t) = (o ∈ t) := by simp [hne]
        simp only [k, decide_false, Bool.or_false, e2]
        split
        · simp only [zr, ih]; omega
        · exact ih
  have := key os (List.Sublist.refl _)
  rw [if_pos (List.mem_filter.1 ho).1] at this
  exact this
/-- How many words gaps have. -/
def jc : List (Nat × Nat) → Nat
  | [] => 0
  | g :: t => g.2 + jc t
theorem vu (a b : List (Nat × Nat)) : jc (a ++ b) = jc a + jc b := by
  induction a with
  | nil => simp [jc]
  | cons g t ih => simp only [List.cons_append, jc, ih]; omega
theorem qea {gs : List (Nat × Nat)} {i p s : Nat} (h : gs[i]? = some (p, s)) : jc (gs.take (i + 1)) = jc (gs.take i) + s := by
  rw [List.take_add_one, h, vu]
  rfl
theorem qeb (gs : List (Nat × Nat)) (i : Nat) : jc (gs.take i) ≤ jc gs := by
  have := vu (gs.take i) (gs.drop i)
  rw [List.take_append_drop] at this
  omega
/-- A root, or named by what is reached. -/
inductive Rc (os : List Ob) (rs : List Int) : Int → Prop where
  | root {x : Int} : x ∈ rs → x ≠ 0 → Rc os rs x
  | ref {x y : Int} {o : Ob} : Rc os rs x → fO x os = some o → (y, true) ∈ o.ws → y ≠ 0 → Rc os rs y
/-- Every Ref names nothing or an object. -/
def Refs (os : List Ob) : Prop := ∀ o ∈ os, ∀ c ∈ o.ws, c.2 = true → c.1 = 0 ∨ (fO c.1 os).isSome = true
structure Vs (os : List Ob) (rs ws : List Int) : Prop where
  nd : ws.Nodup
  nz : (0 : Int) ∉ ws
  ob : ∀ x ∈ ws, (fO x os).isSome = true
  rc : ∀ x ∈ ws, Rc os rs x
theorem xl {ws : List Int} {x y : Int} : y ∈ vis ws x ↔ y ∈ ws ∨ (y = x ∧ x ≠ 0) := by
  unfold vis
  split
  · rename_i h
    rw [List.mem_append, List.mem_singleton]
    constructor
    · rintro (k | k)
      · exact .inl k
      · exact .inr ⟨k, h.1⟩
    · rintro (k | k)
      · exact .inl k
      · exact .inr k.1
  · rename_i h
    constructor
    · exact .inl
    · rintro (k | ⟨rfl, k⟩)
      · exact k
      · apply Classical.byContradiction
        intro q
        exact h ⟨k, q⟩
theorem vis_pre (ws : List Int) (x : Int) : ∃ t, vis ws x = ws ++ t := by
  unfold vis
  split
  · exact ⟨[x], rfl⟩
  · exact ⟨[], by simp⟩
theorem vis_at {ws : List Int} {x z : Int} {i : Nat} (h : ws[i]? = some z) : (vis ws x)[i]? = some z := by
  obtain ⟨t, ht⟩ := vis_pre ws x
  rw [ht, List.getElem?_append_left (List.getElem?_eq_some_iff.1 h).1, h]
variable {os : List Ob} {rs ws : List Int}
theorem Vs.nil : Vs os rs [] := ⟨List.nodup_nil, by simp, by simp, by simp⟩
theorem Vs.vis (h : Vs os rs ws) {x : Int} (hx : x = 0 ∨ (fO x os).isSome = true) (hr : x ≠ 0 → Rc os rs x) : Vs os rs (vis ws x) := by
  refine ⟨?_, fun k => ?_, fun y hy => ?_, fun y hy => ?_⟩
  · unfold Ytjjkcpmhlcjaoaa.vis
    split
    · rename_i k
      exact List.nodup_append.2 ⟨h.nd, by simp, fun a ha b hb e => by rw [List.mem_singleton] at hb; subst hb; subst e; exact k.2 ha⟩
    · exact h.nd
  · rcases xl.1 k with k | ⟨k, k2⟩
    · exact h.nz k
    · exact k2 k.symm
  · rcases xl.1 hy with k | ⟨rfl, k⟩
    · exact h.ob y k
    · exact hx.resolve_left k
  · rcases xl.1 hy with k | ⟨rfl, k⟩
    · exact h.rc y k
    · exact hr k
theorem qjf : ∀ (a b : List Int), a.Nodup → (∀ x ∈ a, x ∈ b) → a.length ≤ b.length
  | [], _, _, _ => Nat.zero_le _
  | x :: t, b, hn, hs => by
    obtain ⟨h1, h2⟩ := List.nodup_cons.1 hn
    have hx := hs x (by simp)
    have ih := qjf t (b.erase x) h2 (fun y hy => (List.mem_erase_of_ne (fun e : y = x => h1 (by rw [← e]; exact hy))).2 (hs y (by simp [hy])))
    rw [List.length_erase_of_mem hx] at ih
    have : 0 < b.length := List.length_pos_of_mem hx
    simp only [List.length_cons]
    omega
theorem Vs.len (h : Vs os rs ws) : ws.length ≤ os.length := by
  have := qjf ws (os.map fun o => ((o.x : Nat) : Int)) h.nd (fun x hx => by
    obtain ⟨o, ho⟩ := Option.isSome_iff_exists.1 (h.ob x hx)
    obtain ⟨h1, h2⟩ := yd ho
    exact List.mem_map.2 ⟨o, h1, h2⟩)
  simpa using this
/-- So many of a list are looked at: what they name is there. -/
def Shut (os : List Ob) (ws : List Int) (i : Nat) : Prop := ∀ k x o, k < i → ws[k]? = some x → fO x os = some o → ∀ y, (y, true) ∈ o.ws → y ≠ 0 → y ∈ ws
theorem Shut.more {i : Nat} (h : Shut os ws i) (hi : i ≤ ws.length) (x : Int) : Shut os (Ytjjkcpmhlcjaoaa.vis ws x) i := by
  intro k z o hk hz ho y hy hy0
  obtain ⟨t, ht⟩ := vis_pre ws x
  rw [ht, List.getElem?_append_left (by omega)] at hz
  exact xl.2 (.inl (h k z o hk hz ho y hy hy0))
theorem reach_all (h : Vs os rs ws) (hr : ∀ r ∈ rs, r ≠ 0 → r ∈ ws) (hs : Shut os ws ws.length) (x : Int) : x ∈ ws ↔ Rc os rs x := by
  refine ⟨h.rc x, fun k => ?_⟩
  induction k with
  | root h1 h2 => exact hr _ h1 h2
  | ref h1 h2 h3 h4 ih =>
    obtain ⟨i, hi⟩ := List.mem_iff_getElem?.1 ih
    exact hs i _ _ (List.getElem?_eq_some_iff.1 hi).1 hi h2 _ h3 h4
theorem row_in {o : Ob} (h : o ∈ os) {L X : List Ck} (n : Nat) (hL : L.drop n = os.map Ob.row ++ X) : o.row ∈ L := by
  have : o.row ∈ L.drop n := by rw [hL]; simp only [List.mem_append, List.mem_map]; exact .inl ⟨o, h, rfl⟩
  exact List.mem_of_mem_drop this
theorem qjg {o : Ob} {ws : List Int} {j : Nat} {z : Int} {b : Bool} (hj : o.ws[j]? = some (z, b)) (h : ∀ y, (y, true) ∈ o.ws.take j → y ≠ 0 → y ∈ ws) (hz : b = true → z ≠ 0 → z ∈ ws) : ∀ y, (y, true) ∈ o.ws.take (j + 1) → y ≠ 0 → y ∈ ws := by
  intro y hy h0
  rw [List.take_add_one, hj] at hy
  rcases List.mem_append.1 hy with k | k
  · exact h y k h0
  · simp at k
    obtain ⟨rfl, rfl⟩ := k
    exact hz rfl h0
theorem take_root {ws : List Int} {i : Nat} {z : Int} (hz : rs[i]? = some z) (h : ∀ r ∈ rs.take i, r ≠ 0 → r ∈ ws) : ∀ r ∈ rs.take (i + 1), r ≠ 0 → r ∈ vis ws z := by
  intro r hr h0
  rw [List.take_add_one, hz] at hr
  rcases List.mem_append.1 hr with k | k
  · exact xl.2 (.inl (h r k h0))
  · simp at k
    subst k
    exact xl.2 (.inr ⟨rfl, h0⟩)
theorem Shut.next {i : Nat} {z : Int} {o : Ob} (h : Shut os ws i) (hz : ws[i]? = some z) (ho : fO z os = some o) (hc : ∀ y, (y, true) ∈ o.ws → y ≠ 0 → y ∈ ws) : Shut os ws (i + 1) := by
  intro k x q hk hx hq y hy h0
  by_cases e : k = i
  · subst e
    rw [hz] at hx
    cases hx
    rw [ho] at hq
    cases hq
    exact hc y hy h0
  · exact h k x q (by omega) hx hq y hy h0
section
variable {P : Program} {w0 w : World} {L : List Ck} {l : List (Nat × Value)} {dst : Option Tmp} {ty : TypeId} {pos : String} {after : Array Edge} {guard : Option (Nat × Bool)} {v : Value}
theorem m_ldW (hM : Mg w0 w L) {o : Ob} (hm : o.row ∈ L) {i : Nat} {z : Int} {b : Bool} (hi : o.ws[i]? = some (z, b)) {t : TypeId} (ht : IsS P t 2) {x : Operand} (hx : ev l x = some (.pointer (some ⟨o.g, i * 2, none⟩))) : Does P l ⟨dst, .load t x, ty, pos, after, guard⟩ w (.agg #[.int .i64 z, .bool b]) w := by
  obtain ⟨k, hk⟩ := List.mem_iff_getElem?.1 hm
  exact vo hM k hk ht (qjb hi) rfl hx
theorem does_fld {t : TypeId} {x : Operand} {f off : Nat} {cs : List Value} (ht : ∃ fs fld, P.underlying t = some (.struct fs) ∧ fs[f]? = some fld ∧ fld.offset = off ∧ Is1 P fld.type) (hx : ev l x = some (.agg cs.toArray)) (hc : cs[off]? = some v) : Does P l ⟨dst, .field t x f, ty, pos, after, guard⟩ w v w := fun ρ h => by
  obtain ⟨fs, fld, hu, hf, ho, h1⟩ := ht
  obtain ⟨d, hu1, hd⟩ := h1.und
  have h2 : (isAgg fld.type).run P w = .ok false w := by
    cases d <;> first | (simp at hd; done) | simp [isAgg, run_underlying hu1]
  simp [execOp, h x _ hx, Instr.field, run_underlying hu, hf, part, asAgg, h2, ho, hc]
end
variable {os : List Ob}
/-- The heap's handles: from 1 to the last one given, rising. -/
structure Hx (os : List Ob) (last : Nat) : Prop where
  rise : Rise os
  lo : ∀ o ∈ os, 1 ≤ o.x
  hi : ∀ o ∈ os, o.x ≤ last
theorem Hx.sub {os' : List Ob} {last : Nat} (h : Hx os last) (hs : os'.Sublist os) : Hx os' last := ⟨yq h.rise hs, fun o ho => h.lo o (hs.subset ho), fun o ho => h.hi o (hs.subset ho)⟩
theorem Hx.old {last : Nat} (h : Hx os last) : ∀ e ∈ os.map Ob.en, e.b < last := by
  intro e he
  obtain ⟨o, ho, rfl⟩ := List.mem_map.1 he
  have := h.lo o ho
  have := h.hi o ho
  show o.x - 1 < last
  omega
theorem Hx.nodup {last : Nat} (h : Hx os last) : ((os.map Ob.en).map En.b).Nodup := rise_nodup h.rise h.lo
theorem Hx.at {last : Nat} (h : Hx os last) {o : Ob} (ho : o ∈ os) : fO ((o.x : Nat) : Int) os = some o := by
  obtain ⟨i, hi⟩ := List.mem_iff_getElem?.1 ho
  exact fO_at h.rise hi
theorem Hx.atK {last : Nat} (h : Hx os last) {o : Ob} (ho : o ∈ os) : Ytjjkcpmhlcjaoaa.atK ((o.x : Nat) : Int) (os.map Ob.en) = some o.en := by rw [vh, h.at ho]; rfl
theorem Hx.new {last : Nat} (h : Hx os last) : Ytjjkcpmhlcjaoaa.atK ((last + 1 : Nat) : Int) (os.map Ob.en) = none := by
  rw [vh, qgi fun o ho => by have := h.hi o ho; omega]
  rfl
theorem ux (ws : List Int) (seen : List Nat) (os : List Ob) : (swp ws seen os).Sublist os := List.filter_sublist
theorem vv {a b : List Ob} (h : a.Sublist b) : zr a ≤ zr b := by
  induction h with
  | slnil => exact Nat.le_refl _
  | cons _ _ ih => simp only [zr]; omega
  | cons_cons _ _ ih => simp only [zr]; omega
/-- What uf and what goes. -/
def stay (ws : List Int) (os : List Ob) : List Ob := os.filter fun o => decide (((o.x : Nat) : Int) ∈ ws)
def yf (ws : List Int) (os : List Ob) : List Ob := os.filter fun o => !decide (((o.x : Nat) : Int) ∈ ws)
theorem qaj {seen : List Nat} (h : jb seen os = []) : ∀ o ∈ os, seen.contains (o.x - 1) = true := by
  intro o ho
  have := List.filter_eq_nil_iff.1 h o ho
  simpa using this
theorem swp_end {ws : List Int} {seen : List Nat} (h : jb seen os = []) : swp ws seen os = stay ws os := by
  apply List.filter_congr
  intro o ho
  rw [qaj h o ho]
  simp
theorem gone_end {ws : List Int} {seen : List Nat} (h : jb seen os = []) : uq ws seen os = yf ws os := by
  apply List.filter_congr
  intro o ho
  rw [qaj h o ho]
  simp
/-- What has come of a range, of those that are asked for. -/
def came (p : Ob → Bool) (seen : List Nat) (os : List Ob) : List Ob := os.filter fun o => p o && seen.contains (o.x - 1)
theorem qba (p : Ob → Bool) (os : List Ob) : came p [] os = [] := List.filter_eq_nil_iff.2 fun o _ => by simp
theorem qbb {p : Ob → Bool} {seen : List Nat} (h : jb seen os = []) : came p seen os = os.filter p := by
  apply List.filter_congr
  intro o ho
  rw [qaj h o ho]
  simp
theorem came_no {p : Ob → Bool} {seen : List Nat} (h1 : ∀ o ∈ os, 1 ≤ o.x) {o : Ob} (hr : Rise os) (ho : o ∈ jb seen os) (hp : p o = false) : came p (seen ++ [o.x - 1]) os = came p seen os := by
  apply List.filter_congr
  intro q hq
  rw [xc h1 ho q hq]
  by_cases k : q.x = o.x
  · rw [same_x hr hq (List.mem_filter.1 ho).1 k]; simp [hp]
  · simp [k]
theorem qjh {p : Ob → Bool} {seen : List Nat} (h1 : ∀ o ∈ os, 1 ≤ o.x) {o : Ob} (hr : Rise os) (ho : o ∈ jb seen os) (hp : p o = true) : (came p (seen ++ [o.x - 1]) os).Perm (came p seen os ++ [o]) := by
  have key : ∀ os' : List Ob, os'.Sublist os → o ∈ os' → (came p (seen ++ [o.x - 1]) os').Perm (came p seen os' ++ [o]) := by
    intro os' hs
    induction os' with
    | nil => intro h; cases h
    | cons a t ih =>
      intro hm
      have ha : a ∈ os := hs.subset (by simp)
      have hrt := yq hr hs
      obtain ⟨r1, r2⟩ := List.pairwise_cons.1 hrt
      have hn := xc h1 ho a ha
      have hst := List.Sublist.trans (List.sublist_cons_self a t) hs
      unfold came at ih ⊢
      rw [List.filter_cons, List.filter_cons, hn]
      by_cases k : a.x = o.x
      · have e := same_x hr ha (List.mem_filter.1 ho).1 k
        subst e
        have hns : seen.contains (a.x - 1) = false := by
          have := (List.mem_filter.1 ho).2
          simpa using this
        rw [hp, hns]
        simp only [Bool.true_and, Bool.false_or, decide_true, if_true, Bool.false_eq_true, if_false]
        have e2 : (t.filter fun o => p o && (seen ++ [a.x - 1]).contains (o.x - 1)) = t.filter fun o => p o && seen.contains (o.x - 1) := by
          apply List.filter_congr
          intro q hq
          rw [xc h1 ho q (hst.subset hq)]
          have := r1 q hq
          have : ¬ q.x = a.x := by omega
          simp [this]
        rw [e2]
        exact (List.perm_append_singleton a _).symm
      · have hne : o ∈ t := by
          rcases List.mem_cons.1 hm with e | e
          · exact absurd (by rw [e]) k
          · exact e
        simp only [k, decide_false, Bool.or_false]
        split
        · rw [List.cons_append]
          exact (ih hst hne).cons a
        · exact ih hst hne
  exact key os (List.Sublist.refl _) (List.mem_filter.1 ho).1
/-- Handles as numbers. -/
def hxs (os : List Ob) : List Int := os.map fun o => ((o.x : Nat) : Int)
theorem hxs_rise (h : Rise os) : (hxs os).Pairwise fun a b => a < b := by
  unfold hxs
  rw [List.pairwise_map]
  exact h.imp fun {a b} hab => by omega
theorem sort_hxs {ks : List Int} (h : Rise os) (hp : ks.Perm (hxs os)) : ks.mergeSort (fun x y => decide (x ≤ y)) = hxs os := by
  refine List.Perm.eq_of_pairwise (le := fun a b => a ≤ b) (fun a b _ _ h1 h2 => by omega) ?_ ((hxs_rise h).imp fun {a b} h => by omega) ((List.mergeSort_perm _ _).trans hp)
  exact (List.pairwise_mergeSort (le := fun x y : Int => decide (x ≤ y)) (fun a b c h1 h2 => by simp at *; omega) (fun a b => by simp; omega) ks).imp fun {a b} h => by simpa using h
theorem qhc (os : List Ob) : (hxs os).length = os.length := by unfold hxs; rw [List.length_map]
theorem live_step {ks : List Int} {seen : List Nat} (h1 : ∀ o ∈ os, 1 ≤ o.x) {o : Ob} (hr : Rise os) (ho : o ∈ jb seen os) (hk : ks.Perm (hxs (came (fun _ => true) seen os))) : (ks ++ [((o.x : Nat) : Int)]).Perm (hxs (came (fun _ => true) (seen ++ [o.x - 1]) os)) := by
  have h2 := (qjh (p := fun _ => true) h1 hr ho rfl).map fun o : Ob => ((o.x : Nat) : Int)
  rw [List.map_append] at h2
  exact (hk.append_right _).trans h2.symm
theorem live_len {ks : List Int} {seen : List Nat} (hk : ks.Perm (hxs (came (fun _ => true) seen os))) : ks.length ≤ os.length := by
  rw [hk.length_eq, qhc]
  exact List.length_filter_le _ _
theorem live_end {ks : List Int} {seen : List Nat} (hz : jb seen os = []) (hk : ks.Perm (hxs (came (fun _ => true) seen os))) : ks.Perm (hxs os) := by
  rw [qbb hz, List.filter_eq_self.2 (fun _ _ => rfl)] at hk
  exact hk
theorem hxs_at {i : Nat} {o : Ob} (h : os[i]? = some o) : (hxs os)[i]? = some ((o.x : Nat) : Int) := by unfold hxs; rw [List.getElem?_map, h]; rfl
/-- So many are moved down. -/
def cur (os : List Ob) (i : Nat) : List Ob := mvD 0 (os.take i) ++ os.drop i
theorem cur_x (os : List Ob) (i : Nat) : (cur os i).map Ob.x = os.map Ob.x := by
  unfold cur
  rw [List.map_append, mvD_x, ← List.map_append, List.take_append_drop]
theorem qhd : ∀ {a b : List Ob}, a.map Ob.x = b.map Ob.x → Rise b → Rise a := by
  intro a b h hr
  have h1 : (b.map Ob.x).Pairwise (· < ·) := by rw [List.pairwise_map]; exact hr
  rw [← h, List.pairwise_map] at h1
  exact h1
theorem cur_at {i : Nat} {o : Ob} (h : os[i]? = some o) : (cur os i)[i]? = some o := by
  have hl := (List.getElem?_eq_some_iff.1 h).1
  unfold cur
  rw [List.getElem?_append_right (by rw [kk, List.length_take]; omega), kk, List.length_take, Nat.min_eq_left (by omega), Nat.sub_self, List.getElem?_drop, Nat.add_zero, h]
theorem qji {i : Nat} {o : Ob} (h : os[i]? = some o) : cur os (i + 1) = (cur os i).set i (if big o = true then o else { o with p := mvP 0 (os.take i) }) := by
  have hl := (List.getElem?_eq_some_iff.1 h).1
  have hd : os.drop i = o :: os.drop (i + 1) := by
    rw [List.drop_eq_getElem_cons hl]
    congr 1
    exact (List.getElem?_eq_some_iff.1 h).2
  unfold cur
  have hlen : (mvD 0 (os.take i)).length = i := by rw [kk, List.length_take]; omega
  rw [List.take_add_one, h, hd]
  simp only [Option.toList_some]
  rw [yo, List.set_append_right _ _ (by omega), hlen, Nat.sub_self, List.set_cons_zero, List.append_assoc]
  rfl
theorem cur_stay {i : Nat} {o : Ob} (h : os[i]? = some o) (hb : big o = true) : cur os (i + 1) = cur os i := by
  rw [qji h, if_pos hb]
  apply List.ext_getElem?
  intro j
  by_cases e : i = j
  · subst e
    have := cur_at h
    rw [List.getElem?_set_self (List.getElem?_eq_some_iff.1 this).1, this]
  · rw [List.getElem?_set_ne e]
theorem cur_all {i : Nat} (h : os.length ≤ i) : cur os i = mvD 0 os := by
  unfold cur
  rw [List.take_of_length_le h, List.drop_of_length_le h, List.append_nil]
theorem cur_zero : cur os 0 = os := by simp [cur, mvD]
theorem mvP_next {i : Nat} {o : Ob} (h : os[i]? = some o) : mvP 0 (os.take (i + 1)) = if big o = true then mvP 0 (os.take i) else mvP 0 (os.take i) + o.ws.length := by
  rw [List.take_add_one, h]
  exact yp o (os.take i) 0
theorem qec {i : Nat} : mvP 0 (os.take i) ≤ zr os := by
  have := qhb (os.take i) 0
  have := sumW_take os i
  omega
theorem Hx.cur {last : Nat} (h : Hx os last) (i : Nat) : Hx (Ytjjkcpmhlcjaoaa.cur os i) last := by
  have hx := cur_x os i
  refine ⟨qhd hx h.rise, fun o ho => ?_, fun o ho => ?_⟩ <;>
  · have : o.x ∈ (Ytjjkcpmhlcjaoaa.cur os i).map Ob.x := List.mem_map.2 ⟨o, ho, rfl⟩
    rw [hx] at this
    obtain ⟨q, hq, e⟩ := List.mem_map.1 this
    first
      | (have := h.lo q hq; omega)
      | (have := h.hi q hq; omega)
theorem qbc {ys : List Ob} {p : Ob → Bool} {seen : List Nat} (h1 : ∀ o ∈ os, 1 ≤ o.x) {o : Ob} (hr : Rise os) (ho : o ∈ jb seen os) (hp : p o = true) (hk : ys.Perm (came p seen os)) : (ys ++ [o]).Perm (came p (seen ++ [o.x - 1]) os) := (hk.append_right _).trans (qjh h1 hr ho hp).symm
theorem qed {ys : List Ob} {p : Ob → Bool} {seen : List Nat} (hk : ys.Perm (came p seen os)) : ys.length ≤ os.length := by
  rw [hk.length_eq]
  exact List.length_filter_le _ _
/-- How many words the small objects have. -/
def zg : List Ob → Nat
  | [] => 0
  | o :: t => if big o = true then zg t else o.ws.length + zg t
theorem qbd {a b : List Ob} (h : a.Sublist b) : zg a ≤ zg b := by
  induction h with
  | slnil => exact Nat.le_refl _
  | cons _ _ ih => simp only [zg]; split <;> omega
  | cons_cons _ _ ih => simp only [zg]; split <;> omega
theorem mvD_p : ∀ (os : List Ob) (q : Nat), ∀ o ∈ mvD q os, o.p ≤ q + zg os ∨ o ∈ os
  | [], _, o, h => by cases h
  | a :: t, q, o, h => by
    simp only [mvD] at h
    simp only [zg]
    split at h
    · rename_i hb
      rw [if_pos hb]
      rcases List.mem_cons.1 h with e | h
      · exact .inr (by simp [e])
      · exact (mvD_p t q o h).imp id (fun k => by simp [k])
    · rename_i hb
      rw [if_neg hb]
      rcases List.mem_cons.1 h with e | h
      · left
        subst e
        show q ≤ _
        omega
      · rcases mvD_p t _ o h with k | k
        · exact .inl (by omega)
        · exact .inr (by simp [k])
theorem yr : ∀ (os : List Ob) (q : Nat), (mvD q os).map Ob.row = os.map Ob.row
  | [], _ => rfl
  | a :: t, q => by
    simp only [mvD]
    split
    · simp only [List.map_cons, yr t]
    · simp only [List.map_cons, yr t]
      rfl
theorem mvD_ws : ∀ (os : List Ob) (q : Nat), (mvD q os).map (fun o => (o.x, o.ws)) = os.map fun o => (o.x, o.ws)
  | [], _ => rfl
  | a :: t, q => by
    simp only [mvD]
    split <;> simp only [List.map_cons, mvD_ws t]
theorem Hx.mvD {last : Nat} (h : Hx os last) (q : Nat) : Hx (Ytjjkcpmhlcjaoaa.mvD q os) last := by
  have hx := mvD_x os q
  refine ⟨qhd hx h.rise, fun o ho => ?_, fun o ho => ?_⟩ <;>
  · have : o.x ∈ (Ytjjkcpmhlcjaoaa.mvD q os).map Ob.x := List.mem_map.2 ⟨o, ho, rfl⟩
    rw [hx] at this
    obtain ⟨z, hz, e⟩ := List.mem_map.1 this
    first
      | (have := h.lo z hz; omega)
      | (have := h.hi z hz; omega)
theorem mvD_cl {n : Nat} (h : ∀ o ∈ os, o.ws.length ≤ n) (q : Nat) : ∀ o ∈ Ytjjkcpmhlcjaoaa.mvD q os, o.ws.length ≤ n := by
  intro o ho
  have : (o.x, o.ws) ∈ (Ytjjkcpmhlcjaoaa.mvD q os).map fun o => (o.x, o.ws) := List.mem_map.2 ⟨o, ho, rfl⟩
  rw [mvD_ws] at this
  obtain ⟨z, hz, e⟩ := List.mem_map.1 this
  have e2 : z.ws = o.ws := congrArg Prod.snd e
  rw [← e2]
  exact h z hz
def stP (b : Bool) (o : Ob) : Bool := big o == b
theorem uy : ∀ (os : List Ob) (b : Nat), (vr b os).length ≤ os.length
  | [], _ => Nat.le_refl _
  | o :: t, b => by
    have := uy t (o.p + o.ws.length)
    have : (qy b o.p).length ≤ 1 := by unfold qy; split <;> simp
    simp only [vr, List.length_append, List.length_cons]
    omega
theorem qee {i : Nat} {o : Ob} (h : os[i]? = some o) : vr 0 (os.take (i + 1)) = vr 0 (os.take i) ++ qy (vk 0 (os.take i)) o.p := by
  rw [List.take_add_one, h]
  exact qdj o _ 0
theorem qef {i : Nat} {o : Ob} (h : os[i]? = some o) : vk 0 (os.take (i + 1)) = o.p + o.ws.length := by
  rw [List.take_add_one, h]
  exact qdi o _ 0
/-- Objects by rising places. -/
def ByP (ys : List Ob) : Prop := ys.Pairwise fun a b => a.p ≤ b.p
/-- A new object. -/
def nOb (last p g n : Nat) : Ob := ⟨last + 1, p, g, n, List.replicate n (0, false)⟩
theorem nob_rows {X : List Ck} (h : zu X) (os : List Ob) : zu (os.map Ob.row ++ X) := by
  intro d hd b bs
  rcases List.mem_append.1 hd with k | k
  · obtain ⟨o, _, rfl⟩ := List.mem_map.1 k
    intro e
    cases e
  · exact h d k b bs
theorem js : zu ([] : List Ck) := fun d hd => by cases hd
theorem qjj {C X : List Ck} {os : List Ob} {o : Ob} {w0 w : World} (h : Mg w0 w (C ++ o.row :: (os.map Ob.row ++ X))) : Mg w0 w (C ++ ((os ++ [o]).map Ob.row ++ X)) := by
  refine h.perm (List.Perm.append_left C ?_)
  rw [List.map_append, List.map_cons, List.map_nil, List.append_assoc]
  exact List.perm_middle.symm
theorem Hx.add {os : List Ob} {last : Nat} (h : Hx os last) (o : Ob) (ho : o.x = last + 1) : Hx (os ++ [o]) (last + 1) := by
  refine ⟨List.pairwise_append.2 ⟨h.rise, List.pairwise_singleton _ _, fun a ha b hb => ?_⟩, fun q hq => ?_, fun q hq => ?_⟩
  · rw [List.mem_singleton] at hb
    subst hb
    have := h.hi a ha
    omega
  · rcases List.mem_append.1 hq with k | k
    · exact h.lo q k
    · rw [List.mem_singleton] at k; subst k; omega
  · rcases List.mem_append.1 hq with k | k
    · have := h.hi q k; omega
    · rw [List.mem_singleton] at k; subst k; omega
/-- A word of an object is written. -/
def Ob.put (o : Ob) (i : Nat) (c : Int × Bool) : Ob := { o with ws := o.ws.set i c }
theorem put_en (o : Ob) (i : Nat) (c : Int × Bool) : (o.put i c).en = o.en := by simp [Ob.put, Ob.en, Ob.v, Ob.sl]
theorem put_map {os : List Ob} {j : Nat} {o : Ob} (h : os[j]? = some o) (i : Nat) (c : Int × Bool) : (os.set j (o.put i c)).map Ob.en = os.map Ob.en := by
  rw [List.map_set, put_en]
  apply List.ext_getElem?
  intro k
  by_cases e : j = k
  · subst e
    rw [List.getElem?_set_self (by rw [List.length_map]; exact (List.getElem?_eq_some_iff.1 h).1), List.getElem?_map, h]
    rfl
  · rw [List.getElem?_set_ne e]
theorem kl {os : List Ob} {j : Nat} {o : Ob} (h : os[j]? = some o) (C X : List Ck) : (C ++ (os.map Ob.row ++ X))[C.length + j]? = some o.row := by
  rw [List.getElem?_append_right (by omega), Nat.add_sub_cancel_left, List.getElem?_append_left (by rw [List.length_map]; exact (List.getElem?_eq_some_iff.1 h).1), List.getElem?_map, h]
  rfl
theorem row_put {os : List Ob} {j : Nat} {o : Ob} (h : os[j]? = some o) (C X : List Ck) (i : Nat) (z : Int) (b : Bool) (hi : i < o.ws.length) : (C ++ (os.map Ob.row ++ X)).set (C.length + j) (.row 32 2 (.slice (some ⟨o.g, 0, none⟩) o.ws.length o.c) o.ws.length (over (za o.ws) (i * 2) [.int .i64 z, .bool b])) = C ++ ((os.set j (o.put i (z, b))).map Ob.row ++ X) := by
  have hl := (List.getElem?_eq_some_iff.1 h).1
  rw [xz z b hi, List.set_append_right _ _ (by omega), Nat.add_sub_cancel_left, List.set_append_left _ _ (by rw [List.length_map]; exact hl), List.map_set]
  congr 3
  simp [Ob.row, Ob.sl, Ob.put]
structure Hm (S i u last : Nat) (os : List Ob) (gs gl : List (Nat × Nat)) : Prop where
  hx : Hx os last
  la : last ≤ i
  po : ∀ o ∈ os, 1 ≤ o.ws.length ∧ o.p ≤ 65536
  nr : ∀ o ∈ os, ∀ c ∈ o.ws, c.2 = false
  su : zr os = u
  le : u ≤ S
  gp : gs = [(u, S - u)] ∨ (gs = [] ∧ S = 0)
  gn : gl = [(0, 0)] ∨ gl = []
theorem qbe : ∀ {os : List Ob}, (∀ o ∈ os, 1 ≤ o.ws.length) → os.length ≤ zr os
  | [], _ => Nat.le_refl _
  | o :: t, h => by
    have := qbe (os := t) (fun q hq => h q (by simp [hq]))
    have := h o (by simp)
    simp only [List.length_cons, zr]
    omega
theorem qbf : ∀ {os : List Ob} {o : Ob}, o ∈ os → o.ws.length ≤ zr os
  | [], _, h => by cases h
  | a :: t, o, h => by
    simp only [zr]
    rcases List.mem_cons.1 h with rfl | h
    · omega
    · have := qbf h; omega
section
variable {S i u last : Nat} {os : List Ob} {gs gl : List (Nat × Nat)}
theorem Hm.start (S : Nat) : Hm S 0 0 0 [] [(0, S)] [(0, 0)] := ⟨⟨.nil, (fun o h => by cases h), (fun o h => by cases h)⟩, Nat.le_refl _, (fun o h => by cases h), (fun o h => by cases h), rfl, Nat.zero_le _, .inl rfl, .inl rfl⟩
theorem Hm.len (h : Hm S i u last os gs gl) : os.length ≤ u := by rw [← h.su]; exact qbe fun o ho => (h.po o ho).1
theorem Hm.one (h : Hm S i u last os gs gl) : ∀ o ∈ os, o.ws.length ≤ u := fun o ho => by rw [← h.su]; exact qbf ho
theorem Hm.refs (h : Hm S i u last os gs gl) : Refs os := fun o ho c hc hk => by rw [h.nr o ho c hc] at hk; cases hk
theorem Hm.sum (h : Hm S i u last os gs gl) : jc gs = S - u ∧ jc gl = 0 ∧ gs.length ≤ 1 ∧ gl.length ≤ 1 := by
  have := h.le
  refine ⟨?_, ?_, ?_, ?_⟩
  · rcases h.gp with k | ⟨k, k2⟩
    · rw [k]; rfl
    · rw [k, k2]; simp [jc]
  · rcases h.gn with k | k <;> rw [k] <;> rfl
  · rcases h.gp with k | ⟨k, _⟩ <;> rw [k] <;> simp
  · rcases h.gn with k | k <;> rw [k] <;> simp
theorem Hm.hit (h : Hm S i u last os gs gl) {n : Nat} (h1 : 1 ≤ n) (k : (jp n gs).isSome = true) : jp n gs = some 0 ∧ gs[0]? = some (u, S - u) ∧ n ≤ S - u ∧ gs = [(u, S - u)] := by
  rcases h.gp with e | ⟨e, _⟩
  · subst e
    by_cases hn : n ≤ S - u
    · exact ⟨by simp [jp, hn], rfl, hn, rfl⟩
    · simp [jp, hn] at k
  · subst e; cases k
theorem Hm.miss (h : Hm S i u last os gs gl) {n : Nat} (h1 : 1 ≤ n) (k : (jp n gs).isSome = false) : jp n gs = none ∧ ¬ u + n ≤ S := by
  have hle := h.le
  rcases h.gp with e | ⟨e, e2⟩
  · subst e
    by_cases hn : n ≤ S - u
    · simp [jp, hn] at k
    · exact ⟨by simp [jp, hn], by omega⟩
  · subst e; exact ⟨rfl, by omega⟩
theorem Hm.alloc (h : Hm S i u last os gs gl) (hS : S ≤ 65536) {n : Nat} (h1 : 1 ≤ n) (hn : n ≤ S - u) (he : gs = [(u, S - u)]) (g : Nat) : Hm S (i + 1) (u + n) (last + 1) (os ++ [nOb last u g n]) (gs.set 0 (u + n, S - u - n)) gl := by
  have hle := h.le
  have hla := h.la
  refine ⟨h.hx.add _ rfl, by omega, fun o ho => ?_, fun o ho c hc => ?_, ?_, by omega, .inl ?_, h.gn⟩
  · rcases List.mem_append.1 ho with k | k
    · exact h.po o k
    · rw [List.mem_singleton] at k; subst k; exact ⟨by simpa [nOb] using h1, by show u ≤ 65536; omega⟩
  · rcases List.mem_append.1 ho with k | k
    · exact h.nr o k c hc
    · rw [List.mem_singleton] at k; subst k; rw [List.eq_of_mem_replicate hc]
  · rw [vt, h.su]; simp [zr, nOb]
  · rw [he, show S - (u + n) = S - u - n from by omega]; rfl
theorem Hm.clear (h : Hm S i u last os gs gl) : Hm S (i + 1) 0 last [] (qy 0 S) [] := by
  have := h.la
  refine ⟨⟨.nil, (fun o h => by cases h), (fun o h => by cases h)⟩, by omega, (fun o h => by cases h), (fun o h => by cases h), rfl, Nat.zero_le _, ?_, .inr rfl⟩
  unfold qy
  split
  · exact .inl rfl
  · exact .inr ⟨rfl, by omega⟩
end
/-- How many words the large objects have. -/
def je : List Ob → Nat
  | [] => 0
  | o :: t => if big o = true then o.ws.length + je t else je t
theorem vw (a b : List Ob) : zg (a ++ b) = zg a + zg b := by
  induction a with
  | nil => simp [zg]
  | cons o t ih => simp only [List.cons_append, zg, ih]; split <;> omega
theorem va (a b : List Ob) : je (a ++ b) = je a + je b := by
  induction a with
  | nil => simp [je]
  | cons o t ih => simp only [List.cons_append, je, ih]; split <;> omega
theorem sum_SL : ∀ os : List Ob, zr os = zg os + je os
  | [] => rfl
  | o :: t => by
    simp only [zr, zg, je, sum_SL t]
    split <;> omega
/-- In each area objects stand in their order, one behind the other. -/
def Stk (os : List Ob) : Prop := os.Pairwise fun a b => big a = big b → a.p + a.ws.length ≤ b.p
/-- Handles are 1, 2, .. -/
def Num (os : List Ob) : Prop := ∀ (j : Nat) (o : Ob), os[j]? = some o → o.x = j + 1
theorem Num.hx {os : List Ob} (h : Num os) {n : Nat} (hn : os.length = n) : Hx os n := by
  refine ⟨?_, fun o ho => ?_, fun o ho => ?_⟩
  · unfold Rise
    rw [List.pairwise_iff_getElem]
    intro i j hi hj hij
    rw [h i _ (List.getElem?_eq_getElem hi), h j _ (List.getElem?_eq_getElem hj)]
    omega
  · obtain ⟨j, hj⟩ := List.mem_iff_getElem?.1 ho
    have := h j o hj
    omega
  · obtain ⟨j, hj⟩ := List.mem_iff_getElem?.1 ho
    have := h j o hj
    have := (List.getElem?_eq_some_iff.1 hj).1
    omega
theorem Num.at {os : List Ob} (h : Num os) {j : Nat} {o : Ob} (hj : os[j]? = some o) : fO ((j + 1 : Nat) : Int) os = some o := by
  have := (h.hx rfl).at (List.mem_of_getElem? hj)
  rw [h j o hj] at this
  exact this
theorem Num.some {os : List Ob} (h : Num os) {z : Int} (h1 : 1 ≤ z) (h2 : z ≤ ((os.length : Nat) : Int)) : (fO z os).isSome = true := by
  obtain ⟨j, rfl⟩ : ∃ j : Nat, z = ((j + 1 : Nat) : Int) := ⟨(z - 1).toNat, by omega⟩
  rw [h.at (List.getElem?_eq_getElem (show j < os.length by omega))]
  rfl
structure Ha1 (n us ul : Nat) (os : List Ob) : Prop where
  num : Num os
  len : os.length = n
  es : us = zg os
  el : ul = je os
  ls : us ≤ 600
  ll : ul ≤ 900
  stk : Stk os
  siz : ∀ o ∈ os, 1 ≤ o.ws.length ∧ o.ws.length ≤ 40
  top : ∀ o ∈ os, o.p + o.ws.length ≤ (if big o = true then ul else us)
  zer : ∀ o ∈ os, ∀ c ∈ o.ws, c = (0, false)
theorem Ha1.start : Ha1 0 0 0 [] := ⟨(fun j o h => by simp at h), rfl, rfl, rfl, by decide, by decide, .nil, (fun o h => by cases h), (fun o h => by cases h), (fun o h => by cases h)⟩
theorem big_nOb (last p g n : Nat) : big (nOb last p g n) = decide (16 < ((n : Nat) : Int)) := by simp [big, nOb]
theorem Num.add {os : List Ob} (h : Num os) (p g n : Nat) : Num (os ++ [nOb os.length p g n]) := by
  intro j o hj
  by_cases k : j < os.length
  · rw [List.getElem?_append_left k] at hj
    exact h j o hj
  · have hlt := (List.getElem?_eq_some_iff.1 hj).1
    simp at hlt
    have : j = os.length := by omega
    subst this
    simp at hj
    subst hj
    rfl
theorem Ha1.small {n us ul : Nat} {os : List Ob} (h : Ha1 n us ul os) {k : Nat} (h1 : 1 ≤ k) (hk : ¬ 16 < k) (hf : k ≤ 600 - us) (g : Nat) : Ha1 (n + 1) (us + k) ul (os ++ [nOb n us g k]) := by
  have hb : big (nOb n us g k) = false := by rw [big_nOb]; simp; omega
  have h600 := h.ls
  have hl := h.len
  refine ⟨by rw [← hl]; exact h.num.add us g k, by simp [h.len], ?_, ?_, by omega, h.ll, List.pairwise_append.2 ⟨h.stk, List.pairwise_singleton _ _, fun a ha b hb' e => ?_⟩, fun o ho => ?_, fun o ho => ?_, fun o ho c hc => ?_⟩
  · rw [vw, ← h.es]; simp only [zg, hb, Bool.false_eq_true, if_false]; simp [nOb]
  · rw [va, ← h.el]; simp [je, hb]
  · rw [List.mem_singleton] at hb'
    subst hb'
    have := h.top a ha
    rw [e, hb] at this
    exact this
  · rcases List.mem_append.1 ho with q | q
    · exact h.siz o q
    · rw [List.mem_singleton] at q; subst q; simp [nOb]; omega
  · rcases List.mem_append.1 ho with q | q
    · have := h.top o q
      split at this
      · rename_i c; rw [if_pos c]; exact this
      · rename_i c; rw [if_neg c]; omega
    · rw [List.mem_singleton] at q; subst q; rw [hb]; simp [nOb]
  · rcases List.mem_append.1 ho with q | q
    · exact h.zer o q c hc
    · rw [List.mem_singleton] at q; subst q; exact List.eq_of_mem_replicate hc
theorem Ha1.large {n us ul : Nat} {os : List Ob} (h : Ha1 n us ul os) {k : Nat} (h40 : k ≤ 40) (hk : 16 < k) (hf : k ≤ 900 - ul) (g : Nat) : Ha1 (n + 1) us (ul + k) (os ++ [nOb n ul g k]) := by
  have hb : big (nOb n ul g k) = true := by rw [big_nOb]; simp; omega
  have h900 := h.ll
  have hl := h.len
  refine ⟨by rw [← hl]; exact h.num.add ul g k, by simp [h.len], ?_, ?_, h.ls, by omega, List.pairwise_append.2 ⟨h.stk, List.pairwise_singleton _ _, fun a ha b hb' e => ?_⟩, fun o ho => ?_, fun o ho => ?_, fun o ho c hc => ?_⟩
  · rw [vw, ← h.es]; simp [zg, hb]
  · rw [va, ← h.el]; simp only [je, hb, if_true]; simp [nOb]
  · rw [List.mem_singleton] at hb'
    subst hb'
    have := h.top a ha
    rw [e, hb] at this
    exact this
  · rcases List.mem_append.1 ho with q | q
    · exact h.siz o q
    · rw [List.mem_singleton] at q; subst q; simp [nOb]; omega
  · rcases List.mem_append.1 ho with q | q
    · have := h.top o q
      split at this
      · rename_i c; rw [if_pos c]; omega
      · rename_i c; rw [if_neg c]; exact this
    · rw [List.mem_singleton] at q; subst q; rw [hb]; simp [nOb]
  · rcases List.mem_append.1 ho with q | q
    · exact h.zer o q c hc
    · rw [List.mem_singleton] at q; subst q; exact List.eq_of_mem_replicate hc
/-- The objects while words are written. -/
structure Ha2 (n : Nat) (os : List Ob) : Prop where
  num : Num os
  len : os.length = n
  ss : zg os ≤ 600
  sl : je os ≤ 900
  stk : Stk os
  siz : ∀ o ∈ os, 1 ≤ o.ws.length ∧ o.ws.length ≤ 40
  top : ∀ o ∈ os, o.p + o.ws.length ≤ (if big o = true then 900 else 600)
  rf : ∀ o ∈ os, ∀ c ∈ o.ws, c.2 = true → 1 ≤ c.1 ∧ c.1 ≤ ((n : Nat) : Int)
section
variable {n : Nat} {os : List Ob}
theorem Ha2.refs (h : Ha2 n os) : Refs os := fun o ho c hc k => by
  obtain ⟨h1, h2⟩ := h.rf o ho c hc k
  exact .inr (h.num.some h1 (by rw [h.len]; exact h2))
theorem uz (o : Ob) (i : Nat) (c : Int × Bool) : big (o.put i c) = big o := by simp [big, Ob.put]
theorem qka : ∀ {os : List Ob} {j : Nat} {o : Ob} (i : Nat) (c : Int × Bool), os[j]? = some o → zg (os.set j (o.put i c)) = zg os
  | [], _, _, _, _, h => by simp at h
  | a :: t, 0, o, i, c, h => by simp at h; subst h; simp only [List.set_cons_zero, zg, uz]; simp [Ob.put]
  | a :: t, j + 1, o, i, c, h => by simp only [List.set_cons_succ, zg, qka i c (show t[j]? = some o by simpa using h)]
theorem qkb : ∀ {os : List Ob} {j : Nat} {o : Ob} (i : Nat) (c : Int × Bool), os[j]? = some o → je (os.set j (o.put i c)) = je os
  | [], _, _, _, _, h => by simp at h
  | a :: t, 0, o, i, c, h => by simp at h; subst h; simp only [List.set_cons_zero, je, uz]; simp [Ob.put]
  | a :: t, j + 1, o, i, c, h => by simp only [List.set_cons_succ, je, qkb i c (show t[j]? = some o by simpa using h)]
theorem qaa (o : Ob) (i : Nat) (c : Int × Bool) : (o.put i c).ws.length = o.ws.length := by simp [Ob.put]
theorem qhe {P : Ob → Prop} {j : Nat} {q : Ob} (h : ∀ o ∈ os, P o) (hq : P q) : ∀ o ∈ os.set j q, P o := by
  intro o ho
  rcases List.mem_or_eq_of_mem_set ho with k | k
  · exact h o k
  · rw [k]; exact hq
theorem Ha2.put (h : Ha2 n os) {j : Nat} {o : Ob} (hj : os[j]? = some o) (i : Nat) (c : Int × Bool) (hc : c.2 = true → 1 ≤ c.1 ∧ c.1 ≤ ((n : Nat) : Int)) : Ha2 n (os.set j (o.put i c)) := by
  have hm := List.mem_of_getElem? hj
  have hl := (List.getElem?_eq_some_iff.1 hj).1
  refine ⟨fun k q hk => ?_, by rw [List.length_set]; exact h.len, by rw [qka i c hj]; exact h.ss, by rw [qkb i c hj]; exact h.sl, ?_, qhe h.siz (by rw [qaa]; exact h.siz o hm), qhe h.top (by rw [qaa, uz]; exact h.top o hm), qhe h.rf (fun d hd k => ?_)⟩
  · by_cases e : j = k
    · subst e
      rw [List.getElem?_set_self hl] at hk
      cases hk
      exact h.num j o hj
    · rw [List.getElem?_set_ne e] at hk
      exact h.num k q hk
  · have hs := h.stk
    unfold Stk at hs ⊢
    rw [List.pairwise_iff_getElem] at hs ⊢
    intro a b ha hb hab
    rw [List.length_set] at ha hb
    have key : ∀ k (hk : k < os.length), big ((os.set j (o.put i c))[k]'(by rw [List.length_set]; exact hk)) = big os[k] ∧ ((os.set j (o.put i c))[k]'(by rw [List.length_set]; exact hk)).p = os[k].p ∧ ((os.set j (o.put i c))[k]'(by rw [List.length_set]; exact hk)).ws.length = os[k].ws.length := by
      intro k hk
      rw [List.getElem_set]
      split
      · rename_i e
        subst e
        have : os[j] = o := (List.getElem?_eq_some_iff.1 hj).2
        rw [this]
        exact ⟨uz _ _ _, rfl, qaa _ _ _⟩
      · exact ⟨rfl, rfl, rfl⟩
    obtain ⟨a1, a2, a3⟩ := key a ha
    obtain ⟨b1, b2, b3⟩ := key b hb
    rw [a1, b1, a2, a3, b2]
    exact hs a b ha hb hab
  · rcases List.mem_or_eq_of_mem_set hd with q | q
    · exact h.rf o hm d q k
    · rw [q] at k ⊢; exact hc k
end
/-! ### Marks, round by round -/
/-- A row of answers. -/
def zb (bs : List Bool) : List Value := bs.map .bool
theorem vb {bs : List Bool} {i : Nat} {b : Bool} (h : bs[i]? = some b) : (zb bs)[i]? = some (.bool b) := by unfold zb; rw [List.getElem?_map, h]; rfl
theorem qeg (bs : List Bool) (i : Nat) (b : Bool) : over (zb bs) i [.bool b] = zb (bs.set i b) := by
  unfold zb
  simp only [over, List.map_set]
theorem boolC_made (n : Nat) : (madeCells #[.bool false] (n * 1)).toList = zb (List.replicate n false) := by
  unfold madeCells zb
  rw [Array.toList_map, Array.toList_range, Nat.mul_one]
  induction n with
  | zero => rfl
  | succ n ih =>
    rw [List.range_succ, List.map_append, ih, List.replicate_succ', List.map_append]
    simp [Nat.mod_one]
/-- A mark at a place. -/
def On (bs : List Bool) (y : Nat) : Prop := bs[y]? = some true
/-- What an object with a mark names has one. -/
def Cl (os : List Ob) (bs : List Bool) : Prop := ∀ (j : Nat) (o : Ob), os[j]? = some o → On bs (j + 1) → ∀ z : Int, (z, true) ∈ o.ws → On bs z.toNat
/-- How many marks there are from 1 on. -/
def cnt (bs : List Bool) : Nat := (bs.drop 1).count true
theorem cnt_le (bs : List Bool) : cnt bs ≤ bs.length - 1 := by
  unfold cnt
  have := List.count_le_length (a := true) (l := bs.drop 1)
  rw [List.length_drop] at this
  exact this
def ClP (os : List Ob) (P : Nat → Prop) : Prop := ∀ (j : Nat) (o : Ob), os[j]? = some o → P (j + 1) → ∀ z : Int, (z, true) ∈ o.ws → P z.toNat
/-- Marks within a round that began with S. -/
structure Rn1 (os : List Ob) (S bs : List Bool) : Prop where
  len : bs.length = S.length
  mono : ∀ y, On S y → On bs y
  least : ∀ P : Nat → Prop, ClP os P → (∀ y, On S y → P y) → ∀ y, On bs y → P y
/-- So many objects are looked at. -/
def Dn (os : List Ob) (S bs : List Bool) (i : Nat) : Prop := ∀ (j : Nat) (o : Ob), j < i → os[j]? = some o → On S (j + 1) → ∀ z : Int, (z, true) ∈ o.ws → On bs z.toNat
section
variable {n : Nat} {os : List Ob} {S bs : List Bool} {rs : List Int}
theorem Rn1.start (os : List Ob) (S : List Bool) : Rn1 os S S := ⟨rfl, fun _ h => h, fun _ _ h => h⟩
theorem Dn.skip {i : Nat} (h : Dn os S bs i) (hR : Rn1 os S bs) (hn : ¬ On bs (i + 1)) : Dn os S bs (i + 1) := by
  intro j q hj hq hS z hz
  by_cases e : j = i
  · subst e; exact absurd (hR.mono _ hS) hn
  · exact h j q (by omega) hq hS z hz
/-- Marks between rounds. -/
structure Ro (n : Nat) (os : List Ob) (rs : List Int) (r : Nat) (bs : List Bool) : Prop where
  len : bs.length = n + 1
  snd : ∀ y, On bs y → y = 0 ∨ Rc os rs ((y : Nat) : Int)
  root : ∀ r ∈ rs, On bs r.toNat
  prog : Cl os bs ∨ r + 1 ≤ cnt bs
theorem cnt_pos {y : Nat} (hy : 1 ≤ y) (h : On bs y) : 1 ≤ cnt bs := by
  unfold cnt
  have : true ∈ bs.drop 1 := by
    refine List.mem_iff_getElem?.2 ⟨y - 1, ?_⟩
    rw [List.getElem?_drop, show 1 + (y - 1) = y from by omega]
    exact h
  exact List.one_le_count_iff.2 this
theorem Ro.start (hl : bs.length = n + 1) (hr : ∀ y : Nat, On bs y ↔ ((y : Nat) : Int) ∈ rs) (h0 : ∀ r ∈ rs, 0 ≤ r) : Ro n os rs 0 bs := by
  refine ⟨hl, fun y hy => ?_, fun r hr' => (hr r.toNat).2 (by rw [show ((r.toNat : Nat) : Int) = r from by have := h0 r hr'; omega]; exact hr'), ?_⟩
  · by_cases e : y = 0
    · exact .inl e
    · exact .inr (.root ((hr y).1 hy) (by omega))
  · by_cases q : ∃ y, 1 ≤ y ∧ On bs y
    · obtain ⟨y, h1, h2⟩ := q
      exact .inr (cnt_pos h1 h2)
    · exact .inl fun j o hj hb => absurd ⟨j + 1, by omega, hb⟩ q
theorem Ro.all (h : Ha2 n os) (hR : Ro n os rs n bs) (y : Nat) (h1 : 1 ≤ y) : On bs y ↔ Rc os rs ((y : Nat) : Int) := by
  have hc : Cl os bs := by
    rcases hR.prog with k | k
    · exact k
    · have := cnt_le bs
      rw [hR.len] at this
      omega
  refine ⟨fun k => (hR.snd y k).resolve_left (by omega), fun k => ?_⟩
  have key : ∀ x : Int, Rc os rs x → On bs x.toNat := by
    intro x hx
    induction hx with
    | root a _ => exact hR.root _ a
    | ref a b c d ih =>
      rename_i x y o
      obtain ⟨hm, he⟩ := yd b
      obtain ⟨j, hj⟩ := List.mem_iff_getElem?.1 hm
      have hx := h.num j o hj
      have : x.toNat = j + 1 := by omega
      rw [this] at ih
      exact hc j o hj ih _ c
  have := key _ k
  simpa using this
end
/-! ### What uf -/
section
variable {n : Nat} {os : List Ob} {ws : List Int}
theorem qkc {o : Ob} : o ∈ stay ws os ↔ o ∈ os ∧ ((o.x : Nat) : Int) ∈ ws := by
  unfold stay
  rw [List.mem_filter]
  simp
theorem qbg (q : Nat) {L : List Ob} {o2 : Ob} (ho : o2 ∈ mvD q L) : ∃ o ∈ L, o2.x = o.x ∧ o2.ws = o.ws := by
  have : (o2.x, o2.ws) ∈ L.map fun o => (o.x, o.ws) := by rw [← mvD_ws L q]; exact List.mem_map.2 ⟨o2, ho, rfl⟩
  obtain ⟨o, h1, h2⟩ := List.mem_map.1 this
  exact ⟨o, h1, (congrArg Prod.fst h2).symm, (congrArg Prod.snd h2).symm⟩
theorem yt : ∀ (L : List Ob) (q : Nat), ∀ o ∈ mvD q L, (big o = true ∧ o ∈ L) ∨ (big o = false ∧ q ≤ o.p ∧ o.p + o.ws.length ≤ q + zg L)
  | [], _, o, h => by cases h
  | a :: t, q, o, h => by
    simp only [mvD] at h
    simp only [zg]
    split at h
    · rename_i hb
      rw [if_pos hb]
      rcases List.mem_cons.1 h with e | h
      · subst e; exact .inl ⟨hb, by simp⟩
      · rcases yt t q o h with ⟨h1, h2⟩ | h1
        · exact .inl ⟨h1, by simp [h2]⟩
        · exact .inr h1
    · rename_i hb
      rw [if_neg hb]
      have hb' : big a = false := by cases k : big a <;> simp_all
      rcases List.mem_cons.1 h with e | h
      · subst e
        exact .inr ⟨hb', Nat.le_refl _, by show q + a.ws.length ≤ _; omega⟩
      · rcases yt t _ o h with ⟨h1, h2⟩ | ⟨h1, h2, h3⟩
        · exact .inl ⟨h1, by simp [h2]⟩
        · exact .inr ⟨h1, by omega, by omega⟩
/-- What is covered. -/
def Cov (L : List Ob) (x : Nat) (b : Bool) (j : Nat) : Prop := ∃ o ∈ L, o.x < x ∧ big o = b ∧ o.p ≤ j ∧ j < o.p + o.ws.length
theorem Cov.up {L : List Ob} {x : Nat} {b : Bool} {j : Nat} (h : Cov L x b j) : Cov L (x + 1) b j := by
  obtain ⟨a, ha, hx, r⟩ := h
  exact ⟨a, ha, by omega, r⟩
end
/-- So many words from a place on are free of an area's objects, and within it. -/
def frS (b : Bool) (at_ n size : Nat) (os : List Ob) : Bool := decide (at_ + n ≤ size) && os.all fun o => !(big o == b && decide (o.p < at_ + n) && decide (at_ < o.p + o.ws.length))
theorem xh {b : Bool} {at_ n size : Nat} {os : List Ob} : frS b at_ n size os = true ↔ at_ + n ≤ size ∧ ∀ o ∈ os, big o = b → o.p + o.ws.length ≤ at_ ∨ at_ + n ≤ o.p := by
  unfold frS
  rw [Bool.and_eq_true, decide_eq_true_eq, List.all_eq_true]
  refine and_congr_right fun _ => ⟨fun h o ho hb => ?_, fun h o ho => ?_⟩
  · have := h o ho
    simp [hb] at this
    omega
  · rcases Bool.eq_false_or_eq_true (big o == b) with k | k
    · have := h o ho (eq_of_beq k)
      simp [k]
      omega
    · simp [k]
/-- The gaps of an area: within it, rising, apart from its objects, each at the area's beginning or right behind an object, and every free part lies in one. -/
structure Gp (b : Bool) (size : Nat) (os : List Ob) (g : List (Nat × Nat)) : Prop where
  inn : ∀ q ∈ g, q.1 + q.2 ≤ size
  srt : g.Pairwise fun a c => a.1 + a.2 ≤ c.1
  dis : ∀ q ∈ g, ∀ o ∈ os, big o = b → o.p + o.ws.length ≤ q.1 ∨ q.1 + q.2 ≤ o.p
  cov : ∀ at_ n, 1 ≤ n → frS b at_ n size os = true → ∃ q ∈ g, q.1 ≤ at_ ∧ at_ + n ≤ q.1 + q.2
  beh : ∀ q ∈ g, q.1 = 0 ∨ ∃ o ∈ os, big o = b ∧ o.p + o.ws.length = q.1
theorem qbh {n : Nat} : ∀ {g : List (Nat × Nat)} {i j : Nat} {q : Nat × Nat}, jp n g = some i → g[j]? = some q → n ≤ q.2 → i ≤ j
  | [], _, _, _, h, _, _ => by cases h
  | a :: t, i, j, q, h, hj, hq => by
    simp only [jp] at h
    by_cases k : n ≤ a.2
    · rw [if_pos k] at h; cases h; exact Nat.zero_le _
    · rw [if_neg k] at h
      obtain ⟨i', hi, rfl⟩ := Option.map_eq_some_iff.1 h
      cases j with
      | zero => simp at hj; subst hj; exact absurd hq k
      | succ j => have := qbh hi (by simpa using hj) hq; omega
theorem qhf {n : Nat} : ∀ {g : List (Nat × Nat)} {q : Nat × Nat}, jp n g = none → q ∈ g → ¬ n ≤ q.2
  | [], _, _, h => by cases h
  | a :: t, q, h, hq => by
    simp only [jp] at h
    by_cases k : n ≤ a.2
    · rw [if_pos k] at h; cases h
    · rw [if_neg k] at h
      rcases List.mem_cons.1 hq with rfl | hq
      · exact k
      · exact qhf (Option.map_eq_none_iff.1 h) hq
theorem srt_le {g : List (Nat × Nat)} (h : g.Pairwise fun a c => a.1 + a.2 ≤ c.1) {i j : Nat} {a c : Nat × Nat} (hi : g[i]? = some a) (hj : g[j]? = some c) (hij : i ≤ j) : a.1 ≤ c.1 := by
  by_cases e : i = j
  · subst e; rw [hi] at hj; cases hj; exact Nat.le_refl _
  · obtain ⟨h1, h2⟩ := List.getElem?_eq_some_iff.1 hi
    obtain ⟨h3, h4⟩ := List.getElem?_eq_some_iff.1 hj
    have := List.pairwise_iff_getElem.1 h i j h1 h3 (by omega)
    rw [h2, h4] at this
    omega
variable {b : Bool} {size : Nat} {os : List Ob} {g : List (Nat × Nat)}
/-- The first gap that is wide enough is the least free place. -/
theorem Gp.hit (h : Gp b size os g) {n i p s : Nat} (h1 : 1 ≤ n) (hi : jp n g = some i) (hat : g[i]? = some (p, s)) (hns : n ≤ s) : frS b p n size os = true ∧ (∀ at_, frS b at_ n size os = true → p ≤ at_) ∧ (p = 0 ∨ ∃ o ∈ os, big o = b ∧ o.p + o.ws.length = p) := by
  have hm := List.mem_of_getElem? hat
  refine ⟨xh.2 ⟨by have := h.inn _ hm; simp only at this; omega, fun o ho hb => ?_⟩, fun at_ hf => ?_, h.beh _ hm⟩
  · rcases h.dis _ hm o ho hb with k | k
    · exact .inl k
    · simp only at k; exact .inr (by omega)
  · obtain ⟨q, hq, k1, k2⟩ := h.cov at_ n h1 hf
    obtain ⟨j, hj⟩ := List.mem_iff_getElem?.1 hq
    have := qbh hi hj (by omega)
    have := srt_le h.srt hat hj this
    simp only at this
    omega
theorem Gp.miss (h : Gp b size os g) {n : Nat} (h1 : 1 ≤ n) (hi : jp n g = none) (at_ : Nat) : frS b at_ n size os = false := by
  rcases Bool.eq_false_or_eq_true (frS b at_ n size os) with k | k
  · obtain ⟨q, hq, k1, k2⟩ := h.cov at_ n h1 k
    exact absurd (show n ≤ q.2 by omega) (qhf hi hq)
  · exact k
theorem Gp.start (b : Bool) (size : Nat) : Gp b size [] [(0, size)] := by
  refine ⟨?_, by simp, ?_, ?_, ?_⟩
  · intro q hq
    rw [List.mem_singleton] at hq
    subst hq
    show 0 + size ≤ size
    omega
  · intro q _ o ho; cases ho
  · intro at_ n _ hf
    have := (xh.1 hf).1
    exact ⟨(0, size), by simp, Nat.zero_le _, by show at_ + n ≤ 0 + size; omega⟩
  · intro q hq
    rw [List.mem_singleton] at hq
    subst hq
    exact .inl rfl
/-- A new object takes the head of its gap. -/
theorem Gp.alloc (h : Gp b size os g) {n i p s : Nat} (h1 : 1 ≤ n) (hat : g[i]? = some (p, s)) (hns : n ≤ s) {q : Ob} (hq : big q = b) (hp : q.p = p) (hl : q.ws.length = n) : Gp b size (os ++ [q]) (g.set i (p + n, s - n)) := by
  have hlt := (List.getElem?_eq_some_iff.1 hat).1
  have hm := List.mem_of_getElem? hat
  have hin := h.inn _ hm
  simp only at hin
  have each : ∀ r ∈ g.set i (p + n, s - n), r = (p + n, s - n) ∨ ∃ j, j ≠ i ∧ g[j]? = some r := by
    intro r hr
    obtain ⟨j, hj⟩ := List.mem_iff_getElem?.1 hr
    by_cases e : i = j
    · subst e; rw [List.getElem?_set_self hlt] at hj; exact .inl (Option.some.inj hj).symm
    · rw [List.getElem?_set_ne e] at hj; exact .inr ⟨j, fun k => e k.symm, hj⟩
  have far : ∀ j r, j ≠ i → g[j]? = some r → r.1 + r.2 ≤ p ∨ p + s ≤ r.1 := by
    intro j r hj hr
    obtain ⟨k1, k2⟩ := List.getElem?_eq_some_iff.1 hr
    obtain ⟨_, k4⟩ := List.getElem?_eq_some_iff.1 hat
    rcases Nat.lt_or_gt_of_ne hj with k | k
    · have := List.pairwise_iff_getElem.1 h.srt j i k1 hlt k
      rw [k2, k4] at this; exact .inl this
    · have := List.pairwise_iff_getElem.1 h.srt i j hlt k1 k
      rw [k2, k4] at this; exact .inr this
  refine ⟨fun r hr => ?_, ?_, fun r hr o ho hb => ?_, fun at_ m hm1 hf => ?_, fun r hr => ?_⟩
  · rcases each r hr with rfl | ⟨j, _, hj⟩
    · show p + n + (s - n) ≤ size; omega
    · exact h.inn r (List.mem_of_getElem? hj)
  · rw [List.pairwise_iff_getElem]
    intro j k hj hk hjk
    simp only [List.length_set] at hj hk
    have hjk' := List.pairwise_iff_getElem.1 h.srt j k hj hk hjk
    obtain ⟨_, hgi⟩ := List.getElem?_eq_some_iff.1 hat
    rw [List.getElem_set, List.getElem_set]
    split
    · rename_i e
      subst e
      rw [if_neg (by omega)]
      rw [hgi] at hjk'
      show p + n + (s - n) ≤ _
      simp only at hjk'
      omega
    · split
      · rename_i e
        subst e
        rw [hgi] at hjk'
        show _ ≤ p + n
        simp only at hjk'
        omega
      · exact hjk'
  · rcases List.mem_append.1 ho with ho | ho
    · rcases each r hr with rfl | ⟨j, _, hj⟩
      · rcases h.dis _ hm o ho hb with k | k
        · simp only at k; exact .inl (by show _ ≤ p + n; omega)
        · simp only at k; exact .inr (by show p + n + (s - n) ≤ _; omega)
      · exact h.dis r (List.mem_of_getElem? hj) o ho hb
    · rw [List.mem_singleton] at ho
      subst ho
      rw [hp, hl]
      rcases each r hr with rfl | ⟨j, hj1, hj⟩
      · exact .inl (Nat.le_refl _)
      · rcases far j r hj1 hj with k | k
        · exact .inr k
        · exact .inl (by omega)
  · obtain ⟨f1, f2⟩ := xh.1 hf
    obtain ⟨r, hr, k1, k2⟩ := h.cov at_ m hm1 (xh.2 ⟨f1, fun o ho hb => f2 o (by simp [ho]) hb⟩)
    have hnew := f2 q (by simp) hq
    rw [hp, hl] at hnew
    obtain ⟨j, hj⟩ := List.mem_iff_getElem?.1 hr
    by_cases e : i = j
    · subst e
      rw [hat] at hj
      cases hj
      simp only at k1 k2
      refine ⟨(p + n, s - n), List.mem_iff_getElem?.2 ⟨i, List.getElem?_set_self hlt⟩, ?_, ?_⟩
      · show p + n ≤ at_; omega
      · show at_ + m ≤ p + n + (s - n); omega
    · exact ⟨r, List.mem_iff_getElem?.2 ⟨j, by rw [List.getElem?_set_ne e]; exact hj⟩, k1, k2⟩
  · rcases each r hr with rfl | ⟨j, _, hj⟩
    · exact .inr ⟨q, by simp, hq, by show q.p + q.ws.length = p + n; omega⟩
    · rcases h.beh r (List.mem_of_getElem? hj) with k | ⟨o, ho, k1, k2⟩
      · exact .inl k
      · exact .inr ⟨o, by simp [ho], k1, k2⟩
/-- It hangs on the objects' areas, places and lengths alone. -/
def shp (o : Ob) : Bool × Nat × Nat := (big o, o.p, o.ws.length)
theorem km {os os' : List Ob} (h : os'.map shp = os.map shp) {o : Ob} (ho : o ∈ os') : ∃ q ∈ os, shp q = shp o := by
  have : shp o ∈ os.map shp := by rw [← h]; exact List.mem_map.2 ⟨o, ho, rfl⟩
  exact List.mem_map.1 this
theorem yg {a c : Ob} (h : shp a = shp c) : big a = big c ∧ a.p = c.p ∧ a.ws.length = c.ws.length := by
  simp only [shp, Prod.mk.injEq] at h
  exact h
theorem fr_shp {os os' : List Ob} (h : os'.map shp = os.map shp) (at_ n : Nat) : frS b at_ n size os' = frS b at_ n size os := by
  have key : ∀ {a c : List Ob}, a.map shp = c.map shp → frS b at_ n size c = true → frS b at_ n size a = true := by
    intro a c e hf
    obtain ⟨f1, f2⟩ := xh.1 hf
    refine xh.2 ⟨f1, fun o ho hb => ?_⟩
    obtain ⟨q, hq, e2⟩ := km e ho
    obtain ⟨e3, e4, e5⟩ := yg e2
    have := f2 q hq (e3.trans hb)
    omega
  rcases Bool.eq_false_or_eq_true (frS b at_ n size os) with k | k
  · rw [k, key h k]
  · rcases Bool.eq_false_or_eq_true (frS b at_ n size os') with k2 | k2
    · have := key h.symm k2
      rw [k] at this
      cases this
    · rw [k, k2]
theorem Gp.same {os' : List Ob} (h : Gp b size os g) (he : os'.map shp = os.map shp) : Gp b size os' g := by
  refine ⟨h.inn, h.srt, fun q hq o ho hb => ?_, fun at_ n h1 hf => h.cov at_ n h1 (by rw [← fr_shp he]; exact hf), fun q hq => ?_⟩
  · obtain ⟨r, hr, e⟩ := km he ho
    obtain ⟨e1, e2, e3⟩ := yg e
    have := h.dis q hq r hr (e1.trans hb)
    omega
  · rcases h.beh q hq with k | ⟨o, ho, k1, k2⟩
    · exact .inl k
    · obtain ⟨r, hr, e⟩ := km he.symm ho
      obtain ⟨e1, e2, e3⟩ := yg e
      exact .inr ⟨r, hr, e1.trans k1, by omega⟩
/-! ### What is laid free between objects -/
/-- Objects one behind the other. -/
def Inc (zs : List Ob) : Prop := zs.Pairwise fun a c => a.p + a.ws.length ≤ c.p
def lay (b0 size : Nat) (zs : List Ob) : List (Nat × Nat) := vr b0 zs ++ qy (vk b0 zs) size
theorem vc {a c : Nat} {q : Nat × Nat} (h : q ∈ qy a c) : q.1 = a ∧ q.1 + q.2 = c ∧ a < c := by
  unfold qy at h
  split at h
  · rename_i k
    rw [List.mem_singleton] at h
    subst h
    exact ⟨rfl, by show a + (c - a) = c; omega, k⟩
  · cases h
theorem lay_cons (b0 size : Nat) (o : Ob) (t : List Ob) : lay b0 size (o :: t) = qy b0 o.p ++ lay (o.p + o.ws.length) size t := by
  unfold lay
  simp only [vr, vk, List.append_assoc]
structure Ly (b0 size : Nat) (zs : List Ob) (g : List (Nat × Nat)) : Prop where
  inn : ∀ q ∈ g, b0 ≤ q.1 ∧ q.1 + q.2 ≤ size
  srt : g.Pairwise fun a c => a.1 + a.2 ≤ c.1
  dis : ∀ q ∈ g, ∀ o ∈ zs, o.p + o.ws.length ≤ q.1 ∨ q.1 + q.2 ≤ o.p
  cov : ∀ at_ n, 1 ≤ n → b0 ≤ at_ → at_ + n ≤ size → (∀ o ∈ zs, o.p + o.ws.length ≤ at_ ∨ at_ + n ≤ o.p) → ∃ q ∈ g, q.1 ≤ at_ ∧ at_ + n ≤ q.1 + q.2
  beh : ∀ q ∈ g, q.1 = b0 ∨ ∃ o ∈ zs, o.p + o.ws.length = q.1
  sum : jc g + zr zs + b0 = size
theorem qeh {a c : Nat} (h : a ≤ c) : jc (qy a c) = c - a := by
  unfold qy
  split
  · simp [jc]
  · simp [jc]; omega
theorem ly_all : ∀ (zs : List Ob) (b0 : Nat), Inc zs → (∀ o ∈ zs, b0 ≤ o.p) → (∀ o ∈ zs, o.p + o.ws.length ≤ size) → b0 ≤ size → Ly b0 size zs (lay b0 size zs)
  | [], b0, _, _, _, hb => by
    have e : lay b0 size [] = qy b0 size := by simp [lay, vr, vk]
    rw [e]
    refine ⟨fun q hq => ?_, ?_, (fun q _ o ho => by cases ho), fun at_ n h1 h2 h3 _ => ?_, fun q hq => .inl (vc hq).1, ?_⟩
    · obtain ⟨k1, k2, k3⟩ := vc hq; omega
    · unfold qy; split <;> simp
    · refine ⟨(b0, size - b0), ?_, h2, by show at_ + n ≤ b0 + (size - b0); omega⟩
      unfold qy
      rw [if_pos (by omega)]
      simp
    · rw [qeh hb]; simp [zr]; omega
  | o :: t, b0, hi, hlo, hhi, hb => by
    obtain ⟨i1, i2⟩ := List.pairwise_cons.1 hi
    have ho1 := hlo o (by simp)
    have ho2 := hhi o (by simp)
    have ih := ly_all t (o.p + o.ws.length) i2 (fun q hq => i1 q hq) (fun q hq => hhi q (by simp [hq])) ho2
    rw [lay_cons]
    refine ⟨fun q hq => ?_, ?_, fun q hq r hr => ?_, fun at_ n h1 h2 h3 h4 => ?_, fun q hq => ?_, ?_⟩
    · rcases List.mem_append.1 hq with hq | hq
      · obtain ⟨k1, k2, k3⟩ := vc hq; omega
      · have := ih.inn q hq; omega
    · rw [List.pairwise_append]
      refine ⟨by unfold qy; split <;> simp, ih.srt, fun q hq r hr => ?_⟩
      obtain ⟨k1, k2, k3⟩ := vc hq
      have := ih.inn r hr
      omega
    · rcases List.mem_append.1 hq with hq | hq
      · obtain ⟨k1, k2, k3⟩ := vc hq
        rcases List.mem_cons.1 hr with rfl | hr
        · exact .inr (by omega)
        · have := i1 r hr; exact .inr (by omega)
      · rcases List.mem_cons.1 hr with rfl | hr
        · have := ih.inn q hq; exact .inl this.1
        · exact ih.dis q hq r hr
    · rcases h4 o (by simp) with k | k
      · obtain ⟨q, hq, c1, c2⟩ := ih.cov at_ n h1 k h3 (fun r hr => h4 r (by simp [hr]))
        exact ⟨q, List.mem_append_right _ hq, c1, c2⟩
      · refine ⟨(b0, o.p - b0), List.mem_append_left _ ?_, h2, by show at_ + n ≤ b0 + (o.p - b0); omega⟩
        unfold qy
        rw [if_pos (by omega)]
        simp
    · rcases List.mem_append.1 hq with hq | hq
      · exact .inl (vc hq).1
      · rcases ih.beh q hq with k | ⟨r, hr, k⟩
        · exact .inr ⟨o, by simp, k.symm⟩
        · exact .inr ⟨r, by simp [hr], k⟩
    · have := ih.sum
      rw [vu, qeh ho1]
      simp only [zr]
      omega
/-- Two objects apart. -/
def Ap2 (a c : Ob) : Prop := a.p + a.ws.length ≤ c.p ∨ c.p + c.ws.length ≤ a.p
def Dj (os : List Ob) : Prop := os.Pairwise fun a c => big a = true → big c = true → Ap2 a c
theorem byP_inc {zs : List Ob} (hp : ByP zs) (hd : zs.Pairwise Ap2) (h1 : ∀ o ∈ zs, 1 ≤ o.ws.length) : Inc zs := by
  unfold Inc
  have h2 := List.Pairwise.and hp hd
  exact h2.imp_of_mem fun {a c} ha hc k => by
    have := h1 a ha
    have := h1 c hc
    rcases k.2 with q | q
    · exact q
    · have := k.1; omega
theorem dj_big {os : List Ob} (h : Dj os) : (os.filter (stP true)).Pairwise Ap2 := by
  have h2 := List.Pairwise.sublist (List.filter_sublist (p := stP true)) h
  exact h2.imp_of_mem fun {a c} ha hc k => k (by simpa [stP] using (List.mem_filter.1 ha).2) (by simpa [stP] using (List.mem_filter.1 hc).2)
theorem ap2_symm {a c : Ob} (h : Ap2 a c) : Ap2 c a := h.elim .inr .inl
theorem sumW_perm {a c : List Ob} (h : a.Perm c) : zr a = zr c := by
  induction h with
  | nil => rfl
  | cons x _ ih => simp only [zr, ih]
  | swap x y l => simp only [zr]; omega
  | trans _ _ h1 h2 => exact h1.trans h2
theorem qbi : ∀ os : List Ob, zr (os.filter (stP true)) = je os
  | [] => rfl
  | o :: t => by
    rw [List.filter_cons]
    simp only [je]
    by_cases k : big o = true
    · rw [if_pos (by simpa [stP] using k), if_pos k]
      simp only [zr, qbi t]
    · rw [if_neg (by simpa [stP] using k), if_neg k, qbi t]
/-- The large area behind a collection. -/
theorem Gp.laid {M zl : List Ob} (hz : zl.Perm (M.filter (stP true))) (hb : ByP zl) (hd : Dj M) (h1 : ∀ o ∈ M, 1 ≤ o.ws.length) (he : ∀ o ∈ M, big o = true → o.p + o.ws.length ≤ size) : Gp true size M (qr size zl) ∧ jc (qr size zl) + je M = size := by
  have hm : ∀ o, o ∈ zl ↔ o ∈ M ∧ big o = true := fun o => by
    rw [hz.mem_iff, List.mem_filter]
    simp [stP]
  have hinc := byP_inc hb ((hz.pairwise_iff ap2_symm).2 (dj_big hd)) (fun o ho => h1 o ((hm o).1 ho).1)
  have hly := ly_all (size := size) zl 0 hinc (fun _ _ => Nat.zero_le _) (fun o ho => he o ((hm o).1 ho).1 ((hm o).1 ho).2) (Nat.zero_le _)
  have e : lay 0 size zl = qr size zl := rfl
  rw [e] at hly
  refine ⟨⟨fun q hq => (hly.inn q hq).2, hly.srt, fun q hq o ho hb => hly.dis q hq o ((hm o).2 ⟨ho, hb⟩), fun at_ n hn hf => ?_, fun q hq => ?_⟩, ?_⟩
  · obtain ⟨f1, f2⟩ := xh.1 hf
    exact hly.cov at_ n hn (Nat.zero_le _) f1 (fun o ho => f2 o ((hm o).1 ho).1 ((hm o).1 ho).2)
  · rcases hly.beh q hq with k | ⟨o, ho, k⟩
    · exact .inl k
    · exact .inr ⟨o, ((hm o).1 ho).1, ((hm o).1 ho).2, k⟩
  · have h2 := hly.sum
    rw [sumW_perm hz, qbi] at h2
    omega
/-! ### The small area behind a collection -/
/-- Objects from a place on without a gap. -/
def Ch : Nat → List Ob → Prop
  | _, [] => True
  | q, o :: t => o.p = q ∧ Ch (q + o.ws.length) t
theorem ch_lay : ∀ (zs : List Ob) (q : Nat), Ch q zs → vr q zs = [] ∧ vk q zs = q + zr zs
  | [], q, _ => ⟨rfl, by simp [vk, zr]⟩
  | o :: t, q, h => by
    obtain ⟨h1, h2⟩ := h
    obtain ⟨k1, k2⟩ := ch_lay t _ h2
    subst h1
    simp only [vr, vk, zr, k1, k2]
    refine ⟨by simp [qy], by omega⟩
theorem ch_low : ∀ (zs : List Ob) (q : Nat), Ch q zs → ∀ o ∈ zs, q ≤ o.p
  | [], _, _, o, h => by cases h
  | a :: t, q, h, o, ho => by
    obtain ⟨h1, h2⟩ := h
    rcases List.mem_cons.1 ho with rfl | ho
    · omega
    · have := ch_low t _ h2 o ho; omega
theorem ch_inc : ∀ (zs : List Ob) (q : Nat), Ch q zs → Inc zs
  | [], _, _ => .nil
  | a :: t, q, h => by
    obtain ⟨h1, h2⟩ := h
    refine List.pairwise_cons.2 ⟨fun c hc => ?_, ch_inc t _ h2⟩
    have := ch_low t _ h2 c hc
    omega
theorem ch_mvD : ∀ (L : List Ob) (q : Nat), Ch q ((mvD q L).filter (stP false)) ∧ zr ((mvD q L).filter (stP false)) = zg L
  | [], _ => ⟨trivial, rfl⟩
  | o :: t, q => by
    simp only [mvD, zg]
    by_cases k : big o = true
    · rw [if_pos k, if_pos k, List.filter_cons, if_neg (by simp [stP, k])]
      exact ch_mvD t q
    · have k' : big o = false := by cases h : big o <;> simp_all
      rw [if_neg k, if_neg k, List.filter_cons, if_pos (by
        show (big { o with p := q } == false) = true
        rw [show big { o with p := q } = big o from rfl, k']; rfl)]
      obtain ⟨i1, i2⟩ := ch_mvD t (q + o.ws.length)
      exact ⟨⟨rfl, i1⟩, by simp only [zr, i2]⟩
theorem small_laid {L zs : List Ob} (hz : zs.Perm ((mvD 0 L).filter (stP false))) (hb : ByP zs) (h1 : ∀ o ∈ L, 1 ≤ o.ws.length) : qr size zs = qy (zg L) size := by
  obtain ⟨c1, c2⟩ := ch_mvD L 0
  have hinc := ch_inc _ _ c1
  have hlen : ∀ o ∈ (mvD 0 L).filter (stP false), 1 ≤ o.ws.length := fun o ho => by
    obtain ⟨q, hq, _, e⟩ := qbg 0 (List.mem_filter.1 ho).1
    rw [e]
    exact h1 q hq
  have e : zs = (mvD 0 L).filter (stP false) := by
    refine List.Perm.eq_of_pairwise (le := fun a c : Ob => a.p ≤ c.p) (fun a c ha hc k1 k2 => ?_) hb (hinc.imp fun {a c} k => by omega) hz
    have ha' := hz.mem_iff.1 ha
    obtain ⟨i, hi⟩ := List.mem_iff_getElem?.1 ha'
    obtain ⟨j, hj⟩ := List.mem_iff_getElem?.1 hc
    obtain ⟨q1, q2⟩ := List.getElem?_eq_some_iff.1 hi
    obtain ⟨q3, q4⟩ := List.getElem?_eq_some_iff.1 hj
    have hp := List.pairwise_iff_getElem.1 hinc
    have la := hlen a ha'
    have lc := hlen c hc
    rcases Nat.lt_trichotomy i j with h | h | h
    · have := hp i j q1 q3 h; rw [q2, q4] at this; omega
    · subst h; rw [hi] at hj; exact Option.some.inj hj
    · have := hp j i q3 q1 h; rw [q2, q4] at this; omega
  obtain ⟨l1, l2⟩ := ch_lay _ _ c1
  unfold qr
  rw [e, l1, l2, c2, Nat.zero_add]
  rfl
/-! ### What a heap keeps -/
structure HP (ss ls last : Nat) (os : List Ob) (gs gl : List (Nat × Nat)) : Prop where
  hx : Hx os last
  one : ∀ o ∈ os, 1 ≤ o.ws.length
  sS : zg os ≤ ss
  low : ∀ o ∈ os, big o = false → o.p + o.ws.length ≤ zg os
  gsm : (gs = [] ∧ zg os = ss) ∨ gs = [(zg os, ss - zg os)]
  gp : Gp true ls os gl
  dj : Dj os
  en : ∀ o ∈ os, big o = true → o.p + o.ws.length ≤ ls
  sL : jc gl + je os = ls
  gll : gl.length ≤ os.length + 1
  refs : Refs os
variable {ss ls last : Nat} {gs gl : List (Nat × Nat)}
theorem HP.start (ss ls : Nat) : HP ss ls 0 [] [(0, ss)] [(0, ls)] :=
  ⟨⟨.nil, (fun o h => by cases h), (fun o h => by cases h)⟩, (fun o h => by cases h), Nat.zero_le _, (fun o h => by cases h), .inr rfl, Gp.start _ _, .nil, (fun o h => by cases h), by simp [jc, je], by simp, (fun o h => by cases h)⟩
theorem HP.len (h : HP ss ls last os gs gl) : os.length ≤ ss + ls := by
  have h1 := qbe h.one
  have h2 := sum_SL os
  have := h.sS
  have := h.sL
  omega
theorem HP.sw (h : HP ss ls last os gs gl) : zr os ≤ ss + ls := by
  have h2 := sum_SL os
  have := h.sS
  have := h.sL
  omega
theorem HP.cl (h : HP ss ls last os gs gl) : ∀ o ∈ os, o.ws.length ≤ ss + ls := fun o ho => Nat.le_trans (qbf ho) h.sw
theorem HP.pp (h : HP ss ls last os gs gl) : ∀ o ∈ os, o.p ≤ ss + ls := fun o ho => by
  rcases Bool.eq_false_or_eq_true (big o) with k | k
  · have := h.en o ho k; omega
  · have := h.low o ho k; have := h.sS; omega
theorem HP.sumgs (h : HP ss ls last os gs gl) : jc gs = ss - zg os ∧ gs.length ≤ 1 := by
  rcases h.gsm with ⟨rfl, e⟩ | rfl
  · exact ⟨by simp [jc]; omega, by simp⟩
  · exact ⟨by simp [jc], by simp⟩
theorem fr_top (h : HP ss ls last os gs gl) {n : Nat} : frS false (zg os) n ss os = decide (zg os + n ≤ ss) := by
  rcases Bool.eq_false_or_eq_true (frS false (zg os) n ss os) with k | k
  · rw [k]; exact (decide_eq_true (xh.1 k).1).symm
  · rw [k]
    refine (decide_eq_false fun hle => ?_).symm
    have : frS false (zg os) n ss os = true := xh.2 ⟨hle, fun o ho hb => .inl (h.low o ho hb)⟩
    rw [k] at this
    cases this
theorem vx {w : World} {b o : Nat} {v : Value} (h : w.cell? ⟨b, o, none⟩ = some v) : b < w.heap.size := by
  apply Classical.byContradiction
  intro k
  simp [World.cell?, Array.getElem?_eq_none (Nat.le_of_not_lt k)] at h
section
variable {P : Program} {w0 w : World} {L : List Ck} {l : List (Nat × Value)} {dst : Option Tmp} {ty : TypeId} {pos : String} {after : Array Edge} {guard : Option (Nat × Bool)} {v : Value}
/-- A slice reads as these cells. -/
def Rv (w : World) (so : Option Addr) (cs : List Value) : Prop := cs ≠ [] → ∃ b off, so = some ⟨b, off, none⟩ ∧ ∀ p u, cs[p]? = some u → w.cell? ⟨b, off + p, none⟩ = some u
theorem Rv.below {w w' : World} {so : Option Addr} {cs : List Value} (h : Rv w so cs) (hb : Below w.heap.size w w') : Rv w' so cs := fun hne => by
  obtain ⟨b, off, e, h2⟩ := h hne
  exact ⟨b, off, e, fun p u hp => (hb.cell (vx (h2 p u hp))).trans (h2 p u hp)⟩
theorem vi {w : World} {B : Nat} {e : TypeId} {sz n cap : Nat} {so : Option Addr} {xs : List Value} (h : w.ownsRow B e sz (.slice so n cap) n xs) : Rv w so xs := fun hne => by
  rcases h.2 with ⟨e1, e2⟩ | ⟨g, cap', cur, e1, hg, hc, h1, h2, h3, h4⟩
  · subst e2; exact absurd (List.length_eq_zero_iff.1 (by rw [h.1]; simp)) hne
  · cases e1
    exact ⟨g, 0, rfl, fun p u hp => by rw [Nat.zero_add, World.ownsRow.cellAt h p (by have := (List.getElem?_eq_some_iff.1 hp).1; rw [h.1] at this; exact this)]; exact hp⟩
theorem xi {e t : TypeId} {sz by_ : Nat} {z : Value} {x y : Operand} (ht : P.underlying t = some (.slice e)) (hinfo : (P.info? e).map (fun i => (i.zero, i.size, i.bytes)) = some (some z, sz, by_)) (hzc : z.cells.size = sz) (hsz : Nat.ble 1 sz = true) (hby : Nat.ble 1 by_ = true) (hM : Mg w0 w L) (k : Nat) {q : Nat} {xs : List Value} (hk : L[k]? = some (.row e sz v q xs)) (hx : ev l x = some v) {so : Option Addr} {m c2 : Nat} {news : List Value} (hy : ev l y = some (.slice so m c2)) (hnl : news.length = m * sz) (hr : Rv w so news) (h1 : ∀ u ∈ news, u.oneCell' = true) (hlen : (q + m) * by_ ≤ 140737488355328) :
    ∃ v' w', Does P l ⟨dst, .call ⟨.builtin .append, #[x, y], #[t, t]⟩, ty, pos, after, guard⟩ w v' w' ∧ Mg w0 w' (L.set k (.row e sz v' (q + m) (xs ++ news))) := by
  obtain ⟨i, hi, hzz⟩ := Option.map_eq_some_iff.1 hinfo
  simp only [Prod.mk.injEq] at hzz
  obtain ⟨hz, hs, hb⟩ := hzz
  have hrow := hM.has k hk
  by_cases hm : m = 0
  · subst hm
    have h0 : news = [] := List.length_eq_zero_iff.1 (by rw [hnl]; simp)
    subst h0
    obtain ⟨so1, cap, hle, rfl⟩ : ∃ so1 cap, q ≤ cap ∧ v = .slice so1 q cap := by
      rcases hrow.2 with ⟨rfl, rfl⟩ | ⟨g, cap, cur, rfl, _, _, h, _⟩
      · exact ⟨none, 0, Nat.le_refl _, rfl⟩
      · exact ⟨_, cap, h, rfl⟩
    have h2 : (sizeOf e).run P w = .ok sz w := by simp [sizeOf, typeInfo, hi, hs]
    refine ⟨.slice so1 q cap, w, ?_, ?_⟩
    · intro ρ h
      cases so <;> cases so1 <;> simp [execOp, resolve, invoke, builtin, h x _ hx, h y _ hy, Builtin.append_, run_underlying ht, h2, Builtin.lenOf, Builtin.firstCells, loadCells, loadCellsFrom, storeCells, hle]
    · rw [show L.set k (.row e sz (.slice so1 q cap) (q + 0) (xs ++ [])) = L from by rw [List.append_nil]; exact qif hk]
      exact hM
  · have hne : news ≠ [] := fun e0 => by
      rw [e0] at hnl
      have h5 := Nat.le_of_ble_eq_true hsz
      have : 0 < m * sz := Nat.mul_pos (by omega) h5
      simp at hnl; omega
    obtain ⟨b, off, rfl, hcell⟩ := hr hne
    have hq : q + m ≤ (q + m) * by_ := Nat.le_mul_of_pos_right _ (Nat.le_of_ble_eq_true hby)
    obtain ⟨g, cap, w', hr, hown, hgr, hat, hlt⟩ := run_append_lies (P := P) w t ty w0.heap.size e i z sz by_ ht hi hz hs hb hzc (Nat.le_of_ble_eq_true hsz) v q xs hrow ⟨b, off, none⟩ m c2 news hnl (fun p u hp => by
        rw [xq]
        exact hcell p u hp) h1 (by omega) (by unfold maxLen; omega) hlen hM.bel.size w.heap.size rfl
    refine ⟨.slice (some ⟨g, 0, none⟩) (q + m) cap, w', fun ρ h => ?_, hM.turn k hk (by simp) hgr hown (fun d hd ha => ?_)⟩
    · simp [execOp, resolve, invoke, builtin, h x _ hx, h y _ hy, hr]
    · have hl := Ck.lt (hM.all d hd)
      have key : ∀ z, d.at_ = some z → v.ownBlock ≠ some z → g ≠ z := fun z hz hne e => by
        subst e
        rcases hat with h | h
        · exact hne h
        · have := (hl g hz).2; omega
      cases d with
      | obj g' o' => exact fun e => key g' rfl ha (by simpa [Value.ownBlock] using e)
      | row e' sz' v' n' xs' =>
        right
        intro e
        have e2 : v'.ownBlock = some g := e.symm
        rcases ha with ha | ha
        · exact key g e2 (by rw [ha]; simp) rfl
        · exact key g e2 (fun h => ha (h.trans e2.symm)) rfl
      | bld b' bs' => exact ⟨ha.1, fun e => key b' rfl ha.2 (by simpa [Value.ownBlock] using e)⟩

theorem jf (hM : Mg w0 w L) {b o : Nat} (hc : w0.cell? ⟨b, o, none⟩ = some v) {t : TypeId} (ht : Is1 P t) {x : Operand} (hx : ev l x = some (.pointer (some ⟨b, o, none⟩))) : Does P l ⟨dst, .load t x, ty, pos, after, guard⟩ w v w :=
  ju hx (kc ht ((hM.bel.cell (vx hc)).trans hc))
theorem qkd (hM : Mg w0 w L) {b o : Nat} {u v : Value} (h0 : w0.cell? ⟨b, o, none⟩ = some u) (h1 : w0.cell? ⟨b, o + 1, none⟩ = some v) {t : TypeId} (ht : IsS P t 2) {x : Operand} (hx : ev l x = some (.pointer (some ⟨b, o, none⟩))) : Does P l ⟨dst, .load t x, ty, pos, after, guard⟩ w (.agg #[u, v]) w := m_loadR2 hM (vx h0) h0 h1 ht hx
theorem qbj (hM : Mg w0 w L) {b o : Nat} {u v z : Value} (h0 : w0.cell? ⟨b, o, none⟩ = some u) (h1 : w0.cell? ⟨b, o + 1, none⟩ = some v) (h2 : w0.cell? ⟨b, o + 2, none⟩ = some z) {t : TypeId} (ht : IsS P t 3) {x : Operand} (hx : ev l x = some (.pointer (some ⟨b, o, none⟩))) : Does P l ⟨dst, .load t x, ty, pos, after, guard⟩ w (.agg #[u, v, z]) w :=
  ju hx (xm ht [u, v, z] rfl (fun j y hj => by
    have hlt := vx h0
    match j, hj with
    | 0, hj => cases hj; exact (hM.bel.cell hlt).trans h0
    | 1, hj => cases hj; exact (hM.bel.cell hlt).trans h1
    | 2, hj => cases hj; exact (hM.bel.cell hlt).trans h2
    | j + 3, hj => simp at hj))
end
/-- The document's objects as cells: handle, place, words. -/
def obD : List Ob → List Value
  | [] => []
  | o :: t => .int .i64 ((o.x : Nat) : Int) :: .int .i64 ((o.p : Nat) : Int) :: o.sl :: obD t
theorem kn : ∀ ds : List Ob, (obD ds).length = ds.length * 3
  | [] => rfl
  | o :: t => by simp only [obD, List.length_cons, kn t]; omega
theorem obD_app (a b : List Ob) : obD (a ++ b) = obD a ++ obD b := by
  induction a with
  | nil => rfl
  | cons g t ih => simp only [List.cons_append, obD, ih]
theorem yu : ∀ (ds : List Ob), ∀ v ∈ obD ds, v.oneCell' = true
  | [], v, h => by cases h
  | o :: t, v, h => by
    simp only [obD, List.mem_cons] at h
    rcases h with rfl | rfl | rfl | h
    · rfl
    · rfl
    · rfl
    · exact yu t v h
theorem qca : ∀ {ds : List Ob} {i : Nat} {d : Ob}, ds[i]? = some d → (obD ds)[i * 3]? = some (.int .i64 ((d.x : Nat) : Int)) ∧ (obD ds)[i * 3 + 1]? = some (.int .i64 ((d.p : Nat) : Int)) ∧ (obD ds)[i * 3 + 2]? = some d.sl
  | [], _, _, h => by simp at h
  | a :: t, 0, d, h => by simp at h; subst h; exact ⟨rfl, rfl, rfl⟩
  | a :: t, i + 1, d, h => by
    have := qca (ds := t) (i := i) (d := d) (by simpa using h)
    rw [show (i + 1) * 3 = i * 3 + 1 + 1 + 1 from by omega]
    exact this
theorem ko : ∀ (ws : List (Int × Bool)), ∀ v ∈ za ws, v.oneCell' = true
  | [], v, h => by cases h
  | (z, b) :: t, v, h => by
    simp only [za, List.mem_cons] at h
    rcases h with rfl | rfl | h
    · rfl
    · rfl
    · exact ko t v h
theorem qei : ∀ {ws : List (Int × Bool)} {i : Nat} {z : Int} {b : Bool}, ws[i]? = some (z, b) → (za ws)[i * 2]? = some (.int .i64 z) ∧ (za ws)[i * 2 + 1]? = some (.bool b)
  | [], _, _, _, h => by simp at h
  | (a, c) :: t, 0, z, b, h => by simp at h; obtain ⟨rfl, rfl⟩ := h; exact ⟨rfl, rfl⟩
  | (a, c) :: t, i + 1, z, b, h => by
    have := qei (ws := t) (i := i) (z := z) (b := b) (by simpa using h)
    rw [show (i + 1) * 2 = i * 2 + 1 + 1 from by omega]
    exact this
structure RO (w : World) (so : Option Addr) (ds : List Ob) : Prop where
  row : Rv w so (obD ds)
  wrd : ∀ d ∈ ds, Rv w (some ⟨d.g, 0, none⟩) (za d.ws)
theorem RO.below {w w' : World} {so : Option Addr} {ds : List Ob} (h : RO w so ds) (hb : Below w.heap.size w w') : RO w' so ds := ⟨h.row.below hb, fun d hd => (h.wrd d hd).below hb⟩
theorem RO.at_ {w : World} {so : Option Addr} {ds : List Ob} (h : RO w so ds) {i : Nat} (hi : i < ds.length) : ∃ b off d, so = some ⟨b, off, none⟩ ∧ ds[i]? = some d ∧ w.cell? ⟨b, off + i * 3, none⟩ = some (.int .i64 ((d.x : Nat) : Int)) ∧ w.cell? ⟨b, off + i * 3 + 1, none⟩ = some (.int .i64 ((d.p : Nat) : Int)) ∧ w.cell? ⟨b, off + i * 3 + 2, none⟩ = some d.sl := by
  have hd : ds[i]? = some ds[i] := List.getElem?_eq_getElem hi
  obtain ⟨b, off, e, h2⟩ := h.row (fun k => by have := congrArg List.length k; rw [kn] at this; simp only [List.length_nil] at this; omega)
  obtain ⟨k1, k2, k3⟩ := qca hd
  refine ⟨b, off, ds[i], e, hd, h2 _ _ k1, ?_, ?_⟩
  · rw [Nat.add_assoc]; exact h2 _ _ k2
  · rw [Nat.add_assoc]; exact h2 _ _ k3
theorem RO.word {w : World} {so : Option Addr} {ds : List Ob} (h : RO w so ds) {d : Ob} (hd : d ∈ ds) {k : Nat} (hk : k < d.ws.length) : ∃ z c, d.ws[k]? = some (z, c) ∧ w.cell? ⟨d.g, k * 2, none⟩ = some (.int .i64 z) ∧ w.cell? ⟨d.g, k * 2 + 1, none⟩ = some (.bool c) := by
  have hw : d.ws[k]? = some (d.ws[k].1, d.ws[k].2) := List.getElem?_eq_getElem hk
  obtain ⟨b, off, e, h2⟩ := h.wrd d hd (fun q => by have := congrArg List.length q; rw [xy] at this; simp only [List.length_nil] at this; omega)
  cases e
  obtain ⟨k1, k2⟩ := qei hw
  have a1 := h2 _ _ k1
  have a2 := h2 _ _ k2
  rw [Nat.zero_add] at a1 a2
  exact ⟨_, _, hw, a1, a2⟩
/-- Where a handle stands in a list. -/
def ixO (x : Int) (ds : List Ob) : Int := match ds.findIdx? (fun d => decide (((d.x : Nat) : Int) = x)) with | some i => ((i : Nat) : Int) | none => -1
theorem ixO_hit {x : Int} {ds : List Ob} {i : Nat} {d : Ob} (hb : ∀ (j : Nat) u, j < i → ds[j]? = some u → ((u.x : Nat) : Int) ≠ x) (h : ds[i]? = some d) (hx : ((d.x : Nat) : Int) = x) : ixO x ds = ((i : Nat) : Int) := by
  obtain ⟨h1, h2⟩ := List.getElem?_eq_some_iff.1 h
  have : ds.findIdx? (fun d => decide (((d.x : Nat) : Int) = x)) = some i := List.findIdx?_eq_some_iff_getElem.2 ⟨h1, by rw [h2]; exact decide_eq_true hx, fun j hj => by rw [decide_eq_false (hb j _ hj (List.getElem?_eq_getElem (by omega)))]; decide⟩
  unfold ixO
  rw [this]
theorem ixO_miss {x : Int} {ds : List Ob} (hb : ∀ (j : Nat) u, j < ds.length → ds[j]? = some u → ((u.x : Nat) : Int) ≠ x) : ixO x ds = -1 := by
  have : ds.findIdx? (fun d => decide (((d.x : Nat) : Int) = x)) = none := by
    rw [List.findIdx?_eq_none_iff]
    intro d hd
    obtain ⟨i, hi, rfl⟩ := List.getElem_of_mem hd
    exact decide_eq_false (hb i _ hi (List.getElem?_eq_getElem hi))
  unfold ixO
  rw [this]
theorem qcb (x : Int) (ds : List Ob) : (∃ i d, ixO x ds = ((i : Nat) : Int) ∧ ds[i]? = some d ∧ ((d.x : Nat) : Int) = x ∧ fO x ds = some d) ∨ (ixO x ds = -1 ∧ fO x ds = none) := by
  unfold ixO
  cases h : ds.findIdx? (fun d => decide (((d.x : Nat) : Int) = x)) with
  | none =>
    right
    rw [List.findIdx?_eq_none_iff] at h
    exact ⟨rfl, qgi fun o ho => of_decide_eq_false (h o ho)⟩
  | some i =>
    left
    obtain ⟨h1, h2, h3⟩ := List.findIdx?_eq_some_iff_getElem.1 h
    have hx := of_decide_eq_true h2
    refine ⟨i, ds[i], rfl, List.getElem?_eq_getElem h1, hx, ?_⟩
    have key : ∀ (l : List Ob) (i : Nat) (d : Ob), l[i]? = some d → ((d.x : Nat) : Int) = x → (∀ (j : Nat) u, j < i → l[j]? = some u → ((u.x : Nat) : Int) ≠ x) → fO x l = some d := by
      intro l
      induction l with
      | nil => intro i d h; simp at h
      | cons a t ih =>
        intro i d hd hx hb
        simp only [fO]
        cases i with
        | zero => simp at hd; subst hd; rw [if_pos hx]
        | succ i =>
          rw [if_neg (hb 0 a (by omega) rfl)]
          exact ih i d (by simpa using hd) hx (fun j u hj hu => hb (j + 1) u (by omega) (by simpa using hu))
    refine key ds i _ (List.getElem?_eq_getElem h1) hx (fun j u hj hu => ?_)
    have := h3 j hj
    obtain ⟨k1, k2⟩ := List.getElem?_eq_some_iff.1 hu
    rw [k2] at this
    simpa using this
theorem qab (x : Int) (ds : List Ob) : -1 ≤ ixO x ds ∧ ixO x ds < ds.length := by
  rcases qcb x ds with ⟨i, d, e, h, _⟩ | ⟨e, _⟩
  · have := (List.getElem?_eq_some_iff.1 h).1; omega
  · omega
/-! ### Free, top, place -/
theorem fr_no1 {b : Bool} {at_ n size : Nat} {ds : List Ob} (h : ¬ at_ + n ≤ size) : frS b at_ n size ds = false := by
  unfold frS; rw [decide_eq_false h, Bool.false_and]
theorem fr_no2 {b : Bool} {at_ n size i : Nat} {ds : List Ob} {d : Ob} (hd : ds[i]? = some d) (h1 : big d = b) (h2 : d.p < at_ + n) (h3 : at_ < d.p + d.ws.length) : frS b at_ n size ds = false := by
  rcases Bool.eq_false_or_eq_true (frS b at_ n size ds) with k | k
  · have := (xh.1 k).2 d (List.mem_of_getElem? hd) h1; omega
  · exact k
theorem fr_yes {b : Bool} {at_ n size i : Nat} {ds : List Ob} (h : at_ + n ≤ size) (hi : ds.length ≤ i) (hin : ∀ (j : Nat) d, j < i → ds[j]? = some d → big d = b → d.p + d.ws.length ≤ at_ ∨ at_ + n ≤ d.p) : frS b at_ n size ds = true := xh.2 ⟨h, fun d hd hb => by
  obtain ⟨j, hj⟩ := List.mem_iff_getElem?.1 hd
  exact hin j d (by have := (List.getElem?_eq_some_iff.1 hj).1; omega) hj hb⟩
theorem kp {ds : List Ob} {i : Nat} {d : Ob} (h : ds[i]? = some d) : zg (ds.take (i + 1)) = zg (ds.take i) + (if big d = true then 0 else d.ws.length) := by
  rw [List.take_add_one, h, vw]
  simp only [Option.toList_some, zg]
  split <;> omega
theorem qej {ds : List Ob} {i : Nat} {d : Ob} (h : ds[i]? = some d) : je (ds.take (i + 1)) = je (ds.take i) + (if big d = true then d.ws.length else 0) := by
  rw [List.take_add_one, h, va]
  simp only [Option.toList_some, je]
  split <;> omega
theorem qfa (ds : List Ob) (i : Nat) : zg (ds.take i) ≤ zg ds := qbd (List.take_sublist _ _)
theorem sumL_part (ds : List Ob) (i : Nat) : je (ds.take i) ≤ je ds := by
  have := va (ds.take i) (ds.drop i)
  rw [List.take_append_drop] at this
  omega
/-- A place right behind a large object at which so many words are free. -/
def uc (n size : Nat) (ds : List Ob) (d : Ob) : Bool := big d && frS true (d.p + d.ws.length) n size ds
def Bst (n size : Nat) (ds : List Ob) (k : Nat) (bz : Int) : Prop := (bz = -1 ∧ ∀ (j : Nat) d, j < k → ds[j]? = some d → uc n size ds d = false) ∨ ∃ m : Nat, bz = ((m : Nat) : Int) ∧ (∃ (j : Nat) (d : Ob), j < k ∧ ds[j]? = some d ∧ uc n size ds d = true ∧ m = d.p + d.ws.length) ∧ ∀ (j : Nat) d, j < k → ds[j]? = some d → uc n size ds d = true → m ≤ d.p + d.ws.length
variable {n size k : Nat} {ds : List Ob} {bz : Int} {d : Ob}
theorem Bst.zero : Bst n size ds 0 (-1) := .inl ⟨rfl, fun j d h => absurd h (Nat.not_lt_zero _)⟩
theorem Bst.rng (h : Bst n size ds k bz) : -1 ≤ bz := by rcases h with ⟨e, _⟩ | ⟨m, e, _⟩ <;> omega
theorem Bst.skip (h : Bst n size ds k bz) (hd : ds[k]? = some d) (hc : uc n size ds d = false) : Bst n size ds (k + 1) bz := by
  have key : ∀ j u, j < k + 1 → ds[j]? = some u → j < k ∨ u = d := fun j u hj hu => by
    by_cases e : j = k
    · subst e; rw [hd] at hu; exact .inr (Option.some.inj hu).symm
    · exact .inl (by omega)
  rcases h with ⟨e, h2⟩ | ⟨m, e, ⟨j, u, h2, h3, h4, h5⟩, h6⟩
  · refine .inl ⟨e, fun j u hj hu => ?_⟩
    rcases key j u hj hu with q | rfl
    · exact h2 j u q hu
    · exact hc
  · refine .inr ⟨m, e, ⟨j, u, by omega, h3, h4, h5⟩, fun i q hi hq hcq => ?_⟩
    rcases key i q hi hq with r | rfl
    · exact h6 i q r hq hcq
    · rw [hc] at hcq; cases hcq
theorem Bst.worse (h : Bst n size ds k bz) (hd : ds[k]? = some d) (h0 : 0 ≤ bz) (hle : bz ≤ ((d.p + d.ws.length : Nat) : Int)) : Bst n size ds (k + 1) bz := by
  rcases h with ⟨e, h2⟩ | ⟨m, e, ⟨j, u, h2, h3, h4, h5⟩, h6⟩
  · omega
  · refine .inr ⟨m, e, ⟨j, u, by omega, h3, h4, h5⟩, fun i q hi hq hcq => ?_⟩
    by_cases r : i = k
    · subst r; rw [hd] at hq; cases hq; omega
    · exact h6 i q (by omega) hq hcq
theorem Bst.take_ (h : Bst n size ds k bz) (hd : ds[k]? = some d) (hc : uc n size ds d = true) (hlt : bz < 0 ∨ ((d.p + d.ws.length : Nat) : Int) < bz) : Bst n size ds (k + 1) ((d.p + d.ws.length : Nat) : Int) := by
  refine .inr ⟨_, rfl, ⟨k, d, by omega, hd, hc, rfl⟩, fun i q hi hq hcq => ?_⟩
  by_cases r : i = k
  · subst r; rw [hd] at hq; cases hq; exact Nat.le_refl _
  · rcases h with ⟨e, h2⟩ | ⟨m, e, _, h6⟩
    · have := h2 i q (by omega) hq; rw [this] at hcq; cases hcq
    · have := h6 i q (by omega) hq hcq; omega
/-- What the document finds is the first gap that is wide enough. -/
theorem spot_hit {g : List (Nat × Nat)} (h : Gp true size ds g) {i p s : Nat} (h1 : 1 ≤ n) (hi : jp n g = some i) (hat : g[i]? = some (p, s)) (hns : n ≤ s) : (frS true 0 n size ds = true → p = 0) ∧ (frS true 0 n size ds = false → ∀ bz, Bst n size ds ds.length bz → bz = ((p : Nat) : Int)) := by
  obtain ⟨f1, f2, f3⟩ := h.hit h1 hi hat hns
  refine ⟨fun k => by have := f2 0 k; omega, fun k bz hb => ?_⟩
  rcases f3 with rfl | ⟨o, ho, ho1, ho2⟩
  · rw [k] at f1; cases f1
  · obtain ⟨j, hj⟩ := List.mem_iff_getElem?.1 ho
    have hlt := (List.getElem?_eq_some_iff.1 hj).1
    have hc : uc n size ds o = true := by unfold uc; rw [ho1, ho2, f1]; rfl
    rcases hb with ⟨_, h2⟩ | ⟨m, rfl, ⟨j2, d2, _, h3, h4, h5⟩, h6⟩
    · have := h2 j o hlt hj; rw [hc] at this; cases this
    · have a1 := h6 j o hlt hj hc
      have a2 : p ≤ m := f2 m (by rw [h5]; unfold uc at h4; rw [Bool.and_eq_true] at h4; exact h4.2)
      congr 1
      omega
theorem spot_miss {g : List (Nat × Nat)} (h : Gp true size ds g) (h1 : 1 ≤ n) (hi : jp n g = none) : frS true 0 n size ds = false ∧ ∀ bz, Bst n size ds ds.length bz → bz = -1 := by
  refine ⟨h.miss h1 hi 0, fun bz hb => ?_⟩
  rcases hb with ⟨e, _⟩ | ⟨m, rfl, ⟨j2, d2, _, h3, h4, h5⟩, h6⟩
  · exact e
  · unfold uc at h4
    rw [Bool.and_eq_true, h.miss h1 hi] at h4
    cases h4.2
set_option maxRecDepth 100000
theorem HdA_is1_28 : Is1 Try.prog 28 := ⟨⟨_, Try.underlying28, rfl⟩, by kernel_rfl⟩
theorem HdA_is1_3 : Is1 Try.prog 3 := ⟨⟨_, Try.underlying3, rfl⟩, by kernel_rfl⟩
theorem HdA_is1_68 : Is1 Try.prog 68 := ⟨⟨_, Try.underlying68, rfl⟩, by kernel_rfl⟩
theorem HdA_fld_30_0 : FieldAt Try.prog 30 0 0 := ⟨_, _, Try.underlying30, rfl, rfl, by kernel_rfl⟩
theorem HdA_fld_30_1 : FieldAt Try.prog 30 1 1 := ⟨_, _, Try.underlying30, rfl, rfl, by kernel_rfl⟩
theorem HdA_fld_30_3 : FieldAt Try.prog 30 3 3 := ⟨_, _, Try.underlying30, rfl, rfl, by kernel_rfl⟩
theorem HdA_fld_73_0 : FieldAt Try.prog 73 0 0 := ⟨_, _, Try.underlying73, rfl, rfl, by kernel_rfl⟩
theorem HdA_fld_73_1 : FieldAt Try.prog 73 1 1 := ⟨_, _, Try.underlying73, rfl, rfl, by kernel_rfl⟩
theorem HdA_fld_73_2 : FieldAt Try.prog 73 2 2 := ⟨_, _, Try.underlying73, rfl, rfl, by kernel_rfl⟩
theorem HdA_isS_30 : IsS Try.prog 30 4 := ⟨⟨_, Try.underlying30⟩, by kernel_rfl⟩
theorem HdA_isS_73 : IsS Try.prog 73 3 := ⟨⟨_, Try.underlying73⟩, by kernel_rfl⟩
structure Ri (w : World) (so : Option Addr) (l : List Int) : Prop where
 row : Rv w so (qg l)
theorem Ri.below {w w' : World} {so : Option Addr} {l : List Int} (h : Ri w so l) (hb : Below w.heap.size w w') : Ri w' so l := ⟨h.row.below hb⟩
theorem Ri.at_ {w : World} {so : Option Addr} {l : List Int} (h : Ri w so l) {i : Nat} (hi : i < l.length) : ∃ b off z, so = some ⟨b, off, none⟩ ∧ w.cell? ⟨b, off + i, none⟩ = some (.int .i64 z) ∧ l[i]? = some z := by
 have hd : l[i]? = some l[i] := List.getElem?_eq_getElem hi
 obtain ⟨b, off, e, h2⟩ := h.row (fun k => by have := congrArg List.length k; simp [qg] at this; rw [this] at hi; exact absurd hi (Nat.not_lt_zero _))
 exact ⟨b, off, l[i], e, h2 _ _ (kj hd), hd⟩
theorem qcc {w : World} {n : Int} : Calls Try.prog 38 #[.int .i64 n] w fun e w' => e = .returned (.bool (decide (16 < n))) ∧ Below w.heap.size w w' := by
 have M : Mg w w ([]) := Mg.start w
 refine qp (l := [(0, .int .i64 n)]) Try.func38 rfl Try.ntmps38 rfl rfl ?_
 intro Q hret hnorm hP a A
 refine wsk fun K1 hK1 => wrl (sda A λa A↦?_)
 refine qb (hK1 _ _ (wsk fun K2 hK2 => wrl (sdm A λa A↦?_)))
 refine sdo (v := .bool (decide (16 < n))) A (qe rfl rfl jv) λa A↦?_
 refine sda A λa A↦?_
 refine qb (hK2 _ _ (wp_ret (hret _ _ (en1 A rfl (qi rfl) ?_))))
 exact ⟨rfl, M.bel⟩
theorem jg {w : World} {n : Int} {b : Bool} (h : decide (16 < n) = b) : Calls Try.prog 38 #[.int .i64 n] w fun e w' => e = .returned (.bool b) ∧ Below w.heap.size w w' := h ▸ qcc
theorem ja {w : World} {ss ls last ca : Nat} {so : Option Addr} {ds : List Ob} (hO : RO w so ds) (hol : ds.length ≤ 1000000) (hq : ∀ d ∈ ds, d.p + d.ws.length ≤ 1000000) {x : Int} : Calls Try.prog 30 #[.agg #[.int .i64 ((ss : Nat) : Int), .int .i64 ((ls : Nat) : Int), .int .i64 ((last : Nat) : Int), .slice so ds.length ca], .int .i64 x] w fun e w' => e = .returned (.int .i64 (ixO x ds)) ∧ Below w.heap.size w w' := by
 have M : Mg w w ([]) := Mg.start w
 refine qp (l := [(0, .agg #[.int .i64 (((ss : Nat) : Int)), .int .i64 (((ls : Nat) : Int)), .int .i64 (((last : Nat) : Int)), .slice so ds.length ca]), (1, .int .i64 x)]) Try.func30 rfl Try.ntmps30 rfl rfl ?_
 intro Q hret hnorm hP a A
 refine wsk fun K1 hK1 => wrl (qt (vs := [.int .i64 (((ss : Nat) : Int)), .int .i64 (((ls : Nat) : Int)), .int .i64 (((last : Nat) : Int)), .slice so ds.length ca]) (t := 30) A M rfl rfl rfl pg (qw rfl rfl) (by decide) ?_)
 intro g2 w3 M a A
 refine sda A λa A↦?_
 refine qb (hK1 _ _ (wsk fun K4 hK4 => wsk fun K5 hK5 => wrl (sda A λa A↦?_)))
 refine qb (hK5 _ _ (wp_block (zh (fun m_ a w1 => ∃ (i : Nat), m_ = 1 + (ds.length - i) ∧ (i ≤ ds.length ∧ ∀ (j : Nat) u, j < i → ds[j]? = some u → ((u.x : Nat) : Int) ≠ x) ∧ Sl a 22 [(0, .agg #[.int .i64 (((ss : Nat) : Int)), .int .i64 (((ls : Nat) : Int)), .int .i64 (((last : Nat) : Int)), .slice so ds.length ca]), (1, .int .i64 x), (2, .pointer (some ⟨g2, 0, none⟩)), (5, .int .i64 (((i : Nat) : Int)))] ∧ Mg w w1 (.obj g2 (.cells #[.int .i64 (((ss : Nat) : Int)), .int .i64 (((ls : Nat) : Int)), .int .i64 (((last : Nat) : Int)), .slice so ds.length ca] 30) :: [])) _ ⟨0, rfl, ⟨Nat.zero_le _, fun j u h => absurd h (Nat.not_lt_zero _)⟩, A.keep _ ⟨rfl, rfl, rfl, rfl, trivial⟩, M⟩ ?_)))
 clear M A
 rintro m_ a w6 ⟨i, rfl, hinv8, A, M⟩ K7 hK7
 obtain ⟨hi0, hin9⟩ := hinv8
 refine wsk fun K9 hK9 => wsk fun K10 hK10 => wrl (sdm A λa A↦?_)
 refine sdo (v := .pointer (some ⟨g2, 3, none⟩)) A (qd HdA_fld_30_3 rfl rfl) λa A↦?_
 refine sdo A (qh M HdA_is1_28 rfl 0 rfl rfl) λa A↦?_
 refine sdo A (qv Try.underlying28 rfl) λa A↦?_
 rcases tf (decide (((i : Nat) : Int) < ((ds.length : Nat) : Int))) with hb11 | hb11
 ·
  have hb11' := of_decide_eq_true hb11
  refine sdc A qm hb11 λa A↦?_
  refine qb (hK10 _ _ (wp_cond_true (A.ev rfl) ?_))
  refine wp_skip (hK9 _ _ (wsk fun K12 hK12 => wp_block (wsk fun K13 hK13 => wrl (sdo (v := .pointer (some ⟨g2, 3, none⟩)) A (qd HdA_fld_30_3 rfl rfl) λa A↦?_))))
  refine sdo A (qh M HdA_is1_28 rfl 0 rfl rfl) λa A↦?_
  refine sdm A λa A↦?_
  obtain ⟨bd14, od15, d16, hs17, hd18, hc19, hc20, hc21⟩ := hO.at_ (i := i) (by omega)
  have hm22 := List.mem_of_getElem? hd18
  have hq23 := hq d16 hm22
  refine sdo (v := .pointer (some ⟨bd14, od15 + i * 3, none⟩)) A (zt (k := i) Try.underlying28 (by kernel_rfl) rfl rfl (by first | rfl | omega) hs17 (by omega)) λa A↦?_
  refine sdo (v := .pointer (some ⟨bd14, od15 + i * 3, none⟩)) A (qd HdA_fld_73_0 rfl rfl) λa A↦?_
  refine sdo A (jf M hc19 HdA_is1_3 rfl) λa A↦?_
  refine sdm A λa A↦?_
  rcases tf ((((d16.x : Nat) : Int) == x)) with hb24 | hb24
  ·
   have hb24' := eq_of_beq hb24
   refine sdc A jl hb24 λa A↦?_
   refine qb (hK13 _ _ (wp_cond_true (A.ev rfl) ?_))
   refine wsk fun K25 hK25 => wrl (sdm A λa A↦?_)
   refine sda A λa A↦?_
   refine qb (hK25 _ _ (wp_ret (hret _ _ (en1 A rfl (qi rfl) ?_))))
   exact ⟨by rw [ixO_hit hin9 hd18 hb24'], M.bel⟩
  ·
   have hb24' := ne_of_beq_false hb24
   refine sdc A jl hb24 λa A↦?_
   refine qb (hK13 _ _ (wp_cond_false (A.ev rfl) ?_))
   refine wp_skip (hK12 _ _ (wrl (sdm A λa A↦?_)))
   refine sdo (v := .int .i64 (((i + 1 : Nat) : Int))) A (qe rfl rfl (ar_add ((in_i64 (by omega) (by omega)).trans (by omega)))) λa A↦?_
   refine sda A λa A↦?_
   refine qb ?_
   refine hK7 _ _ _ (by omega) ⟨i + 1, rfl, ⟨by omega, fun j u hj hu => if h9 : j < i then hin9 j u h9 hu else by have h8 : j = i := (by omega); subst h8; rw [hd18] at hu; rw [← Option.some.inj hu]; exact hb24'⟩, A.keep _ ⟨rfl, rfl, rfl, rfl, trivial⟩, M⟩
 ·
  have hb11' := of_decide_eq_false hb11
  refine sdc A qm hb11 λa A↦?_
  refine qb (hK10 _ _ (wp_cond_false (A.ev rfl) ?_))
  refine wp_exit (hK4 _ _ (wsk fun K26 hK26 => wrl (sda A λa A↦?_)))
  refine qb (hK26 _ _ (wp_ret (hret _ _ (en1 A rfl (qi rfl) ?_))))
  exact ⟨by rw [ixO_miss (fun j u hj => hin9 j u (by omega))], M.bel⟩
theorem rfree_any {w : World} {ss ls last ca : Nat} {so : Option Addr} {ds : List Ob} (hO : RO w so ds) (hol : ds.length ≤ 1000000) (hq : ∀ d ∈ ds, d.p + d.ws.length ≤ 1000000) {ar : Bool} {at_ n size : Nat} (hat : at_ ≤ 1000000) (hn : n ≤ 1000000) (hsz : size ≤ 1000000) : Calls Try.prog 44 #[.agg #[.int .i64 ((ss : Nat) : Int), .int .i64 ((ls : Nat) : Int), .int .i64 ((last : Nat) : Int), .slice so ds.length ca], .bool ar, .int .i64 ((at_ : Nat) : Int), .int .i64 ((n : Nat) : Int), .int .i64 ((size : Nat) : Int)] w fun e w' => e = .returned (.bool (frS ar at_ n size ds)) ∧ Below w.heap.size w w' := by
 have M : Mg w w ([]) := Mg.start w
 refine qp (l := [(0, .agg #[.int .i64 (((ss : Nat) : Int)), .int .i64 (((ls : Nat) : Int)), .int .i64 (((last : Nat) : Int)), .slice so ds.length ca]), (1, .bool ar), (2, .int .i64 (((at_ : Nat) : Int))), (3, .int .i64 (((n : Nat) : Int))), (4, .int .i64 (((size : Nat) : Int)))]) Try.func44 rfl Try.ntmps44 rfl rfl ?_
 intro Q hret hnorm hP a A
 refine wsk fun K1 hK1 => wrl (qt (vs := [.int .i64 (((ss : Nat) : Int)), .int .i64 (((ls : Nat) : Int)), .int .i64 (((last : Nat) : Int)), .slice so ds.length ca]) (t := 30) A M rfl rfl rfl pg (qw rfl rfl) (by decide) ?_)
 intro g2 w3 M a A
 refine sda A λa A↦?_
 refine qb (hK1 _ _ (wsk fun K4 hK4 => wsk fun K5 hK5 => wrl ?_))
 iterate 3 refine sdm A λa A↦?_
 refine sdo (v := .int .i64 (((size : Nat) : Int) - ((at_ : Nat) : Int))) A (qe rfl rfl (ar_sub (in_i64 (by omega) (by omega)))) λa A↦?_
 rcases tf (decide (((size : Nat) : Int) - ((at_ : Nat) : Int) < ((n : Nat) : Int))) with hb6 | hb6
 ·
  have hb6' := of_decide_eq_true hb6
  refine sdc A jv hb6 λa A↦?_
  refine qb (hK5 _ _ (wp_cond_true (A.ev rfl) ?_))
  refine wsk fun K7 hK7 => wrl (sda A λa A↦?_)
  refine qb (hK7 _ _ (wp_ret (hret _ _ (en1 A rfl (qi rfl) ?_))))
  refine ⟨?_, M.bel⟩
  rw [fr_no1 (by omega)]
 ·
  have hb6' := of_decide_eq_false hb6
  refine sdc A jv hb6 λa A↦?_
  refine qb (hK5 _ _ (wp_cond_false (A.ev rfl) ?_))
  refine wp_skip (hK4 _ _ (wsk fun K8 hK8 => wsk fun K9 hK9 => wrl (sda A λa A↦?_)))
  refine qb (hK9 _ _ (wp_block (zh (fun m_ a w1 => ∃ (i : Nat), m_ = 1 + (ds.length - i) ∧ (i ≤ ds.length ∧ ∀ (j : Nat) d, j < i → ds[j]? = some d → big d = ar → d.p + d.ws.length ≤ at_ ∨ at_ + n ≤ d.p) ∧ Sl a 54 [(0, .agg #[.int .i64 (((ss : Nat) : Int)), .int .i64 (((ls : Nat) : Int)), .int .i64 (((last : Nat) : Int)), .slice so ds.length ca]), (1, .bool ar), (2, .int .i64 (((at_ : Nat) : Int))), (3, .int .i64 (((n : Nat) : Int))), (4, .int .i64 (((size : Nat) : Int))), (5, .pointer (some ⟨g2, 0, none⟩)), (11, .int .i64 (((i : Nat) : Int))), (13, .int .i64 (((n : Nat) : Int))), (14, .int .i64 (((size : Nat) : Int))), (15, .int .i64 (((at_ : Nat) : Int))), (16, .int .i64 (((size : Nat) : Int) - ((at_ : Nat) : Int))), (17, .bool false)] ∧ Mg w w1 (.obj g2 (.cells #[.int .i64 (((ss : Nat) : Int)), .int .i64 (((ls : Nat) : Int)), .int .i64 (((last : Nat) : Int)), .slice so ds.length ca] 30) :: [])) _ ⟨0, rfl, ⟨Nat.zero_le _, fun j u h => absurd h (Nat.not_lt_zero _)⟩, A.keep _ (by repeat' constructor), M⟩ ?_)))
  clear M A
  rintro m_ a w10 ⟨i, rfl, hinv12, A, M⟩ K11 hK11
  obtain ⟨hi0, hin9⟩ := hinv12
  refine wsk fun K13 hK13 => wsk fun K14 hK14 => wrl (sdm A λa A↦?_)
  refine sdo (v := .pointer (some ⟨g2, 3, none⟩)) A (qd HdA_fld_30_3 rfl rfl) λa A↦?_
  refine sdo A (qh M HdA_is1_28 rfl 0 rfl rfl) λa A↦?_
  refine sdo A (qv Try.underlying28 rfl) λa A↦?_
  rcases tf (decide (((i : Nat) : Int) < ((ds.length : Nat) : Int))) with hb15 | hb15
  ·
   have hb15' := of_decide_eq_true hb15
   refine sdc A qm hb15 λa A↦?_
   refine qb (hK14 _ _ (wp_cond_true (A.ev rfl) ?_))
   refine wp_skip (hK13 _ _ (wsk fun K16 hK16 => wp_block (wsk fun K17 hK17 => wrl (sdo (v := .pointer (some ⟨g2, 3, none⟩)) A (qd HdA_fld_30_3 rfl rfl) λa A↦?_))))
   refine sdo A (qh M HdA_is1_28 rfl 0 rfl rfl) λa A↦?_
   refine sdm A λa A↦?_
   obtain ⟨bd18, od19, d20, hs21, hd22, hc23, hc24, hc25⟩ := hO.at_ (i := i) (by omega)
   have hm26 := List.mem_of_getElem? hd22
   have hq27 := hq d20 hm26
   refine sdo (v := .pointer (some ⟨bd18, od19 + i * 3, none⟩)) A (zt (k := i) Try.underlying28 (by kernel_rfl) rfl rfl (by first | rfl | omega) hs21 (by omega)) λa A↦?_
   refine sdo A (qbj M hc23 hc24 hc25 HdA_isS_73 rfl) λa A↦?_
   refine qt (vs := [.int .i64 0, .int .i64 0, .slice none 0 0]) (t := 73) A M rfl rfl rfl pg (ql (z := .agg #[.int .i64 0, .int .i64 0, .slice none 0 0]) (by kernel_rfl) rfl) (by decide) ?_
   intro g28 w29 M a A
   refine qs (us := [.int .i64 (((d20.x : Nat) : Int)), .int .i64 (((d20.p : Nat) : Int)), .slice (some ⟨d20.g, 0, none⟩) d20.ws.length d20.c]) (L' := (.obj g28 (.cells #[.int .i64 (((d20.x : Nat) : Int)), .int .i64 (((d20.p : Nat) : Int)), .slice (some ⟨d20.g, 0, none⟩) d20.ws.length d20.c] 73) :: .obj g2 (.cells #[.int .i64 (((ss : Nat) : Int)), .int .i64 (((ls : Nat) : Int)), .int .i64 (((last : Nat) : Int)), .slice so ds.length ca] 30) :: [])) A M rfl rfl (qo rfl rfl rfl (by kernel_rfl) M 0 rfl rfl rfl) 0 rfl rfl rfl ?_
   intro w30 M
   refine qb (hK17 _ _ (wsk fun K31 hK31 => wrl (sdo (v := .pointer (some ⟨g28, 2, none⟩)) A (qd HdA_fld_73_2 rfl rfl) λa A↦?_)))
   refine sdo A (qh M HdA_is1_68 rfl 0 rfl rfl) λa A↦?_
   refine sdo A (qv Try.underlying68 rfl) λa A↦?_
   refine gcl A M (ef rfl rfl) (qcc) fun w33 hb32 M a A => ?_
   refine sdm A λa A↦?_
   rcases tf ((decide (16 < ((d20.ws.length : Nat) : Int)) == ar)) with hb34 | hb34
   ·
    have hb34' := eq_of_beq hb34
    refine sdo (v := .bool true) A (qe rfl rfl (fun w => ((xw Try.underlying4) w).trans (by rw [hb34]))) λa A↦?_
    refine sdm A λa A↦?_
    refine sdo (v := .pointer (some ⟨g28, 1, none⟩)) A (qd HdA_fld_73_1 rfl rfl) λa A↦?_
    refine sdo A (qh M HdA_is1_3 rfl 0 rfl rfl) λa A↦?_
    iterate 2 refine sdm A λa A↦?_
    refine sdo (v := .int .i64 (((at_ + n : Nat) : Int))) A (qe rfl rfl (ar_add ((in_i64 (by omega) (by omega)).trans (by omega)))) λa A↦?_
    rcases tf (decide (((d20.p : Nat) : Int) < ((at_ + n : Nat) : Int))) with hb35 | hb35
    ·
     have hb35' := of_decide_eq_true hb35
     refine sdc A qm hb35 λa A↦?_
     refine sdk (v := .bool true) A λa A↦?_
     iterate 2 refine sdm A λa A↦?_
     refine sdo (v := .pointer (some ⟨g28, 1, none⟩)) A (qd HdA_fld_73_1 rfl rfl) λa A↦?_
     refine sdo A (qh M HdA_is1_3 rfl 0 rfl rfl) λa A↦?_
     refine sdo (v := .pointer (some ⟨g28, 2, none⟩)) A (qd HdA_fld_73_2 rfl rfl) λa A↦?_
     refine sdo A (qh M HdA_is1_68 rfl 0 rfl rfl) λa A↦?_
     refine sdo A (qv Try.underlying68 rfl) λa A↦?_
     refine sdo (v := .int .i64 (((d20.p + d20.ws.length : Nat) : Int))) A (qe rfl rfl (ar_add ((in_i64 (by omega) (by omega)).trans (by omega)))) λa A↦?_
     rcases tf (decide (((at_ : Nat) : Int) < ((d20.p + d20.ws.length : Nat) : Int))) with hb36 | hb36
     ·
      have hb36' := of_decide_eq_true hb36
      refine sdc A qm hb36 λa A↦?_
      refine sdk (v := .bool true) A λa A↦?_
      refine qb (hK31 _ _ (wp_cond_true (A.ev rfl) ?_))
      refine wsk fun K37 hK37 => wrl (sda A λa A↦?_)
      refine qb (hK37 _ _ (wp_ret (hret _ _ (en1 A rfl (qi rfl) ?_))))
      refine ⟨?_, M.bel⟩
      rw [fr_no2 hd22 hb34' (by omega) (by omega)]
     ·
      have hb36' := of_decide_eq_false hb36
      refine sdc A qm hb36 λa A↦?_
      refine sdk (v := .bool false) A λa A↦?_
      refine qb (hK31 _ _ (wp_cond_false (A.ev rfl) ?_))
      refine wp_skip (hK16 _ _ (wrl (sdm A λa A↦?_)))
      refine sdo (v := .int .i64 (((i + 1 : Nat) : Int))) A (qe rfl rfl (ar_add ((in_i64 (by omega) (by omega)).trans (by omega)))) λa A↦?_
      refine sda A λa A↦?_
      refine qb ?_
      replace M : Mg w w33 (.obj g2 (.cells #[.int .i64 (((ss : Nat) : Int)), .int .i64 (((ls : Nat) : Int)), .int .i64 (((last : Nat) : Int)), .slice so ds.length ca] 30) :: []) := by
       have h9 := M.sub (cn (cc (.refl _)))
       exact h9
      refine hK11 _ _ _ (by omega) ⟨i + 1, rfl, ⟨by omega, fun j u hj hu => if h9 : j < i then hin9 j u h9 hu else by have h8 : j = i := (by omega); subst h8; rw [hd22] at hu; rw [← Option.some.inj hu]; exact fun _ => by omega⟩, A.keep _ (by repeat' constructor), M⟩
    ·
     have hb35' := of_decide_eq_false hb35
     refine sdc A qm hb35 λa A↦?_
     refine sdk (v := .bool false) A λa A↦?_
     refine sdm A λa A↦?_
     iterate 8 refine zj A rfl rfl rfl λa A↦?_
     refine sdk (v := .bool false) A λa A↦?_
     refine qb (hK31 _ _ (wp_cond_false (A.ev rfl) ?_))
     refine wp_skip (hK16 _ _ (wrl (sdm A λa A↦?_)))
     refine sdo (v := .int .i64 (((i + 1 : Nat) : Int))) A (qe rfl rfl (ar_add ((in_i64 (by omega) (by omega)).trans (by omega)))) λa A↦?_
     refine sda A λa A↦?_
     refine qb ?_
     replace M : Mg w w33 (.obj g2 (.cells #[.int .i64 (((ss : Nat) : Int)), .int .i64 (((ls : Nat) : Int)), .int .i64 (((last : Nat) : Int)), .slice so ds.length ca] 30) :: []) := by
      have h9 := M.sub (cn (cc (.refl _)))
      exact h9
     refine hK11 _ _ _ (by omega) ⟨i + 1, rfl, ⟨by omega, fun j u hj hu => if h9 : j < i then hin9 j u h9 hu else by have h8 : j = i := (by omega); subst h8; rw [hd22] at hu; rw [← Option.some.inj hu]; exact fun _ => by omega⟩, A.keep _ (by repeat' constructor), M⟩
   ·
    have hb34' := ne_of_beq_false hb34
    refine sdo (v := .bool false) A (qe rfl rfl (fun w => ((xw Try.underlying4) w).trans (by rw [hb34]))) λa A↦?_
    refine sdm A λa A↦?_
    iterate 6 refine zj A rfl rfl rfl λa A↦?_
    refine sdk (v := .bool false) A λa A↦?_
    refine sdm A λa A↦?_
    iterate 8 refine zj A rfl rfl rfl λa A↦?_
    refine sdk (v := .bool false) A λa A↦?_
    refine qb (hK31 _ _ (wp_cond_false (A.ev rfl) ?_))
    refine wp_skip (hK16 _ _ (wrl (sdm A λa A↦?_)))
    refine sdo (v := .int .i64 (((i + 1 : Nat) : Int))) A (qe rfl rfl (ar_add ((in_i64 (by omega) (by omega)).trans (by omega)))) λa A↦?_
    refine sda A λa A↦?_
    refine qb ?_
    replace M : Mg w w33 (.obj g2 (.cells #[.int .i64 (((ss : Nat) : Int)), .int .i64 (((ls : Nat) : Int)), .int .i64 (((last : Nat) : Int)), .slice so ds.length ca] 30) :: []) := by
     have h9 := M.sub (cn (cc (.refl _)))
     exact h9
    refine hK11 _ _ _ (by omega) ⟨i + 1, rfl, ⟨by omega, fun j u hj hu => if h9 : j < i then hin9 j u h9 hu else by have h8 : j = i := (by omega); subst h8; rw [hd22] at hu; rw [← Option.some.inj hu]; exact fun hb9 => absurd hb9 hb34'⟩, A.keep _ (by repeat' constructor), M⟩
  ·
   have hb15' := of_decide_eq_false hb15
   refine sdc A qm hb15 λa A↦?_
   refine qb (hK14 _ _ (wp_cond_false (A.ev rfl) ?_))
   refine wp_exit (hK8 _ _ (wsk fun K38 hK38 => wrl (sda A λa A↦?_)))
   refine qb (hK38 _ _ (wp_ret (hret _ _ (en1 A rfl (qi rfl) ?_))))
   refine ⟨?_, M.bel⟩
   rw [fr_yes (i := i) (by omega) (by omega) hin9]
theorem vd {w : World} {ss ls last ca : Nat} {so : Option Addr} {ds : List Ob} (hO : RO w so ds) (hol : ds.length ≤ 1000000) (hq : ∀ d ∈ ds, d.p + d.ws.length ≤ 1000000) {ar : Bool} {at_ n size : Nat} (hat : at_ ≤ 1000000) (hn : n ≤ 1000000) (hsz : size ≤ 1000000) {b : Bool} (h : frS ar at_ n size ds = b) : Calls Try.prog 44 #[.agg #[.int .i64 ((ss : Nat) : Int), .int .i64 ((ls : Nat) : Int), .int .i64 ((last : Nat) : Int), .slice so ds.length ca], .bool ar, .int .i64 ((at_ : Nat) : Int), .int .i64 ((n : Nat) : Int), .int .i64 ((size : Nat) : Int)] w fun e w' => e = .returned (.bool b) ∧ Below w.heap.size w w' := h ▸ rfree_any hO hol hq hat hn hsz
theorem qcd {w : World} {ss ls last ca : Nat} {so : Option Addr} {ds : List Ob} (hO : RO w so ds) (hol : ds.length ≤ 1000000) (hq : ∀ d ∈ ds, d.p + d.ws.length ≤ 1000000) (hsm : zg ds ≤ 1000000) : Calls Try.prog 45 #[.agg #[.int .i64 ((ss : Nat) : Int), .int .i64 ((ls : Nat) : Int), .int .i64 ((last : Nat) : Int), .slice so ds.length ca]] w fun e w' => e = .returned (.int .i64 ((zg ds : Nat) : Int)) ∧ Below w.heap.size w w' := by
 have M : Mg w w ([]) := Mg.start w
 refine qp (l := [(0, .agg #[.int .i64 (((ss : Nat) : Int)), .int .i64 (((ls : Nat) : Int)), .int .i64 (((last : Nat) : Int)), .slice so ds.length ca])]) Try.func45 rfl Try.ntmps45 rfl rfl ?_
 intro Q hret hnorm hP a A
 refine wsk fun K1 hK1 => wrl (qt (vs := [.int .i64 (((ss : Nat) : Int)), .int .i64 (((ls : Nat) : Int)), .int .i64 (((last : Nat) : Int)), .slice so ds.length ca]) (t := 30) A M rfl rfl rfl pg (qw rfl rfl) (by decide) ?_)
 intro g2 w3 M a A
 refine sda A λa A↦?_
 refine qb (hK1 _ _ (wsk fun K4 hK4 => wrl (sda A λa A↦?_)))
 refine qb (hK4 _ _ (wsk fun K5 hK5 => wsk fun K6 hK6 => wrl (sda A λa A↦?_)))
 refine qb (hK6 _ _ (wp_block (zh (fun m_ a w1 => ∃ (i : Nat) (u : Nat), m_ = 1 + (ds.length - i) ∧ (i ≤ ds.length ∧ u = zg (ds.take i)) ∧ Sl a 31 [(0, .agg #[.int .i64 (((ss : Nat) : Int)), .int .i64 (((ls : Nat) : Int)), .int .i64 (((last : Nat) : Int)), .slice so ds.length ca]), (1, .pointer (some ⟨g2, 0, none⟩)), (2, .int .i64 0), (3, .int .i64 (((u : Nat) : Int))), (4, .int .i64 (((i : Nat) : Int)))] ∧ Mg w w1 (.obj g2 (.cells #[.int .i64 (((ss : Nat) : Int)), .int .i64 (((ls : Nat) : Int)), .int .i64 (((last : Nat) : Int)), .slice so ds.length ca] 30) :: [])) _ ⟨0, 0, rfl, ⟨Nat.zero_le _, rfl⟩, A.keep _ ⟨rfl, rfl, rfl, rfl, rfl, trivial⟩, M⟩ ?_)))
 clear M A
 rintro m_ a w7 ⟨i, u, rfl, hinv9, A, M⟩ K8 hK8
 obtain ⟨hi0, hu⟩ := hinv9
 have hus := qfa ds i
 refine wsk fun K10 hK10 => wsk fun K11 hK11 => wrl (sdm A λa A↦?_)
 refine sdo (v := .pointer (some ⟨g2, 3, none⟩)) A (qd HdA_fld_30_3 rfl rfl) λa A↦?_
 refine sdo A (qh M HdA_is1_28 rfl 0 rfl rfl) λa A↦?_
 refine sdo A (qv Try.underlying28 rfl) λa A↦?_
 rcases tf (decide (((i : Nat) : Int) < ((ds.length : Nat) : Int))) with hb12 | hb12
 ·
  have hb12' := of_decide_eq_true hb12
  refine sdc A qm hb12 λa A↦?_
  refine qb (hK11 _ _ (wp_cond_true (A.ev rfl) ?_))
  refine wp_skip (hK10 _ _ (wsk fun K13 hK13 => wp_block (wsk fun K14 hK14 => wrl (sdo (v := .pointer (some ⟨g2, 3, none⟩)) A (qd HdA_fld_30_3 rfl rfl) λa A↦?_))))
  refine sdo A (qh M HdA_is1_28 rfl 0 rfl rfl) λa A↦?_
  refine sdm A λa A↦?_
  obtain ⟨bd15, od16, d17, hs18, hd19, hc20, hc21, hc22⟩ := hO.at_ (i := i) (by omega)
  have hm23 := List.mem_of_getElem? hd19
  have hq24 := hq d17 hm23
  refine sdo (v := .pointer (some ⟨bd15, od16 + i * 3, none⟩)) A (zt (k := i) Try.underlying28 (by kernel_rfl) rfl rfl (by first | rfl | omega) hs18 (by omega)) λa A↦?_
  refine sdo (v := .pointer (some ⟨bd15, od16 + i * 3 + 2, none⟩)) A (qd HdA_fld_73_2 rfl rfl) λa A↦?_
  refine sdo A (jf M hc22 HdA_is1_68 rfl) λa A↦?_
  refine sdo A (qv Try.underlying68 rfl) λa A↦?_
  rcases tf (decide (16 < ((d17.ws.length : Nat) : Int))) with hb25 | hb25
  ·
   have hb25' := of_decide_eq_true hb25
   refine gcl A M (ef rfl rfl) (jg hb25) fun w27 hb26 M a A => ?_
   refine sdo (v := .bool false) A (zf rfl zm) λa A↦?_
   refine qb (hK14 _ _ (wp_cond_false (A.ev rfl) ?_))
   refine wp_skip (hK13 _ _ (wrl (sdm A λa A↦?_)))
   refine sdo (v := .int .i64 (((i + 1 : Nat) : Int))) A (qe rfl rfl (ar_add ((in_i64 (by omega) (by omega)).trans (by omega)))) λa A↦?_
   refine sda A λa A↦?_
   refine qb ?_
   refine hK8 _ _ _ (by omega) ⟨i + 1, u, rfl, ⟨by omega, by rw [kp hd19, if_pos (show big d17 = true from hb25), ← hu]; rfl⟩, A.keep _ ⟨rfl, rfl, rfl, rfl, rfl, trivial⟩, M⟩
  ·
   have hb25' := of_decide_eq_false hb25
   refine gcl A M (ef rfl rfl) (jg hb25) fun w29 hb28 M a A => ?_
   refine sdo (v := .bool true) A (zf rfl zm) λa A↦?_
   refine qb (hK14 _ _ (wp_cond_true (A.ev rfl) ?_))
   refine wrl (sdm A λa A↦?_)
   refine sdo (v := .pointer (some ⟨g2, 3, none⟩)) A (qd HdA_fld_30_3 rfl rfl) λa A↦?_
   refine sdo A (qh M HdA_is1_28 rfl 0 rfl rfl) λa A↦?_
   refine sdm A λa A↦?_
   refine sdo (v := .pointer (some ⟨bd15, od16 + i * 3, none⟩)) A (zt (k := i) Try.underlying28 (by kernel_rfl) rfl rfl (by first | rfl | omega) hs18 (by omega)) λa A↦?_
   refine sdo (v := .pointer (some ⟨bd15, od16 + i * 3 + 2, none⟩)) A (qd HdA_fld_73_2 rfl rfl) λa A↦?_
   refine sdo A (jf M hc22 HdA_is1_68 rfl) λa A↦?_
   refine sdo A (qv Try.underlying68 rfl) λa A↦?_
   refine sdo (v := .int .i64 (((u + d17.ws.length : Nat) : Int))) A (qe rfl rfl (ar_add ((in_i64 (by omega) (by omega)).trans (by omega)))) λa A↦?_
   refine sda A λa A↦?_
   refine qb (hK13 _ _ (wrl (sdm A λa A↦?_)))
   refine sdo (v := .int .i64 (((i + 1 : Nat) : Int))) A (qe rfl rfl (ar_add ((in_i64 (by omega) (by omega)).trans (by omega)))) λa A↦?_
   refine sda A λa A↦?_
   refine qb ?_
   refine hK8 _ _ _ (by omega) ⟨i + 1, u + d17.ws.length, rfl, ⟨by omega, by rw [kp hd19, if_neg (by rw [show big d17 = false from hb25]; decide), ← hu]⟩, A.keep _ ⟨rfl, rfl, rfl, rfl, rfl, trivial⟩, M⟩
 ·
  have hb12' := of_decide_eq_false hb12
  refine sdc A qm hb12 λa A↦?_
  refine qb (hK11 _ _ (wp_cond_false (A.ev rfl) ?_))
  refine wp_exit (hK5 _ _ (wsk fun K30 hK30 => wrl (sdm A λa A↦?_)))
  refine sda A λa A↦?_
  refine qb (hK30 _ _ (wp_ret (hret _ _ (en1 A rfl (qi rfl) ?_))))
  refine ⟨?_, M.bel⟩
  rw [show u = zg ds by rw [hu, List.take_of_length_le (by omega)]]
theorem rplaceS_ok {w : World} {ss ls last ca : Nat} {so : Option Addr} {ds : List Ob} (hO : RO w so ds) (hol : ds.length ≤ 1000000) (hq : ∀ d ∈ ds, d.p + d.ws.length ≤ 1000000) (hsm : zg ds ≤ 1000000) {n : Nat} (hn : n ≤ 1000000) (hss : ss ≤ 1000000) (hls : ls ≤ 1000000) (hb : decide (16 < ((n : Nat) : Int)) = false) (hf : frS false (zg ds) n ss ds = true) : Calls Try.prog 27 #[.agg #[.int .i64 ((ss : Nat) : Int), .int .i64 ((ls : Nat) : Int), .int .i64 ((last : Nat) : Int), .slice so ds.length ca], .int .i64 ((n : Nat) : Int)] w fun e w' => e = .returned (.int .i64 ((zg ds : Nat) : Int)) ∧ Below w.heap.size w w' := by
 have M : Mg w w ([]) := Mg.start w
 refine qp (l := [(0, .agg #[.int .i64 (((ss : Nat) : Int)), .int .i64 (((ls : Nat) : Int)), .int .i64 (((last : Nat) : Int)), .slice so ds.length ca]), (1, .int .i64 (((n : Nat) : Int)))]) Try.func27 rfl Try.ntmps27 rfl rfl ?_
 intro Q hret hnorm hP a A
 refine wsk fun K1 hK1 => wrl (qt (vs := [.int .i64 (((ss : Nat) : Int)), .int .i64 (((ls : Nat) : Int)), .int .i64 (((last : Nat) : Int)), .slice so ds.length ca]) (t := 30) A M rfl rfl rfl pg (qw rfl rfl) (by decide) ?_)
 intro g2 w3 M a A
 refine sda A λa A↦?_
 refine qb (hK1 _ _ (wsk fun K4 hK4 => wsk fun K5 hK5 => wrl (sdm A λa A↦?_)))
 refine gcl A M (ef rfl rfl) (jg hb) fun w7 hb6 M a A => ?_
 refine sdo (v := .bool true) A (zf rfl zm) λa A↦?_
 refine qb (hK5 _ _ (wp_cond_true (A.ev rfl) ?_))
 refine wsk fun K8 hK8 => wsk fun K9 hK9 => zn (S := fun w1 => Mg w w1 (.obj g2 (.cells #[.int .i64 (((ss : Nat) : Int)), .int .i64 (((ls : Nat) : Int)), .int .i64 (((last : Nat) : Int)), .slice so ds.length ca] 30) :: [])) (by kernel_rfl) ?_
 replace M := M.drew
 refine qf A 0 rfl rfl rfl rfl hP (M.sub (cc (List.nil_sublist _))) (fun w1 M => qq M HdA_isS_30 rfl 0 rfl (cs := [.int .i64 (((ss : Nat) : Int)), .int .i64 (((ls : Nat) : Int)), .int .i64 (((last : Nat) : Int)), .slice so ds.length ca]) rfl rfl) λa A↦?_
 refine qf A 1 rfl rfl rfl rfl hP (M.sub (cc (List.nil_sublist _))) (fun w1 M => qq M HdA_isS_30 rfl 0 rfl (cs := [.int .i64 (((ss : Nat) : Int)), .int .i64 (((ls : Nat) : Int)), .int .i64 (((last : Nat) : Int)), .slice so ds.length ca]) rfl rfl) λa A↦?_
 refine qf A 3 rfl rfl rfl rfl hP (M.sub (cc (List.nil_sublist _))) (fun w1 M => qn rfl) λa A↦?_
 refine qf (v := .pointer (some ⟨g2, 0, none⟩)) A 4 rfl rfl rfl rfl hP (M.sub (cc (List.nil_sublist _))) (fun w1 M => qd HdA_fld_30_0 rfl rfl) λa A↦?_
 refine qf A 5 rfl rfl rfl rfl hP (M.sub (cc (List.nil_sublist _))) (fun w1 M => qh M HdA_is1_3 rfl 0 rfl rfl) λa A↦?_
 refine zd (by kernel_rfl) (jk A 2 rfl rfl rfl rfl (zp rfl rfl (fun w => by kernel_rfl)) (qcd (hO.below M.bel) hol hq hsm) ?_)
 rintro _ w11 ⟨rfl, hb10⟩
 replace M := M.call hb10
 refine ⟨_, rfl, (M.sub (cc (List.nil_sublist _))), ?_⟩
 intro a A
 refine zd (by kernel_rfl) (jk A 6 rfl rfl rfl rfl (zp rfl rfl (fun w => by kernel_rfl)) (vd (at_ := zg ds) (hO.below M.bel) hol hq (by omega) (by omega) (by omega) hf) ?_)
 rintro _ w13 ⟨rfl, hb12⟩
 replace M := M.call hb12
 refine ⟨_, rfl, (M.sub (cc (List.nil_sublist _))), ?_⟩
 intro a A
 refine zi (by kernel_rfl) ?_
 refine hK9 _ _ (wp_cond_true (A.ev rfl) ?_)
 refine wsk fun K14 hK14 => wrl (sdo A (qq M HdA_isS_30 rfl 0 rfl (cs := [.int .i64 (((ss : Nat) : Int)), .int .i64 (((ls : Nat) : Int)), .int .i64 (((last : Nat) : Int)), .slice so ds.length ca]) rfl rfl) λa A↦?_)
 refine gcl A M (ef rfl rfl) (qcd (hO.below M.bel) hol hq hsm) fun w16 hb15 M a A => ?_
 refine sda A λa A↦?_
 refine qb (hK14 _ _ (wp_ret (hret _ _ (en1 A rfl (qi rfl) ?_))))
 exact ⟨rfl, M.bel⟩
theorem rplaceS_no {w : World} {ss ls last ca : Nat} {so : Option Addr} {ds : List Ob} (hO : RO w so ds) (hol : ds.length ≤ 1000000) (hq : ∀ d ∈ ds, d.p + d.ws.length ≤ 1000000) (hsm : zg ds ≤ 1000000) {n : Nat} (hn : n ≤ 1000000) (hss : ss ≤ 1000000) (hls : ls ≤ 1000000) (hb : decide (16 < ((n : Nat) : Int)) = false) (hf : frS false (zg ds) n ss ds = false) : Calls Try.prog 27 #[.agg #[.int .i64 ((ss : Nat) : Int), .int .i64 ((ls : Nat) : Int), .int .i64 ((last : Nat) : Int), .slice so ds.length ca], .int .i64 ((n : Nat) : Int)] w fun e w' => e = .returned (.int .i64 (-1)) ∧ Below w.heap.size w w' := by
 have M : Mg w w ([]) := Mg.start w
 refine qp (l := [(0, .agg #[.int .i64 (((ss : Nat) : Int)), .int .i64 (((ls : Nat) : Int)), .int .i64 (((last : Nat) : Int)), .slice so ds.length ca]), (1, .int .i64 (((n : Nat) : Int)))]) Try.func27 rfl Try.ntmps27 rfl rfl ?_
 intro Q hret hnorm hP a A
 refine wsk fun K1 hK1 => wrl (qt (vs := [.int .i64 (((ss : Nat) : Int)), .int .i64 (((ls : Nat) : Int)), .int .i64 (((last : Nat) : Int)), .slice so ds.length ca]) (t := 30) A M rfl rfl rfl pg (qw rfl rfl) (by decide) ?_)
 intro g2 w3 M a A
 refine sda A λa A↦?_
 refine qb (hK1 _ _ (wsk fun K4 hK4 => wsk fun K5 hK5 => wrl (sdm A λa A↦?_)))
 refine gcl A M (ef rfl rfl) (jg hb) fun w7 hb6 M a A => ?_
 refine sdo (v := .bool true) A (zf rfl zm) λa A↦?_
 refine qb (hK5 _ _ (wp_cond_true (A.ev rfl) ?_))
 refine wsk fun K8 hK8 => wsk fun K9 hK9 => zn (S := fun w1 => Mg w w1 (.obj g2 (.cells #[.int .i64 (((ss : Nat) : Int)), .int .i64 (((ls : Nat) : Int)), .int .i64 (((last : Nat) : Int)), .slice so ds.length ca] 30) :: [])) (by kernel_rfl) ?_
 replace M := M.drew
 refine qf A 0 rfl rfl rfl rfl hP (M.sub (cc (List.nil_sublist _))) (fun w1 M => qq M HdA_isS_30 rfl 0 rfl (cs := [.int .i64 (((ss : Nat) : Int)), .int .i64 (((ls : Nat) : Int)), .int .i64 (((last : Nat) : Int)), .slice so ds.length ca]) rfl rfl) λa A↦?_
 refine qf A 1 rfl rfl rfl rfl hP (M.sub (cc (List.nil_sublist _))) (fun w1 M => qq M HdA_isS_30 rfl 0 rfl (cs := [.int .i64 (((ss : Nat) : Int)), .int .i64 (((ls : Nat) : Int)), .int .i64 (((last : Nat) : Int)), .slice so ds.length ca]) rfl rfl) λa A↦?_
 refine qf A 3 rfl rfl rfl rfl hP (M.sub (cc (List.nil_sublist _))) (fun w1 M => qn rfl) λa A↦?_
 refine qf (v := .pointer (some ⟨g2, 0, none⟩)) A 4 rfl rfl rfl rfl hP (M.sub (cc (List.nil_sublist _))) (fun w1 M => qd HdA_fld_30_0 rfl rfl) λa A↦?_
 refine qf A 5 rfl rfl rfl rfl hP (M.sub (cc (List.nil_sublist _))) (fun w1 M => qh M HdA_is1_3 rfl 0 rfl rfl) λa A↦?_
 refine zd (by kernel_rfl) (jk A 2 rfl rfl rfl rfl (zp rfl rfl (fun w => by kernel_rfl)) (qcd (hO.below M.bel) hol hq hsm) ?_)
 rintro _ w11 ⟨rfl, hb10⟩
 replace M := M.call hb10
 refine ⟨_, rfl, (M.sub (cc (List.nil_sublist _))), ?_⟩
 intro a A
 refine zd (by kernel_rfl) (jk A 6 rfl rfl rfl rfl (zp rfl rfl (fun w => by kernel_rfl)) (vd (at_ := zg ds) (hO.below M.bel) hol hq (by omega) (by omega) (by omega) hf) ?_)
 rintro _ w13 ⟨rfl, hb12⟩
 replace M := M.call hb12
 refine ⟨_, rfl, (M.sub (cc (List.nil_sublist _))), ?_⟩
 intro a A
 refine zi (by kernel_rfl) ?_
 refine hK9 _ _ (wp_cond_false (A.ev rfl) ?_)
 refine wp_skip (hK8 _ _ (wsk fun K14 hK14 => wrl (sda A λa A↦?_)))
 refine qb (hK14 _ _ (wp_ret (hret _ _ (en1 A rfl (qi rfl) ?_))))
 exact ⟨rfl, M.bel⟩
theorem rplaceL_0 {w : World} {ss ls last ca : Nat} {so : Option Addr} {ds : List Ob} (hO : RO w so ds) (hol : ds.length ≤ 1000000) (hq : ∀ d ∈ ds, d.p + d.ws.length ≤ 1000000) (hsm : zg ds ≤ 1000000) {n : Nat} (hn : n ≤ 1000000) (hss : ss ≤ 1000000) (hls : ls ≤ 1000000) (hb : decide (16 < ((n : Nat) : Int)) = true) (hf : frS true 0 n ls ds = true) : Calls Try.prog 27 #[.agg #[.int .i64 ((ss : Nat) : Int), .int .i64 ((ls : Nat) : Int), .int .i64 ((last : Nat) : Int), .slice so ds.length ca], .int .i64 ((n : Nat) : Int)] w fun e w' => e = .returned (.int .i64 0) ∧ Below w.heap.size w w' := by
 have M : Mg w w ([]) := Mg.start w
 refine qp (l := [(0, .agg #[.int .i64 (((ss : Nat) : Int)), .int .i64 (((ls : Nat) : Int)), .int .i64 (((last : Nat) : Int)), .slice so ds.length ca]), (1, .int .i64 (((n : Nat) : Int)))]) Try.func27 rfl Try.ntmps27 rfl rfl ?_
 intro Q hret hnorm hP a A
 refine wsk fun K1 hK1 => wrl (qt (vs := [.int .i64 (((ss : Nat) : Int)), .int .i64 (((ls : Nat) : Int)), .int .i64 (((last : Nat) : Int)), .slice so ds.length ca]) (t := 30) A M rfl rfl rfl pg (qw rfl rfl) (by decide) ?_)
 intro g2 w3 M a A
 refine sda A λa A↦?_
 refine qb (hK1 _ _ (wsk fun K4 hK4 => wsk fun K5 hK5 => wrl (sdm A λa A↦?_)))
 refine gcl A M (ef rfl rfl) (jg hb) fun w7 hb6 M a A => ?_
 refine sdo (v := .bool false) A (zf rfl zm) λa A↦?_
 refine qb (hK5 _ _ (wp_cond_false (A.ev rfl) ?_))
 refine wp_skip (hK4 _ _ (wsk fun K8 hK8 => wsk fun K9 hK9 => wrl (sdo A (qq M HdA_isS_30 rfl 0 rfl (cs := [.int .i64 (((ss : Nat) : Int)), .int .i64 (((ls : Nat) : Int)), .int .i64 (((last : Nat) : Int)), .slice so ds.length ca]) rfl rfl) λa A↦?_)))
 refine sdm A λa A↦?_
 refine sdo (v := .pointer (some ⟨g2, 1, none⟩)) A (qd HdA_fld_30_1 rfl rfl) λa A↦?_
 refine sdo A (qh M HdA_is1_3 rfl 0 rfl rfl) λa A↦?_
 refine gcl A M (ef rfl rfl) (vd (at_ := 0) (hO.below M.bel) hol hq (by omega) (by omega) (by omega) hf) fun w11 hb10 M a A => ?_
 refine qb (hK9 _ _ (wp_cond_true (A.ev rfl) ?_))
 refine wsk fun K12 hK12 => wrl (sda A λa A↦?_)
 refine qb (hK12 _ _ (wp_ret (hret _ _ (en1 A rfl (qi rfl) ?_))))
 exact ⟨rfl, M.bel⟩
theorem rplaceL {w : World} {ss ls last ca : Nat} {so : Option Addr} {ds : List Ob} (hO : RO w so ds) (hol : ds.length ≤ 1000000) (hq : ∀ d ∈ ds, d.p + d.ws.length ≤ 1000000) (hsm : zg ds ≤ 1000000) {n : Nat} (hn : n ≤ 1000000) (hss : ss ≤ 1000000) (hls : ls ≤ 1000000) (hb : decide (16 < ((n : Nat) : Int)) = true) (hf : frS true 0 n ls ds = false) : Calls Try.prog 27 #[.agg #[.int .i64 ((ss : Nat) : Int), .int .i64 ((ls : Nat) : Int), .int .i64 ((last : Nat) : Int), .slice so ds.length ca], .int .i64 ((n : Nat) : Int)] w fun e w' => ∃ bz, e = .returned (.int .i64 bz) ∧ Bst n ls ds ds.length bz ∧ Below w.heap.size w w' := by
 have M : Mg w w ([]) := Mg.start w
 refine qp (l := [(0, .agg #[.int .i64 (((ss : Nat) : Int)), .int .i64 (((ls : Nat) : Int)), .int .i64 (((last : Nat) : Int)), .slice so ds.length ca]), (1, .int .i64 (((n : Nat) : Int)))]) Try.func27 rfl Try.ntmps27 rfl rfl ?_
 intro Q hret hnorm hP a A
 refine wsk fun K1 hK1 => wrl (qt (vs := [.int .i64 (((ss : Nat) : Int)), .int .i64 (((ls : Nat) : Int)), .int .i64 (((last : Nat) : Int)), .slice so ds.length ca]) (t := 30) A M rfl rfl rfl pg (qw rfl rfl) (by decide) ?_)
 intro g2 w3 M a A
 refine sda A λa A↦?_
 refine qb (hK1 _ _ (wsk fun K4 hK4 => wsk fun K5 hK5 => wrl (sdm A λa A↦?_)))
 refine gcl A M (ef rfl rfl) (jg hb) fun w7 hb6 M a A => ?_
 refine sdo (v := .bool false) A (zf rfl zm) λa A↦?_
 refine qb (hK5 _ _ (wp_cond_false (A.ev rfl) ?_))
 refine wp_skip (hK4 _ _ (wsk fun K8 hK8 => wsk fun K9 hK9 => wrl (sdo A (qq M HdA_isS_30 rfl 0 rfl (cs := [.int .i64 (((ss : Nat) : Int)), .int .i64 (((ls : Nat) : Int)), .int .i64 (((last : Nat) : Int)), .slice so ds.length ca]) rfl rfl) λa A↦?_)))
 refine sdm A λa A↦?_
 refine sdo (v := .pointer (some ⟨g2, 1, none⟩)) A (qd HdA_fld_30_1 rfl rfl) λa A↦?_
 refine sdo A (qh M HdA_is1_3 rfl 0 rfl rfl) λa A↦?_
 refine gcl A M (ef rfl rfl) (vd (at_ := 0) (hO.below M.bel) hol hq (by omega) (by omega) (by omega) hf) fun w11 hb10 M a A => ?_
 refine qb (hK9 _ _ (wp_cond_false (A.ev rfl) ?_))
 refine wp_skip (hK8 _ _ (wsk fun K12 hK12 => wrl (sda A λa A↦?_)))
 refine qb (hK12 _ _ (wsk fun K13 hK13 => wsk fun K14 hK14 => wrl (sda A λa A↦?_)))
 refine qb (hK14 _ _ (wp_block (zh (fun m_ a w1 => ∃ (i : Nat) (bz : Int), m_ = 1 + (ds.length - i) ∧ (i ≤ ds.length ∧ Bst n ls ds i bz) ∧ Sl a 67 [(0, .agg #[.int .i64 (((ss : Nat) : Int)), .int .i64 (((ls : Nat) : Int)), .int .i64 (((last : Nat) : Int)), .slice so ds.length ca]), (1, .int .i64 (((n : Nat) : Int))), (2, .pointer (some ⟨g2, 0, none⟩)), (4, .int .i64 0), (5, .int .i64 bz), (6, .int .i64 (((i : Nat) : Int))), (9, .int .i64 (((n : Nat) : Int))), (10, .bool true), (11, .bool false), (21, .agg #[.int .i64 (((ss : Nat) : Int)), .int .i64 (((ls : Nat) : Int)), .int .i64 (((last : Nat) : Int)), .slice so ds.length ca]), (22, .int .i64 (((n : Nat) : Int))), (23, .pointer (some ⟨g2, 1, none⟩)), (24, .int .i64 (((ls : Nat) : Int))), (25, .bool false)] ∧ Mg w w1 (.obj g2 (.cells #[.int .i64 (((ss : Nat) : Int)), .int .i64 (((ls : Nat) : Int)), .int .i64 (((last : Nat) : Int)), .slice so ds.length ca] 30) :: [])) _ ⟨0, -1, rfl, ⟨Nat.zero_le _, Bst.zero⟩, A.keep _ (by repeat' constructor), M⟩ ?_)))
 clear M A
 rintro m_ a w15 ⟨i, bz, rfl, hinv17, A, M⟩ K16 hK16
 obtain ⟨hi0, hbz⟩ := hinv17
 have hbr := hbz.rng
 refine wsk fun K18 hK18 => wsk fun K19 hK19 => wrl (sdm A λa A↦?_)
 refine sdo (v := .pointer (some ⟨g2, 3, none⟩)) A (qd HdA_fld_30_3 rfl rfl) λa A↦?_
 refine sdo A (qh M HdA_is1_28 rfl 0 rfl rfl) λa A↦?_
 refine sdo A (qv Try.underlying28 rfl) λa A↦?_
 rcases tf (decide (((i : Nat) : Int) < ((ds.length : Nat) : Int))) with hb20 | hb20
 ·
  have hb20' := of_decide_eq_true hb20
  refine sdc A qm hb20 λa A↦?_
  refine qb (hK19 _ _ (wp_cond_true (A.ev rfl) ?_))
  refine wp_skip (hK18 _ _ (wsk fun K21 hK21 => wp_block (wsk fun K22 hK22 => wrl (sdo (v := .pointer (some ⟨g2, 3, none⟩)) A (qd HdA_fld_30_3 rfl rfl) λa A↦?_))))
  refine sdo A (qh M HdA_is1_28 rfl 0 rfl rfl) λa A↦?_
  refine sdm A λa A↦?_
  obtain ⟨bd23, od24, d25, hs26, hd27, hc28, hc29, hc30⟩ := hO.at_ (i := i) (by omega)
  have hm31 := List.mem_of_getElem? hd27
  have hq32 := hq d25 hm31
  refine sdo (v := .pointer (some ⟨bd23, od24 + i * 3, none⟩)) A (zt (k := i) Try.underlying28 (by kernel_rfl) rfl rfl (by first | rfl | omega) hs26 (by omega)) λa A↦?_
  refine sdo A (qbj M hc28 hc29 hc30 HdA_isS_73 rfl) λa A↦?_
  refine qt (vs := [.int .i64 0, .int .i64 0, .slice none 0 0]) (t := 73) A M rfl rfl rfl pg (ql (z := .agg #[.int .i64 0, .int .i64 0, .slice none 0 0]) (by kernel_rfl) rfl) (by decide) ?_
  intro g33 w34 M a A
  refine qs (us := [.int .i64 (((d25.x : Nat) : Int)), .int .i64 (((d25.p : Nat) : Int)), .slice (some ⟨d25.g, 0, none⟩) d25.ws.length d25.c]) (L' := (.obj g33 (.cells #[.int .i64 (((d25.x : Nat) : Int)), .int .i64 (((d25.p : Nat) : Int)), .slice (some ⟨d25.g, 0, none⟩) d25.ws.length d25.c] 73) :: .obj g2 (.cells #[.int .i64 (((ss : Nat) : Int)), .int .i64 (((ls : Nat) : Int)), .int .i64 (((last : Nat) : Int)), .slice so ds.length ca] 30) :: [])) A M rfl rfl (qo rfl rfl rfl (by kernel_rfl) M 0 rfl rfl rfl) 0 rfl rfl rfl ?_
  intro w35 M
  refine qb (hK22 _ _ (wsk fun K36 hK36 => wrl (sdo (v := .pointer (some ⟨g33, 1, none⟩)) A (qd HdA_fld_73_1 rfl rfl) λa A↦?_)))
  refine sdo A (qh M HdA_is1_3 rfl 0 rfl rfl) λa A↦?_
  refine sdo (v := .pointer (some ⟨g33, 2, none⟩)) A (qd HdA_fld_73_2 rfl rfl) λa A↦?_
  refine sdo A (qh M HdA_is1_68 rfl 0 rfl rfl) λa A↦?_
  refine sdo A (qv Try.underlying68 rfl) λa A↦?_
  refine sdo (v := .int .i64 (((d25.p + d25.ws.length : Nat) : Int))) A (qe rfl rfl (ar_add ((in_i64 (by omega) (by omega)).trans (by omega)))) λa A↦?_
  refine sda A λa A↦?_
  refine qb (hK36 _ _ (wsk fun K37 hK37 => wrl (sdo (v := .pointer (some ⟨g33, 2, none⟩)) A (qd HdA_fld_73_2 rfl rfl) λa A↦?_)))
  refine sdo A (qh M HdA_is1_68 rfl 0 rfl rfl) λa A↦?_
  refine sdo A (qv Try.underlying68 rfl) λa A↦?_
  rcases tf (decide (16 < ((d25.ws.length : Nat) : Int))) with hb38 | hb38
  ·
   have hb38' := of_decide_eq_true hb38
   refine gcl A M (ef rfl rfl) (jg hb38) fun w40 hb39 M a A => ?_
   refine sdm A λa A↦?_
   refine sdo A (qq M HdA_isS_30 rfl 1 rfl (cs := [.int .i64 (((ss : Nat) : Int)), .int .i64 (((ls : Nat) : Int)), .int .i64 (((last : Nat) : Int)), .slice so ds.length ca]) rfl rfl) λa A↦?_
   iterate 2 refine sdm A λa A↦?_
   refine sdo (v := .pointer (some ⟨g2, 1, none⟩)) A (qd HdA_fld_30_1 rfl rfl) λa A↦?_
   refine sdo A (qh M HdA_is1_3 rfl 1 rfl rfl) λa A↦?_
   rcases tf (frS true (d25.p + d25.ws.length) n ls ds) with hb41 | hb41
   ·
    refine gcl A M (ef rfl rfl) (vd (at_ := d25.p + d25.ws.length) (hO.below M.bel) hol hq (by omega) (by omega) (by omega) hb41) fun w43 hb42 M a A => ?_
    refine sdk (v := .bool true) A λa A↦?_
    iterate 2 refine sdm A λa A↦?_
    rcases tf (decide (bz < 0)) with hb44 | hb44
    ·
     have hb44' := of_decide_eq_true hb44
     refine sdc A qm hb44 λa A↦?_
     refine sdm A λa A↦?_
     iterate 3 refine zj A rfl rfl rfl λa A↦?_
     iterate 2 refine sdk (v := .bool true) A λa A↦?_
     refine qb (hK37 _ _ (wp_cond_true (A.ev rfl) ?_))
     refine wrl (sdm A λa A↦?_)
     refine sda A λa A↦?_
     refine qb (hK21 _ _ (wrl (sdm A λa A↦?_)))
     refine sdo (v := .int .i64 (((i + 1 : Nat) : Int))) A (qe rfl rfl (ar_add ((in_i64 (by omega) (by omega)).trans (by omega)))) λa A↦?_
     refine sda A λa A↦?_
     refine qb ?_
     replace M : Mg w w43 (.obj g2 (.cells #[.int .i64 (((ss : Nat) : Int)), .int .i64 (((ls : Nat) : Int)), .int .i64 (((last : Nat) : Int)), .slice so ds.length ca] 30) :: []) := by
      have h9 := M.sub (cn (cc (.refl _)))
      exact h9
     refine hK16 _ _ _ (by omega) ⟨i + 1, ((d25.p + d25.ws.length : Nat) : Int), rfl, ⟨by omega, hbz.take_ hd27 (by unfold uc; rw [show big d25 = true from hb38, hb41]; rfl) (by omega)⟩, A.keep _ (by repeat' constructor), M⟩
    ·
     have hb44' := of_decide_eq_false hb44
     refine sdc A qm hb44 λa A↦?_
     iterate 3 refine sdm A λa A↦?_
     rcases tf (decide (((d25.p + d25.ws.length : Nat) : Int) < bz)) with hb45 | hb45
     ·
      have hb45' := of_decide_eq_true hb45
      refine sdc A qm hb45 λa A↦?_
      iterate 2 refine sdk (v := .bool true) A λa A↦?_
      refine qb (hK37 _ _ (wp_cond_true (A.ev rfl) ?_))
      refine wrl (sdm A λa A↦?_)
      refine sda A λa A↦?_
      refine qb (hK21 _ _ (wrl (sdm A λa A↦?_)))
      refine sdo (v := .int .i64 (((i + 1 : Nat) : Int))) A (qe rfl rfl (ar_add ((in_i64 (by omega) (by omega)).trans (by omega)))) λa A↦?_
      refine sda A λa A↦?_
      refine qb ?_
      replace M : Mg w w43 (.obj g2 (.cells #[.int .i64 (((ss : Nat) : Int)), .int .i64 (((ls : Nat) : Int)), .int .i64 (((last : Nat) : Int)), .slice so ds.length ca] 30) :: []) := by
       have h9 := M.sub (cn (cc (.refl _)))
       exact h9
      refine hK16 _ _ _ (by omega) ⟨i + 1, ((d25.p + d25.ws.length : Nat) : Int), rfl, ⟨by omega, hbz.take_ hd27 (by unfold uc; rw [show big d25 = true from hb38, hb41]; rfl) (by omega)⟩, A.keep _ (by repeat' constructor), M⟩
     ·
      have hb45' := of_decide_eq_false hb45
      refine sdc A qm hb45 λa A↦?_
      iterate 2 refine sdk (v := .bool false) A λa A↦?_
      refine qb (hK37 _ _ (wp_cond_false (A.ev rfl) ?_))
      refine wp_skip (hK21 _ _ (wrl (sdm A λa A↦?_)))
      refine sdo (v := .int .i64 (((i + 1 : Nat) : Int))) A (qe rfl rfl (ar_add ((in_i64 (by omega) (by omega)).trans (by omega)))) λa A↦?_
      refine sda A λa A↦?_
      refine qb ?_
      replace M : Mg w w43 (.obj g2 (.cells #[.int .i64 (((ss : Nat) : Int)), .int .i64 (((ls : Nat) : Int)), .int .i64 (((last : Nat) : Int)), .slice so ds.length ca] 30) :: []) := by
       have h9 := M.sub (cn (cc (.refl _)))
       exact h9
      refine hK16 _ _ _ (by omega) ⟨i + 1, bz, rfl, ⟨by omega, hbz.worse hd27 (by omega) (by omega)⟩, A.keep _ (by repeat' constructor), M⟩
   ·
    refine gcl A M (ef rfl rfl) (vd (at_ := d25.p + d25.ws.length) (hO.below M.bel) hol hq (by omega) (by omega) (by omega) hb41) fun w47 hb46 M a A => ?_
    refine sdk (v := .bool false) A λa A↦?_
    refine sdm A λa A↦?_
    iterate 3 refine zj A rfl rfl rfl λa A↦?_
    iterate 3 refine yy A rfl rfl rfl λa A↦?_
    refine zj A rfl rfl rfl λa A↦?_
    refine sdk (v := .bool false) A λa A↦?_
    refine qb (hK37 _ _ (wp_cond_false (A.ev rfl) ?_))
    refine wp_skip (hK21 _ _ (wrl (sdm A λa A↦?_)))
    refine sdo (v := .int .i64 (((i + 1 : Nat) : Int))) A (qe rfl rfl (ar_add ((in_i64 (by omega) (by omega)).trans (by omega)))) λa A↦?_
    refine sda A λa A↦?_
    refine qb ?_
    replace M : Mg w w47 (.obj g2 (.cells #[.int .i64 (((ss : Nat) : Int)), .int .i64 (((ls : Nat) : Int)), .int .i64 (((last : Nat) : Int)), .slice so ds.length ca] 30) :: []) := by
     have h9 := M.sub (cn (cc (.refl _)))
     exact h9
    refine hK16 _ _ _ (by omega) ⟨i + 1, bz, rfl, ⟨by omega, hbz.skip hd27 (by unfold uc; rw [hb41, Bool.and_false])⟩, A.keep _ (by repeat' constructor), M⟩
  ·
   have hb38' := of_decide_eq_false hb38
   refine gcl A M (ef rfl rfl) (jg hb38) fun w49 hb48 M a A => ?_
   refine sdm A λa A↦?_
   iterate 6 refine zj A rfl rfl rfl λa A↦?_
   refine sdk (v := .bool false) A λa A↦?_
   refine sdm A λa A↦?_
   iterate 3 refine zj A rfl rfl rfl λa A↦?_
   iterate 3 refine yy A rfl rfl rfl λa A↦?_
   refine zj A rfl rfl rfl λa A↦?_
   refine sdk (v := .bool false) A λa A↦?_
   refine qb (hK37 _ _ (wp_cond_false (A.ev rfl) ?_))
   refine wp_skip (hK21 _ _ (wrl (sdm A λa A↦?_)))
   refine sdo (v := .int .i64 (((i + 1 : Nat) : Int))) A (qe rfl rfl (ar_add ((in_i64 (by omega) (by omega)).trans (by omega)))) λa A↦?_
   refine sda A λa A↦?_
   refine qb ?_
   replace M : Mg w w49 (.obj g2 (.cells #[.int .i64 (((ss : Nat) : Int)), .int .i64 (((ls : Nat) : Int)), .int .i64 (((last : Nat) : Int)), .slice so ds.length ca] 30) :: []) := by
    have h9 := M.sub (cn (cc (.refl _)))
    exact h9
   refine hK16 _ _ _ (by omega) ⟨i + 1, bz, rfl, ⟨by omega, hbz.skip hd27 (by unfold uc; rw [show big d25 = false from hb38]; rfl)⟩, A.keep _ (by repeat' constructor), M⟩
 ·
  have hb20' := of_decide_eq_false hb20
  refine sdc A qm hb20 λa A↦?_
  refine qb (hK19 _ _ (wp_cond_false (A.ev rfl) ?_))
  refine wp_exit (hK13 _ _ (wsk fun K50 hK50 => wrl (sdm A λa A↦?_)))
  refine sda A λa A↦?_
  refine qb (hK50 _ _ (wp_ret (hret _ _ (en1 A rfl (qi rfl) ?_))))
  exact ⟨bz, rfl, (show i = ds.length by omega) ▸ hbz, M.bel⟩
theorem HdB_is1_28 : Is1 Try.prog 28 := ⟨⟨_, Try.underlying28, rfl⟩, by kernel_rfl⟩
theorem HdB_is1_3 : Is1 Try.prog 3 := ⟨⟨_, Try.underlying3, rfl⟩, by kernel_rfl⟩
theorem HdB_is1_68 : Is1 Try.prog 68 := ⟨⟨_, Try.underlying68, rfl⟩, by kernel_rfl⟩
theorem HdB_fld_30_0 : FieldAt Try.prog 30 0 0 := ⟨_, _, Try.underlying30, rfl, rfl, by kernel_rfl⟩
theorem HdB_fld_30_1 : FieldAt Try.prog 30 1 1 := ⟨_, _, Try.underlying30, rfl, rfl, by kernel_rfl⟩
theorem HdB_fld_30_3 : FieldAt Try.prog 30 3 3 := ⟨_, _, Try.underlying30, rfl, rfl, by kernel_rfl⟩
theorem HdB_fld_73_0 : FieldAt Try.prog 73 0 0 := ⟨_, _, Try.underlying73, rfl, rfl, by kernel_rfl⟩
theorem HdB_fld_73_1 : FieldAt Try.prog 73 1 1 := ⟨_, _, Try.underlying73, rfl, rfl, by kernel_rfl⟩
theorem HdB_fld_73_2 : FieldAt Try.prog 73 2 2 := ⟨_, _, Try.underlying73, rfl, rfl, by kernel_rfl⟩
theorem HdB_isS_30 : IsS Try.prog 30 4 := ⟨⟨_, Try.underlying30⟩, by kernel_rfl⟩
theorem HdB_isS_32 : IsS Try.prog 32 2 := ⟨⟨_, Try.underlying32⟩, by kernel_rfl⟩
theorem rsize_miss {w : World} {ss ls last ca : Nat} {so : Option Addr} {ds : List Ob} (hO : RO w so ds) (hol : ds.length ≤ 1000000) (hq : ∀ d ∈ ds, d.p + d.ws.length ≤ 1000000) {x : Int} (hx : ixO x ds = -1) : Calls Try.prog 15 #[.agg #[.int .i64 ((ss : Nat) : Int), .int .i64 ((ls : Nat) : Int), .int .i64 ((last : Nat) : Int), .slice so ds.length ca], .int .i64 x] w fun e w' => e = .returned (.tuple #[.int .i64 0, .int .i64 7]) ∧ Below w.heap.size w w' := by
 have M : Mg w w ([]) := Mg.start w
 refine qp (l := [(0, .agg #[.int .i64 (((ss : Nat) : Int)), .int .i64 (((ls : Nat) : Int)), .int .i64 (((last : Nat) : Int)), .slice so ds.length ca]), (1, .int .i64 x)]) Try.func15 rfl Try.ntmps15 rfl rfl ?_
 intro Q hret hnorm hP a A
 refine wsk fun K1 hK1 => wrl (qt (vs := [.int .i64 (((ss : Nat) : Int)), .int .i64 (((ls : Nat) : Int)), .int .i64 (((last : Nat) : Int)), .slice so ds.length ca]) (t := 30) A M rfl rfl rfl pg (qw rfl rfl) (by decide) ?_)
 intro g2 w3 M a A
 iterate 2 refine sda A λa A↦?_
 refine qb (hK1 _ _ (wsk fun K4 hK4 => wrl (sdo A (qq M HdB_isS_30 rfl 0 rfl (cs := [.int .i64 (((ss : Nat) : Int)), .int .i64 (((ls : Nat) : Int)), .int .i64 (((last : Nat) : Int)), .slice so ds.length ca]) rfl rfl) λa A↦?_)))
 refine sdm A λa A↦?_
 refine gcl A M (ef rfl rfl) (ja (hO.below M.bel) hol hq) fun w6 hb5 M a A => ?_
 refine sda A λa A↦?_
 refine qb (hK4 _ _ (wsk fun K7 hK7 => wsk fun K8 hK8 => wrl (sdm A λa A↦?_)))
 refine sdo (v := .bool true) A (qe rfl rfl (fun w => (qm w).trans (by rw [show (decide (ixO x ds < 0)) = true from (decide_eq_true (by rw [hx]; decide))]))) λa A↦?_
 refine qb (hK8 _ _ (wp_cond_true (A.ev rfl) ?_))
 refine wsk fun K9 hK9 => wrl ?_
 iterate 2 refine sda A λa A↦?_
 refine qb (hK9 _ _ (wp_ret (hret _ _ (en2 A rfl (qi rfl) (qi rfl) ?_))))
 exact ⟨rfl, M.bel⟩
theorem rsize_hit {w : World} {ss ls last ca : Nat} {so : Option Addr} {ds : List Ob} (hO : RO w so ds) (hol : ds.length ≤ 1000000) (hq : ∀ d ∈ ds, d.p + d.ws.length ≤ 1000000) {x : Int} {k : Nat} {d : Ob} (hx : ixO x ds = ((k : Nat) : Int)) (hk : ds[k]? = some d) : Calls Try.prog 15 #[.agg #[.int .i64 ((ss : Nat) : Int), .int .i64 ((ls : Nat) : Int), .int .i64 ((last : Nat) : Int), .slice so ds.length ca], .int .i64 x] w fun e w' => e = .returned (.tuple #[.int .i64 ((d.ws.length : Nat) : Int), .int .i64 0]) ∧ Below w.heap.size w w' := by
 have hkl := (List.getElem?_eq_some_iff.1 hk).1
 have hkt : (ixO x ds).toNat = k := by rw [hx]; rfl
 have M : Mg w w ([]) := Mg.start w
 refine qp (l := [(0, .agg #[.int .i64 (((ss : Nat) : Int)), .int .i64 (((ls : Nat) : Int)), .int .i64 (((last : Nat) : Int)), .slice so ds.length ca]), (1, .int .i64 x)]) Try.func15 rfl Try.ntmps15 rfl rfl ?_
 intro Q hret hnorm hP a A
 refine wsk fun K1 hK1 => wrl (qt (vs := [.int .i64 (((ss : Nat) : Int)), .int .i64 (((ls : Nat) : Int)), .int .i64 (((last : Nat) : Int)), .slice so ds.length ca]) (t := 30) A M rfl rfl rfl pg (qw rfl rfl) (by decide) ?_)
 intro g2 w3 M a A
 iterate 2 refine sda A λa A↦?_
 refine qb (hK1 _ _ (wsk fun K4 hK4 => wrl (sdo A (qq M HdB_isS_30 rfl 0 rfl (cs := [.int .i64 (((ss : Nat) : Int)), .int .i64 (((ls : Nat) : Int)), .int .i64 (((last : Nat) : Int)), .slice so ds.length ca]) rfl rfl) λa A↦?_)))
 refine sdm A λa A↦?_
 refine gcl A M (ef rfl rfl) (ja (hO.below M.bel) hol hq) fun w6 hb5 M a A => ?_
 refine sda A λa A↦?_
 refine qb (hK4 _ _ (wsk fun K7 hK7 => wsk fun K8 hK8 => wrl (sdm A λa A↦?_)))
 refine sdo (v := .bool false) A (qe rfl rfl (fun w => (qm w).trans (by rw [show (decide (ixO x ds < 0)) = false from (decide_eq_false (by rw [hx]; omega))]))) λa A↦?_
 refine qb (hK8 _ _ (wp_cond_false (A.ev rfl) ?_))
 refine wp_skip (hK7 _ _ (wsk fun K9 hK9 => wrl (sdo (v := .pointer (some ⟨g2, 3, none⟩)) A (qd HdB_fld_30_3 rfl rfl) λa A↦?_)))
 refine sdo A (qh M HdB_is1_28 rfl 0 rfl rfl) λa A↦?_
 refine sdm A λa A↦?_
 obtain ⟨bd10, od11, d12, hs13, hd14, hc15, hc16, hc17⟩ := hO.at_ (i := (ixO x ds).toNat) (by omega)
 have hm18 := List.mem_of_getElem? hd14
 have hq19 := hq d12 hm18
 refine sdo (v := .pointer (some ⟨bd10, od11 + ((ixO x ds).toNat) * 3, none⟩)) A (zt (k := (ixO x ds).toNat) Try.underlying28 (by kernel_rfl) rfl rfl (by first | rfl | omega) hs13 (by omega)) λa A↦?_
 refine sdo (v := .pointer (some ⟨bd10, od11 + ((ixO x ds).toNat) * 3 + 2, none⟩)) A (qd HdB_fld_73_2 rfl rfl) λa A↦?_
 refine sdo A (jf M hc17 HdB_is1_68 rfl) λa A↦?_
 refine sdo A (qv Try.underlying68 rfl) λa A↦?_
 iterate 2 refine sda A λa A↦?_
 refine qb (hK9 _ _ (wp_ret (hret _ _ (en2 A rfl (qi rfl) (qi rfl) ?_))))
 obtain rfl : d12 = d := by rw [hkt, hk] at hd14; exact (Option.some.inj hd14).symm
 exact ⟨rfl, M.bel⟩
theorem rplc_miss {w : World} {ss ls last ca : Nat} {so : Option Addr} {ds : List Ob} (hO : RO w so ds) (hol : ds.length ≤ 1000000) (hq : ∀ d ∈ ds, d.p + d.ws.length ≤ 1000000) {x : Int} (hx : ixO x ds = -1) : Calls Try.prog 17 #[.agg #[.int .i64 ((ss : Nat) : Int), .int .i64 ((ls : Nat) : Int), .int .i64 ((last : Nat) : Int), .slice so ds.length ca], .int .i64 x] w fun e w' => e = .returned (.tuple #[.int .i64 0, .int .i64 7]) ∧ Below w.heap.size w w' := by
 have M : Mg w w ([]) := Mg.start w
 refine qp (l := [(0, .agg #[.int .i64 (((ss : Nat) : Int)), .int .i64 (((ls : Nat) : Int)), .int .i64 (((last : Nat) : Int)), .slice so ds.length ca]), (1, .int .i64 x)]) Try.func17 rfl Try.ntmps17 rfl rfl ?_
 intro Q hret hnorm hP a A
 refine wsk fun K1 hK1 => wrl (qt (vs := [.int .i64 (((ss : Nat) : Int)), .int .i64 (((ls : Nat) : Int)), .int .i64 (((last : Nat) : Int)), .slice so ds.length ca]) (t := 30) A M rfl rfl rfl pg (qw rfl rfl) (by decide) ?_)
 intro g2 w3 M a A
 iterate 2 refine sda A λa A↦?_
 refine qb (hK1 _ _ (wsk fun K4 hK4 => wrl (sdo A (qq M HdB_isS_30 rfl 0 rfl (cs := [.int .i64 (((ss : Nat) : Int)), .int .i64 (((ls : Nat) : Int)), .int .i64 (((last : Nat) : Int)), .slice so ds.length ca]) rfl rfl) λa A↦?_)))
 refine sdm A λa A↦?_
 refine gcl A M (ef rfl rfl) (ja (hO.below M.bel) hol hq) fun w6 hb5 M a A => ?_
 refine sda A λa A↦?_
 refine qb (hK4 _ _ (wsk fun K7 hK7 => wsk fun K8 hK8 => wrl (sdm A λa A↦?_)))
 refine sdo (v := .bool true) A (qe rfl rfl (fun w => (qm w).trans (by rw [show (decide (ixO x ds < 0)) = true from (decide_eq_true (by rw [hx]; decide))]))) λa A↦?_
 refine qb (hK8 _ _ (wp_cond_true (A.ev rfl) ?_))
 refine wsk fun K9 hK9 => wrl ?_
 iterate 2 refine sda A λa A↦?_
 refine qb (hK9 _ _ (wp_ret (hret _ _ (en2 A rfl (qi rfl) (qi rfl) ?_))))
 exact ⟨rfl, M.bel⟩
theorem rplc_hit {w : World} {ss ls last ca : Nat} {so : Option Addr} {ds : List Ob} (hO : RO w so ds) (hol : ds.length ≤ 1000000) (hq : ∀ d ∈ ds, d.p + d.ws.length ≤ 1000000) {x : Int} {k : Nat} {d : Ob} (hx : ixO x ds = ((k : Nat) : Int)) (hk : ds[k]? = some d) : Calls Try.prog 17 #[.agg #[.int .i64 ((ss : Nat) : Int), .int .i64 ((ls : Nat) : Int), .int .i64 ((last : Nat) : Int), .slice so ds.length ca], .int .i64 x] w fun e w' => e = .returned (.tuple #[.int .i64 ((d.p : Nat) : Int), .int .i64 0]) ∧ Below w.heap.size w w' := by
 have hkl := (List.getElem?_eq_some_iff.1 hk).1
 have hkt : (ixO x ds).toNat = k := by rw [hx]; rfl
 have M : Mg w w ([]) := Mg.start w
 refine qp (l := [(0, .agg #[.int .i64 (((ss : Nat) : Int)), .int .i64 (((ls : Nat) : Int)), .int .i64 (((last : Nat) : Int)), .slice so ds.length ca]), (1, .int .i64 x)]) Try.func17 rfl Try.ntmps17 rfl rfl ?_
 intro Q hret hnorm hP a A
 refine wsk fun K1 hK1 => wrl (qt (vs := [.int .i64 (((ss : Nat) : Int)), .int .i64 (((ls : Nat) : Int)), .int .i64 (((last : Nat) : Int)), .slice so ds.length ca]) (t := 30) A M rfl rfl rfl pg (qw rfl rfl) (by decide) ?_)
 intro g2 w3 M a A
 iterate 2 refine sda A λa A↦?_
 refine qb (hK1 _ _ (wsk fun K4 hK4 => wrl (sdo A (qq M HdB_isS_30 rfl 0 rfl (cs := [.int .i64 (((ss : Nat) : Int)), .int .i64 (((ls : Nat) : Int)), .int .i64 (((last : Nat) : Int)), .slice so ds.length ca]) rfl rfl) λa A↦?_)))
 refine sdm A λa A↦?_
 refine gcl A M (ef rfl rfl) (ja (hO.below M.bel) hol hq) fun w6 hb5 M a A => ?_
 refine sda A λa A↦?_
 refine qb (hK4 _ _ (wsk fun K7 hK7 => wsk fun K8 hK8 => wrl (sdm A λa A↦?_)))
 refine sdo (v := .bool false) A (qe rfl rfl (fun w => (qm w).trans (by rw [show (decide (ixO x ds < 0)) = false from (decide_eq_false (by rw [hx]; omega))]))) λa A↦?_
 refine qb (hK8 _ _ (wp_cond_false (A.ev rfl) ?_))
 refine wp_skip (hK7 _ _ (wsk fun K9 hK9 => wrl (sdo (v := .pointer (some ⟨g2, 3, none⟩)) A (qd HdB_fld_30_3 rfl rfl) λa A↦?_)))
 refine sdo A (qh M HdB_is1_28 rfl 0 rfl rfl) λa A↦?_
 refine sdm A λa A↦?_
 obtain ⟨bd10, od11, d12, hs13, hd14, hc15, hc16, hc17⟩ := hO.at_ (i := (ixO x ds).toNat) (by omega)
 have hm18 := List.mem_of_getElem? hd14
 have hq19 := hq d12 hm18
 refine sdo (v := .pointer (some ⟨bd10, od11 + ((ixO x ds).toNat) * 3, none⟩)) A (zt (k := (ixO x ds).toNat) Try.underlying28 (by kernel_rfl) rfl rfl (by first | rfl | omega) hs13 (by omega)) λa A↦?_
 refine sdo (v := .pointer (some ⟨bd10, od11 + ((ixO x ds).toNat) * 3 + 1, none⟩)) A (qd HdB_fld_73_1 rfl rfl) λa A↦?_
 refine sdo A (jf M hc16 HdB_is1_3 rfl) λa A↦?_
 iterate 2 refine sda A λa A↦?_
 refine qb (hK9 _ _ (wp_ret (hret _ _ (en2 A rfl (qi rfl) (qi rfl) ?_))))
 obtain rfl : d12 = d := by rw [hkt, hk] at hd14; exact (Option.some.inj hd14).symm
 exact ⟨rfl, M.bel⟩
theorem ud {w : World} {ss ls last ca : Nat} {so : Option Addr} {ds : List Ob} (hO : RO w so ds) (hol : ds.length ≤ 1000000) (hq : ∀ d ∈ ds, d.p + d.ws.length ≤ 1000000) {x : Int} {i : Int} (hx : ixO x ds = -1) : Calls Try.prog 9 #[.agg #[.int .i64 ((ss : Nat) : Int), .int .i64 ((ls : Nat) : Int), .int .i64 ((last : Nat) : Int), .slice so ds.length ca], .int .i64 x, .int .i64 i] w fun e w' => e = .returned (.tuple #[.agg #[.int .i64 0, .bool false], .int .i64 7]) ∧ Below w.heap.size w w' := by
 have M : Mg w w ([]) := Mg.start w
 refine qp (l := [(0, .agg #[.int .i64 (((ss : Nat) : Int)), .int .i64 (((ls : Nat) : Int)), .int .i64 (((last : Nat) : Int)), .slice so ds.length ca]), (1, .int .i64 x), (2, .int .i64 i)]) Try.func9 rfl Try.ntmps9 rfl rfl ?_
 intro Q hret hnorm hP a A
 refine wsk fun K1 hK1 => wrl (qt (vs := [.int .i64 (((ss : Nat) : Int)), .int .i64 (((ls : Nat) : Int)), .int .i64 (((last : Nat) : Int)), .slice so ds.length ca]) (t := 30) A M rfl rfl rfl pg (qw rfl rfl) (by decide) ?_)
 intro g2 w3 M a A
 refine qt (vs := [.int .i64 0, .bool false]) (t := 32) A M rfl rfl rfl pg (ql (z := .agg #[.int .i64 0, .bool false]) (by kernel_rfl) rfl) (by decide) ?_
 intro g4 w5 M a A
 refine sda A λa A↦?_
 refine qb (hK1 _ _ (wsk fun K6 hK6 => wrl (sdo A (qq M HdB_isS_30 rfl 1 rfl (cs := [.int .i64 (((ss : Nat) : Int)), .int .i64 (((ls : Nat) : Int)), .int .i64 (((last : Nat) : Int)), .slice so ds.length ca]) rfl rfl) λa A↦?_)))
 refine sdm A λa A↦?_
 refine gcl A M (ef rfl rfl) (ja (hO.below M.bel) hol hq) fun w8 hb7 M a A => ?_
 refine sda A λa A↦?_
 refine qb (hK6 _ _ (wsk fun K9 hK9 => wsk fun K10 hK10 => wrl (sdm A λa A↦?_)))
 refine sdo (v := .bool true) A (qe rfl rfl (fun w => (qm w).trans (by rw [show (decide (ixO x ds < 0)) = true from (decide_eq_true (by rw [hx]; decide))]))) λa A↦?_
 refine qb (hK10 _ _ (wp_cond_true (A.ev rfl) ?_))
 refine wsk fun K11 hK11 => wrl (sdo (v := .agg #[.int .i64 0, .bool false]) A (zq rfl (fun w => by kernel_rfl)) λa A↦?_)
 refine qs (us := [.int .i64 0, .bool false]) (L' := (.obj g4 (.cells #[.int .i64 0, .bool false] 32) :: .obj g2 (.cells #[.int .i64 (((ss : Nat) : Int)), .int .i64 (((ls : Nat) : Int)), .int .i64 (((last : Nat) : Int)), .slice so ds.length ca] 30) :: [])) A M rfl rfl (qo rfl rfl rfl (by kernel_rfl) M 0 rfl rfl rfl) 0 rfl rfl rfl ?_
 intro w12 M
 refine sda A λa A↦?_
 refine qb (hK11 _ _ (wp_ret (hret _ _ (en2 A rfl (zk M HdB_isS_32 rfl 0 rfl (cs := [.int .i64 0, .bool false]) rfl rfl) (qi rfl) ?_))))
 exact ⟨rfl, M.bel⟩
theorem qce {w : World} {ss ls last ca : Nat} {so : Option Addr} {ds : List Ob} (hO : RO w so ds) (hol : ds.length ≤ 1000000) (hq : ∀ d ∈ ds, d.p + d.ws.length ≤ 1000000) {x : Int} {i : Int} {k : Nat} {d : Ob} (hx : ixO x ds = ((k : Nat) : Int)) (hk : ds[k]? = some d) (hi : i < 0 ∨ ((d.ws.length : Nat) : Int) ≤ i) : Calls Try.prog 9 #[.agg #[.int .i64 ((ss : Nat) : Int), .int .i64 ((ls : Nat) : Int), .int .i64 ((last : Nat) : Int), .slice so ds.length ca], .int .i64 x, .int .i64 i] w fun e w' => e = .returned (.tuple #[.agg #[.int .i64 0, .bool false], .int .i64 1]) ∧ Below w.heap.size w w' := by
 have hkl := (List.getElem?_eq_some_iff.1 hk).1
 have hkt : (ixO x ds).toNat = k := by rw [hx]; rfl
 have M : Mg w w ([]) := Mg.start w
 refine qp (l := [(0, .agg #[.int .i64 (((ss : Nat) : Int)), .int .i64 (((ls : Nat) : Int)), .int .i64 (((last : Nat) : Int)), .slice so ds.length ca]), (1, .int .i64 x), (2, .int .i64 i)]) Try.func9 rfl Try.ntmps9 rfl rfl ?_
 intro Q hret hnorm hP a A
 refine wsk fun K1 hK1 => wrl (qt (vs := [.int .i64 (((ss : Nat) : Int)), .int .i64 (((ls : Nat) : Int)), .int .i64 (((last : Nat) : Int)), .slice so ds.length ca]) (t := 30) A M rfl rfl rfl pg (qw rfl rfl) (by decide) ?_)
 intro g2 w3 M a A
 refine qt (vs := [.int .i64 0, .bool false]) (t := 32) A M rfl rfl rfl pg (ql (z := .agg #[.int .i64 0, .bool false]) (by kernel_rfl) rfl) (by decide) ?_
 intro g4 w5 M a A
 refine sda A λa A↦?_
 refine qb (hK1 _ _ (wsk fun K6 hK6 => wrl (sdo A (qq M HdB_isS_30 rfl 1 rfl (cs := [.int .i64 (((ss : Nat) : Int)), .int .i64 (((ls : Nat) : Int)), .int .i64 (((last : Nat) : Int)), .slice so ds.length ca]) rfl rfl) λa A↦?_)))
 refine sdm A λa A↦?_
 refine gcl A M (ef rfl rfl) (ja (hO.below M.bel) hol hq) fun w8 hb7 M a A => ?_
 refine sda A λa A↦?_
 refine qb (hK6 _ _ (wsk fun K9 hK9 => wsk fun K10 hK10 => wrl (sdm A λa A↦?_)))
 refine sdo (v := .bool false) A (qe rfl rfl (fun w => (qm w).trans (by rw [show (decide (ixO x ds < 0)) = false from (decide_eq_false (by rw [hx]; omega))]))) λa A↦?_
 refine qb (hK10 _ _ (wp_cond_false (A.ev rfl) ?_))
 refine wp_skip (hK9 _ _ (wsk fun K11 hK11 => wsk fun K12 hK12 => wrl (sdm A λa A↦?_)))
 rcases tf (decide (i < 0)) with hb13 | hb13
 ·
  have hb13' := of_decide_eq_true hb13
  refine sdc A qm hb13 λa A↦?_
  refine sdm A λa A↦?_
  iterate 9 refine zj A rfl rfl rfl λa A↦?_
  refine sdk (v := .bool true) A λa A↦?_
  refine qb (hK12 _ _ (wp_cond_true (A.ev rfl) ?_))
  refine wsk fun K14 hK14 => wrl (sdo (v := .agg #[.int .i64 0, .bool false]) A (zq rfl (fun w => by kernel_rfl)) λa A↦?_)
  refine qs (us := [.int .i64 0, .bool false]) (L' := (.obj g4 (.cells #[.int .i64 0, .bool false] 32) :: .obj g2 (.cells #[.int .i64 (((ss : Nat) : Int)), .int .i64 (((ls : Nat) : Int)), .int .i64 (((last : Nat) : Int)), .slice so ds.length ca] 30) :: [])) A M rfl rfl (qo rfl rfl rfl (by kernel_rfl) M 0 rfl rfl rfl) 0 rfl rfl rfl ?_
  intro w15 M
  refine sda A λa A↦?_
  refine qb (hK14 _ _ (wp_ret (hret _ _ (en2 A rfl (zk M HdB_isS_32 rfl 0 rfl (cs := [.int .i64 0, .bool false]) rfl rfl) (qi rfl) ?_))))
  exact ⟨rfl, M.bel⟩
 ·
  have hb13' := of_decide_eq_false hb13
  refine sdc A qm hb13 λa A↦?_
  iterate 2 refine sdm A λa A↦?_
  refine sdo (v := .pointer (some ⟨g2, 3, none⟩)) A (qd HdB_fld_30_3 rfl rfl) λa A↦?_
  refine sdo A (qh M HdB_is1_28 rfl 1 rfl rfl) λa A↦?_
  refine sdm A λa A↦?_
  obtain ⟨bd16, od17, d18, hs19, hd20, hc21, hc22, hc23⟩ := hO.at_ (i := (ixO x ds).toNat) (by omega)
  have hm24 := List.mem_of_getElem? hd20
  have hq25 := hq d18 hm24
  refine sdo (v := .pointer (some ⟨bd16, od17 + ((ixO x ds).toNat) * 3, none⟩)) A (zt (k := (ixO x ds).toNat) Try.underlying28 (by kernel_rfl) rfl rfl (by first | rfl | omega) hs19 (by omega)) λa A↦?_
  refine sdo (v := .pointer (some ⟨bd16, od17 + ((ixO x ds).toNat) * 3 + 2, none⟩)) A (qd HdB_fld_73_2 rfl rfl) λa A↦?_
  refine sdo A (jf M hc23 HdB_is1_68 rfl) λa A↦?_
  refine sdo A (qv Try.underlying68 rfl) λa A↦?_
  refine sdo (v := .bool true) A (qe rfl rfl (fun w => (vf w).trans (by rw [show (decide (((d18.ws.length : Nat) : Int) ≤ i)) = true from (decide_eq_true (by rw [hkt, hk] at hd20; rw [← Option.some.inj hd20]; omega))]))) λa A↦?_
  refine sdk (v := .bool true) A λa A↦?_
  refine qb (hK12 _ _ (wp_cond_true (A.ev rfl) ?_))
  refine wsk fun K26 hK26 => wrl (sdo (v := .agg #[.int .i64 0, .bool false]) A (zq rfl (fun w => by kernel_rfl)) λa A↦?_)
  refine qs (us := [.int .i64 0, .bool false]) (L' := (.obj g4 (.cells #[.int .i64 0, .bool false] 32) :: .obj g2 (.cells #[.int .i64 (((ss : Nat) : Int)), .int .i64 (((ls : Nat) : Int)), .int .i64 (((last : Nat) : Int)), .slice so ds.length ca] 30) :: [])) A M rfl rfl (qo rfl rfl rfl (by kernel_rfl) M 0 rfl rfl rfl) 0 rfl rfl rfl ?_
  intro w27 M
  refine sda A λa A↦?_
  refine qb (hK26 _ _ (wp_ret (hret _ _ (en2 A rfl (zk M HdB_isS_32 rfl 0 rfl (cs := [.int .i64 0, .bool false]) rfl rfl) (qi rfl) ?_))))
  exact ⟨rfl, M.bel⟩
theorem yv {w : World} {ss ls last ca : Nat} {so : Option Addr} {ds : List Ob} (hO : RO w so ds) (hol : ds.length ≤ 1000000) (hq : ∀ d ∈ ds, d.p + d.ws.length ≤ 1000000) {x : Int} {i : Int} {j k : Nat} {d : Ob} {c1 : Int} {c2 : Bool} (hx : ixO x ds = ((k : Nat) : Int)) (hk : ds[k]? = some d) (hj : i = ((j : Nat) : Int)) (hc : d.ws[j]? = some (c1, c2)) : Calls Try.prog 9 #[.agg #[.int .i64 ((ss : Nat) : Int), .int .i64 ((ls : Nat) : Int), .int .i64 ((last : Nat) : Int), .slice so ds.length ca], .int .i64 x, .int .i64 i] w fun e w' => e = .returned (.tuple #[.agg #[.int .i64 c1, .bool c2], .int .i64 0]) ∧ Below w.heap.size w w' := by
 have hkl := (List.getElem?_eq_some_iff.1 hk).1
 have hkt : (ixO x ds).toNat = k := by rw [hx]; rfl
 have hjl := (List.getElem?_eq_some_iff.1 hc).1
 have M : Mg w w ([]) := Mg.start w
 refine qp (l := [(0, .agg #[.int .i64 (((ss : Nat) : Int)), .int .i64 (((ls : Nat) : Int)), .int .i64 (((last : Nat) : Int)), .slice so ds.length ca]), (1, .int .i64 x), (2, .int .i64 i)]) Try.func9 rfl Try.ntmps9 rfl rfl ?_
 intro Q hret hnorm hP a A
 refine wsk fun K1 hK1 => wrl (qt (vs := [.int .i64 (((ss : Nat) : Int)), .int .i64 (((ls : Nat) : Int)), .int .i64 (((last : Nat) : Int)), .slice so ds.length ca]) (t := 30) A M rfl rfl rfl pg (qw rfl rfl) (by decide) ?_)
 intro g2 w3 M a A
 refine qt (vs := [.int .i64 0, .bool false]) (t := 32) A M rfl rfl rfl pg (ql (z := .agg #[.int .i64 0, .bool false]) (by kernel_rfl) rfl) (by decide) ?_
 intro g4 w5 M a A
 refine sda A λa A↦?_
 refine qb (hK1 _ _ (wsk fun K6 hK6 => wrl (sdo A (qq M HdB_isS_30 rfl 1 rfl (cs := [.int .i64 (((ss : Nat) : Int)), .int .i64 (((ls : Nat) : Int)), .int .i64 (((last : Nat) : Int)), .slice so ds.length ca]) rfl rfl) λa A↦?_)))
 refine sdm A λa A↦?_
 refine gcl A M (ef rfl rfl) (ja (hO.below M.bel) hol hq) fun w8 hb7 M a A => ?_
 refine sda A λa A↦?_
 refine qb (hK6 _ _ (wsk fun K9 hK9 => wsk fun K10 hK10 => wrl (sdm A λa A↦?_)))
 refine sdo (v := .bool false) A (qe rfl rfl (fun w => (qm w).trans (by rw [show (decide (ixO x ds < 0)) = false from (decide_eq_false (by rw [hx]; omega))]))) λa A↦?_
 refine qb (hK10 _ _ (wp_cond_false (A.ev rfl) ?_))
 refine wp_skip (hK9 _ _ (wsk fun K11 hK11 => wsk fun K12 hK12 => wrl (sdm A λa A↦?_)))
 refine sdo (v := .bool false) A (qe rfl rfl (fun w => (qm w).trans (by rw [show (decide (i < 0)) = false from (decide_eq_false (by omega))]))) λa A↦?_
 iterate 2 refine sdm A λa A↦?_
 refine sdo (v := .pointer (some ⟨g2, 3, none⟩)) A (qd HdB_fld_30_3 rfl rfl) λa A↦?_
 refine sdo A (qh M HdB_is1_28 rfl 1 rfl rfl) λa A↦?_
 refine sdm A λa A↦?_
 obtain ⟨bd13, od14, d15, hs16, hd17, hc18, hc19, hc20⟩ := hO.at_ (i := (ixO x ds).toNat) (by omega)
 have hm21 := List.mem_of_getElem? hd17
 have hq22 := hq d15 hm21
 refine sdo (v := .pointer (some ⟨bd13, od14 + ((ixO x ds).toNat) * 3, none⟩)) A (zt (k := (ixO x ds).toNat) Try.underlying28 (by kernel_rfl) rfl rfl (by first | rfl | omega) hs16 (by omega)) λa A↦?_
 refine sdo (v := .pointer (some ⟨bd13, od14 + ((ixO x ds).toNat) * 3 + 2, none⟩)) A (qd HdB_fld_73_2 rfl rfl) λa A↦?_
 refine sdo A (jf M hc20 HdB_is1_68 rfl) λa A↦?_
 refine sdo A (qv Try.underlying68 rfl) λa A↦?_
 refine sdo (v := .bool false) A (qe rfl rfl (fun w => (vf w).trans (by rw [show (decide (((d15.ws.length : Nat) : Int) ≤ i)) = false from (decide_eq_false (by rw [hkt, hk] at hd17; rw [← Option.some.inj hd17]; omega))]))) λa A↦?_
 refine sdk (v := .bool false) A λa A↦?_
 refine qb (hK12 _ _ (wp_cond_false (A.ev rfl) ?_))
 refine wp_skip (hK11 _ _ (wsk fun K23 hK23 => ?_))
 have hde : d = d15 := by rw [hkt, hk] at hd17; exact Option.some.inj hd17
 rw [hde] at hc hjl
 refine wrl (sdo (v := .pointer (some ⟨g2, 3, none⟩)) A (qd HdB_fld_30_3 rfl rfl) λa A↦?_)
 refine sdo A (qh M HdB_is1_28 rfl 1 rfl rfl) λa A↦?_
 refine sdm A λa A↦?_
 refine sdo (v := .pointer (some ⟨bd13, od14 + ((ixO x ds).toNat) * 3, none⟩)) A (zt (k := (ixO x ds).toNat) Try.underlying28 (by kernel_rfl) rfl rfl (by first | rfl | omega) hs16 (by omega)) λa A↦?_
 refine sdo (v := .pointer (some ⟨bd13, od14 + ((ixO x ds).toNat) * 3 + 2, none⟩)) A (qd HdB_fld_73_2 rfl rfl) λa A↦?_
 refine sdo A (jf M hc20 HdB_is1_68 rfl) λa A↦?_
 refine sdm A λa A↦?_
 obtain ⟨z24, c25, hw26, hc27, hc28⟩ := hO.word hm21 (k := (i).toNat) (by omega)
 refine sdo (v := .pointer (some ⟨d15.g, ((i).toNat) * 2, none⟩)) A (ze (k := (i).toNat) Try.underlying68 (by kernel_rfl) rfl rfl (by first | rfl | omega) (by omega)) λa A↦?_
 refine sdo A (qkd M hc27 hc28 HdB_isS_32 rfl) λa A↦?_
 refine qs (us := [.int .i64 z24, .bool c25]) (L' := (.obj g4 (.cells #[.int .i64 z24, .bool c25] 32) :: .obj g2 (.cells #[.int .i64 (((ss : Nat) : Int)), .int .i64 (((ls : Nat) : Int)), .int .i64 (((last : Nat) : Int)), .slice so ds.length ca] 30) :: [])) A M rfl rfl (qo rfl rfl rfl (by kernel_rfl) M 0 rfl rfl rfl) 0 rfl rfl rfl ?_
 intro w29 M
 refine sda A λa A↦?_
 refine qb (hK23 _ _ (wp_ret (hret _ _ (en2 A rfl (zk M HdB_isS_32 rfl 0 rfl (cs := [.int .i64 z24, .bool c25]) rfl rfl) (qi rfl) ?_))))
 obtain ⟨rfl, rfl⟩ : z24 = c1 ∧ c25 = c2 := by rw [show i.toNat = j by omega, hc] at hw26; cases hw26; exact ⟨rfl, rfl⟩
 exact ⟨rfl, M.bel⟩
theorem rfreeA {w : World} {ss ls last ca : Nat} {so : Option Addr} {ds : List Ob} (hO : RO w so ds) (hol : ds.length ≤ 1000000) (hq : ∀ d ∈ ds, d.p + d.ws.length ≤ 1000000) (hss : ss ≤ 1000000) (hls : ls ≤ 1000000) (hsm : zg ds ≤ 1000000) (hlm : je ds ≤ 1000000) : Calls Try.prog 19 #[.agg #[.int .i64 ((ss : Nat) : Int), .int .i64 ((ls : Nat) : Int), .int .i64 ((last : Nat) : Int), .slice so ds.length ca]] w fun e w' => e = .returned (.tuple #[.int .i64 (((ss : Nat) : Int) - ((zg ds : Nat) : Int)), .int .i64 (((ls : Nat) : Int) - ((je ds : Nat) : Int))]) ∧ Below w.heap.size w w' := by
 have M : Mg w w ([]) := Mg.start w
 refine qp (l := [(0, .agg #[.int .i64 (((ss : Nat) : Int)), .int .i64 (((ls : Nat) : Int)), .int .i64 (((last : Nat) : Int)), .slice so ds.length ca])]) Try.func19 rfl Try.ntmps19 rfl rfl ?_
 intro Q hret hnorm hP a A
 refine wsk fun K1 hK1 => wrl (qt (vs := [.int .i64 (((ss : Nat) : Int)), .int .i64 (((ls : Nat) : Int)), .int .i64 (((last : Nat) : Int)), .slice so ds.length ca]) (t := 30) A M rfl rfl rfl pg (qw rfl rfl) (by decide) ?_)
 intro g2 w3 M a A
 iterate 2 refine sda A λa A↦?_
 refine qb (hK1 _ _ (wsk fun K4 hK4 => zn (S := fun w1 => Mg w w1 (.obj g2 (.cells #[.int .i64 (((ss : Nat) : Int)), .int .i64 (((ls : Nat) : Int)), .int .i64 (((last : Nat) : Int)), .slice so ds.length ca] 30) :: [])) (by kernel_rfl) ?_))
 replace M := M.drew
 refine qf (v := .pointer (some ⟨g2, 0, none⟩)) A 0 rfl rfl rfl rfl hP (M.sub (cc (List.nil_sublist _))) (fun w1 M => qd HdB_fld_30_0 rfl rfl) λa A↦?_
 refine qf A 1 rfl rfl rfl rfl hP (M.sub (cc (List.nil_sublist _))) (fun w1 M => qh M HdB_is1_3 rfl 0 rfl rfl) λa A↦?_
 refine qf (v := .pointer (some ⟨g2, 1, none⟩)) A 2 rfl rfl rfl rfl hP (M.sub (cc (List.nil_sublist _))) (fun w1 M => qd HdB_fld_30_1 rfl rfl) λa A↦?_
 refine qf A 3 rfl rfl rfl rfl hP (M.sub (cc (List.nil_sublist _))) (fun w1 M => qh M HdB_is1_3 rfl 0 rfl rfl) λa A↦?_
 refine qf A 4 rfl rfl rfl rfl hP (M.sub (cc (List.nil_sublist _))) (fun w1 M => qz rfl) λa A↦?_
 refine qf A 5 rfl rfl rfl rfl hP (M.sub (cc (List.nil_sublist _))) (fun w1 M => qz rfl) λa A↦?_
 refine zi (by kernel_rfl) ?_
 refine hK4 _ _ (wsk fun K5 hK5 => wsk fun K6 hK6 => wrl (sda A λa A↦?_))
 refine qb (hK6 _ _ (wp_block (zh (fun m_ a w1 => ∃ (i : Nat) (ya : Int) (yb : Int), m_ = 1 + (ds.length - i) ∧ (i ≤ ds.length ∧ ya = ((ss : Nat) : Int) - ((zg (ds.take i) : Nat) : Int) ∧ yb = ((ls : Nat) : Int) - ((je (ds.take i) : Nat) : Int)) ∧ Sl a 36 [(0, .agg #[.int .i64 (((ss : Nat) : Int)), .int .i64 (((ls : Nat) : Int)), .int .i64 (((last : Nat) : Int)), .slice so ds.length ca]), (1, .pointer (some ⟨g2, 0, none⟩)), (2, .int .i64 0), (3, .int .i64 0), (4, .int .i64 ya), (5, .int .i64 yb), (6, .int .i64 (((i : Nat) : Int))), (8, .pointer (some ⟨g2, 0, none⟩)), (9, .int .i64 (((ss : Nat) : Int))), (10, .pointer (some ⟨g2, 1, none⟩)), (11, .int .i64 (((ls : Nat) : Int)))] ∧ Mg w w1 (.obj g2 (.cells #[.int .i64 (((ss : Nat) : Int)), .int .i64 (((ls : Nat) : Int)), .int .i64 (((last : Nat) : Int)), .slice so ds.length ca] 30) :: [])) _ ⟨0, ((ss : Nat) : Int), ((ls : Nat) : Int), rfl, ⟨Nat.zero_le _, by simp [zg], by simp [je]⟩, A.keep _ (by repeat' constructor), M⟩ ?_)))
 clear M A
 rintro m_ a w7 ⟨i, ya, yb, rfl, hinv9, A, M⟩ K8 hK8
 obtain ⟨hi0, hya, hyb⟩ := hinv9
 have hus := qfa ds i
 have hul := sumL_part ds i
 refine wsk fun K10 hK10 => wsk fun K11 hK11 => wrl (sdm A λa A↦?_)
 refine sdo (v := .pointer (some ⟨g2, 3, none⟩)) A (qd HdB_fld_30_3 rfl rfl) λa A↦?_
 refine sdo A (qh M HdB_is1_28 rfl 0 rfl rfl) λa A↦?_
 refine sdo A (qv Try.underlying28 rfl) λa A↦?_
 rcases tf (decide (((i : Nat) : Int) < ((ds.length : Nat) : Int))) with hb12 | hb12
 ·
  have hb12' := of_decide_eq_true hb12
  refine sdc A qm hb12 λa A↦?_
  refine qb (hK11 _ _ (wp_cond_true (A.ev rfl) ?_))
  refine wp_skip (hK10 _ _ (wsk fun K13 hK13 => wp_block (wsk fun K14 hK14 => wrl (sdo (v := .pointer (some ⟨g2, 3, none⟩)) A (qd HdB_fld_30_3 rfl rfl) λa A↦?_))))
  refine sdo A (qh M HdB_is1_28 rfl 0 rfl rfl) λa A↦?_
  refine sdm A λa A↦?_
  obtain ⟨bd15, od16, d17, hs18, hd19, hc20, hc21, hc22⟩ := hO.at_ (i := i) (by omega)
  have hm23 := List.mem_of_getElem? hd19
  have hq24 := hq d17 hm23
  refine sdo (v := .pointer (some ⟨bd15, od16 + i * 3, none⟩)) A (zt (k := i) Try.underlying28 (by kernel_rfl) rfl rfl (by first | rfl | omega) hs18 (by omega)) λa A↦?_
  refine sdo (v := .pointer (some ⟨bd15, od16 + i * 3 + 2, none⟩)) A (qd HdB_fld_73_2 rfl rfl) λa A↦?_
  refine sdo A (jf M hc22 HdB_is1_68 rfl) λa A↦?_
  refine sdo A (qv Try.underlying68 rfl) λa A↦?_
  refine sda A λa A↦?_
  refine qb (hK14 _ _ (wsk fun K25 hK25 => wrl (sdm A λa A↦?_)))
  rcases tf (decide (16 < ((d17.ws.length : Nat) : Int))) with hb26 | hb26
  ·
   have hb26' := of_decide_eq_true hb26
   refine gcl A M (ef rfl rfl) (jg hb26) fun w28 hb27 M a A => ?_
   refine qb (hK25 _ _ (wp_cond_true (A.ev rfl) ?_))
   refine wrl ?_
   iterate 2 refine sdm A λa A↦?_
   refine sdo (v := .int .i64 (yb - ((d17.ws.length : Nat) : Int))) A (qe rfl rfl (ar_sub (in_i64 (by omega) (by omega)))) λa A↦?_
   refine sda A λa A↦?_
   refine qb (hK13 _ _ (wrl (sdm A λa A↦?_)))
   refine sdo (v := .int .i64 (((i + 1 : Nat) : Int))) A (qe rfl rfl (ar_add ((in_i64 (by omega) (by omega)).trans (by omega)))) λa A↦?_
   refine sda A λa A↦?_
   refine qb ?_
   refine hK8 _ _ _ (by omega) ⟨i + 1, ya, yb - ((d17.ws.length : Nat) : Int), rfl, ⟨by omega, by rw [kp hd19, if_pos (show big d17 = true from hb26), Nat.add_zero]; exact hya, by rw [qej hd19, if_pos (show big d17 = true from hb26)]; omega⟩, A.keep _ (by repeat' constructor), M⟩
  ·
   have hb26' := of_decide_eq_false hb26
   refine gcl A M (ef rfl rfl) (jg hb26) fun w30 hb29 M a A => ?_
   refine qb (hK25 _ _ (wp_cond_false (A.ev rfl) ?_))
   refine wrl ?_
   iterate 2 refine sdm A λa A↦?_
   refine sdo (v := .int .i64 (ya - ((d17.ws.length : Nat) : Int))) A (qe rfl rfl (ar_sub (in_i64 (by omega) (by omega)))) λa A↦?_
   refine sda A λa A↦?_
   refine qb (hK13 _ _ (wrl (sdm A λa A↦?_)))
   refine sdo (v := .int .i64 (((i + 1 : Nat) : Int))) A (qe rfl rfl (ar_add ((in_i64 (by omega) (by omega)).trans (by omega)))) λa A↦?_
   refine sda A λa A↦?_
   refine qb ?_
   refine hK8 _ _ _ (by omega) ⟨i + 1, ya - ((d17.ws.length : Nat) : Int), yb, rfl, ⟨by omega, by rw [kp hd19, if_neg (by rw [show big d17 = false from hb26]; decide)]; omega, by rw [qej hd19, if_neg (by rw [show big d17 = false from hb26]; decide), Nat.add_zero]; exact hyb⟩, A.keep _ (by repeat' constructor), M⟩
 ·
  have hb12' := of_decide_eq_false hb12
  refine sdc A qm hb12 λa A↦?_
  refine qb (hK11 _ _ (wp_cond_false (A.ev rfl) ?_))
  refine wp_exit (hK5 _ _ (wsk fun K31 hK31 => wrl ?_))
  iterate 2 refine sdm A λa A↦?_
  iterate 2 refine sda A λa A↦?_
  refine qb (hK31 _ _ (wp_ret (hret _ _ (en2 A rfl (qi rfl) (qi rfl) ?_))))
  refine ⟨?_, M.bel⟩
  rw [hya, hyb, List.take_of_length_le (by omega)]
theorem qke (l : List Int) : ∀ u ∈ qg l, u.oneCell' = true := by
 intro u hu
 obtain ⟨x, _, rfl⟩ := List.mem_map.1 hu
 rfl
theorem hxs_take {ds : List Ob} {i : Nat} {d : Ob} (h : ds[i]? = some d) : hxs (ds.take (i + 1)) = hxs (ds.take i) ++ [((d.x : Nat) : Int)] := by
 unfold hxs
 rw [List.take_add_one, h, List.map_append]
 rfl
theorem rlive_any {w : World} {ss ls last ca : Nat} {so : Option Addr} {ds : List Ob} (hO : RO w so ds) (hol : ds.length ≤ 1000000) (hq : ∀ d ∈ ds, d.p + d.ws.length ≤ 1000000) : Calls Try.prog 22 #[.agg #[.int .i64 ((ss : Nat) : Int), .int .i64 ((ls : Nat) : Int), .int .i64 ((last : Nat) : Int), .slice so ds.length ca]] w fun e w' => ∃ so' ca', e = .returned (.slice so' (hxs ds).length ca') ∧ Mg w w' [.row 3 1 (.slice so' (hxs ds).length ca') (hxs ds).length (qg (hxs ds))] := by
 have M : Mg w w ([]) := Mg.start w
 refine qp (l := [(0, .agg #[.int .i64 (((ss : Nat) : Int)), .int .i64 (((ls : Nat) : Int)), .int .i64 (((last : Nat) : Int)), .slice so ds.length ca])]) Try.func22 rfl Try.ntmps22 rfl rfl ?_
 intro Q hret hnorm hP a A
 refine wsk fun K1 hK1 => wrl (qt (vs := [.int .i64 (((ss : Nat) : Int)), .int .i64 (((ls : Nat) : Int)), .int .i64 (((last : Nat) : Int)), .slice so ds.length ca]) (t := 30) A M rfl rfl rfl pg (qw rfl rfl) (by decide) ?_)
 intro g2 w3 M a A
 refine sda A λa A↦?_
 refine qb (hK1 _ _ (wsk fun K4 hK4 => wrl (jm (e := 3) (sz := 1) (m := 0) (vs := qg []) A M rfl rfl rfl (qx rfl (by kernel_rfl)) rfl rfl (.inl (by decide)) ?_)))
 intro g5 w6 M a A
 refine sda A λa A↦?_
 refine qb (hK4 _ _ (wsk fun K7 hK7 => wsk fun K8 hK8 => wrl (sda A λa A↦?_)))
 refine qb (hK8 _ _ (wp_block (zh (fun m_ a w1 => ∃ (i : Nat) (xs : List Int) (so_ : Option Addr) (ca_ : Nat), m_ = 1 + (ds.length - i) ∧ (i ≤ ds.length ∧ xs = hxs (ds.take i)) ∧ Sl a 23 [(0, .agg #[.int .i64 (((ss : Nat) : Int)), .int .i64 (((ls : Nat) : Int)), .int .i64 (((last : Nat) : Int)), .slice so ds.length ca]), (1, .pointer (some ⟨g2, 0, none⟩)), (2, .slice none 0 0), (3, .slice so_ xs.length ca_), (4, .int .i64 (((i : Nat) : Int))), (5, .slice (some ⟨g5, 0, none⟩) 0 0)] ∧ Mg w w1 (.row 3 1 (.slice so_ xs.length ca_) xs.length (qg xs) :: .obj g2 (.cells #[.int .i64 (((ss : Nat) : Int)), .int .i64 (((ls : Nat) : Int)), .int .i64 (((last : Nat) : Int)), .slice so ds.length ca] 30) :: [])) _ ⟨0, [], _, 0, rfl, ⟨Nat.zero_le _, rfl⟩, A.keep _ (by repeat' constructor), M⟩ ?_)))
 clear M A
 rintro m_ a w9 ⟨i, xs, so_, ca_, rfl, hinv11, A, M⟩ K10 hK10
 obtain ⟨hi0, hxs9⟩ := hinv11
 have hLx : xs.length ≤ i := by rw [hxs9, qhc, List.length_take]; omega
 refine wsk fun K12 hK12 => wsk fun K13 hK13 => wrl (sdm A λa A↦?_)
 refine sdo (v := .pointer (some ⟨g2, 3, none⟩)) A (qd HdB_fld_30_3 rfl rfl) λa A↦?_
 refine sdo A (qh M HdB_is1_28 rfl 1 rfl rfl) λa A↦?_
 refine sdo A (qv Try.underlying28 rfl) λa A↦?_
 rcases tf (decide (((i : Nat) : Int) < ((ds.length : Nat) : Int))) with hb14 | hb14
 ·
  have hb14' := of_decide_eq_true hb14
  refine sdc A qm hb14 λa A↦?_
  refine qb (hK13 _ _ (wp_cond_true (A.ev rfl) ?_))
  refine wp_skip (hK12 _ _ (wsk fun K15 hK15 => wp_block (wrl (sdm A λa A↦?_))))
  refine sdo (v := .pointer (some ⟨g2, 3, none⟩)) A (qd HdB_fld_30_3 rfl rfl) λa A↦?_
  refine sdo A (qh M HdB_is1_28 rfl 1 rfl rfl) λa A↦?_
  refine sdm A λa A↦?_
  obtain ⟨bd16, od17, d18, hs19, hd20, hc21, hc22, hc23⟩ := hO.at_ (i := i) (by omega)
  have hm24 := List.mem_of_getElem? hd20
  have hq25 := hq d18 hm24
  refine sdo (v := .pointer (some ⟨bd16, od17 + i * 3, none⟩)) A (zt (k := i) Try.underlying28 (by kernel_rfl) rfl rfl (by first | rfl | omega) hs19 (by omega)) λa A↦?_
  refine sdo (v := .pointer (some ⟨bd16, od17 + i * 3, none⟩)) A (qd HdB_fld_73_0 rfl rfl) λa A↦?_
  refine sdo A (jf M hc21 HdB_is1_3 rfl) λa A↦?_
  refine jm (e := 3) (sz := 1) (m := 1) (vs := qg [((d18.x : Nat) : Int)]) A M rfl rfl rfl (qx rfl (by kernel_rfl)) rfl rfl (.inl (by decide)) ?_
  intro g26 w27 M a A
  refine zz (e := 3) (sz := 1) (k := 1) (q := xs.length) (m := 1) (xs := qg xs) (news := qg [((d18.x : Nat) : Int)]) (L' := fun v28 => (.row 3 1 (.slice (some ⟨g26, 0, none⟩) 1 1) 1 (qg [((d18.x : Nat) : Int)]) :: .row 3 1 (v28) (xs.length + 1) (qg xs ++ qg [((d18.x : Nat) : Int)]) :: .obj g2 (.cells #[.int .i64 (((ss : Nat) : Int)), .int .i64 (((ls : Nat) : Int)), .int .i64 (((last : Nat) : Int)), .slice so ds.length ca] 30) :: [])) A rfl rfl rfl (xi (z := .int .i64 0) (sz := 1) (by_ := 8) Try.underlying33 (by kernel_rfl) rfl rfl rfl M 1 rfl rfl rfl (qjc [((d18.x : Nat) : Int)]) (vi (M.has 0 rfl)) (qke [((d18.x : Nat) : Int)]) (by first | omega | (simp only [List.length_nil]; omega))) (fun _ => rfl) ?_
  intro v28 w29 M a A
  replace M : Mg w w29 (.row 3 1 (.slice (some ⟨g26, 0, none⟩) 1 1) 1 (qg [((d18.x : Nat) : Int)]) :: .row 3 1 (v28) ((xs ++ [((d18.x : Nat) : Int)]).length) (qg (xs ++ [((d18.x : Nat) : Int)])) :: .obj g2 (.cells #[.int .i64 (((ss : Nat) : Int)), .int .i64 (((ls : Nat) : Int)), .int .i64 (((last : Nat) : Int)), .slice so ds.length ca] 30) :: []) := by
   rw [vq, List.length_append]; exact M
  obtain ⟨so30, ca31, rfl⟩ := zx (M.has 1 rfl)
  refine sda A λa A↦?_
  refine qb (hK15 _ _ (wrl (sdm A λa A↦?_)))
  refine sdo (v := .int .i64 (((i + 1 : Nat) : Int))) A (qe rfl rfl (ar_add ((in_i64 (by omega) (by omega)).trans (by omega)))) λa A↦?_
  refine sda A λa A↦?_
  refine qb ?_
  replace M : Mg w w29 (.obj g2 (.cells #[.int .i64 (((ss : Nat) : Int)), .int .i64 (((ls : Nat) : Int)), .int .i64 (((last : Nat) : Int)), .slice so ds.length ca] 30) :: .row 3 1 (.slice (some ⟨g26, 0, none⟩) 1 1) 1 (qg [((d18.x : Nat) : Int)]) :: .row 3 1 (.slice so30 ((xs ++ [((d18.x : Nat) : Int)]).length) ca31) ((xs ++ [((d18.x : Nat) : Int)]).length) (qg (xs ++ [((d18.x : Nat) : Int)])) :: []) := M.bring 2 rfl rfl
  replace M : Mg w w29 (.row 3 1 (.slice so30 ((xs ++ [((d18.x : Nat) : Int)]).length) ca31) ((xs ++ [((d18.x : Nat) : Int)]).length) (qg (xs ++ [((d18.x : Nat) : Int)])) :: .obj g2 (.cells #[.int .i64 (((ss : Nat) : Int)), .int .i64 (((ls : Nat) : Int)), .int .i64 (((last : Nat) : Int)), .slice so ds.length ca] 30) :: .row 3 1 (.slice (some ⟨g26, 0, none⟩) 1 1) 1 (qg [((d18.x : Nat) : Int)]) :: []) := M.bring 2 rfl rfl
  replace M : Mg w w29 (.row 3 1 (.slice so30 ((xs ++ [((d18.x : Nat) : Int)]).length) ca31) ((xs ++ [((d18.x : Nat) : Int)]).length) (qg (xs ++ [((d18.x : Nat) : Int)])) :: .obj g2 (.cells #[.int .i64 (((ss : Nat) : Int)), .int .i64 (((ls : Nat) : Int)), .int .i64 (((last : Nat) : Int)), .slice so ds.length ca] 30) :: []) := by
   have h9 := M.sub (cc (cc (cn (.refl _))))
   exact h9
  refine hK10 _ _ _ (by omega) ⟨i + 1, xs ++ [((d18.x : Nat) : Int)], so30, ca31, rfl, ⟨by omega, by rw [hxs_take hd20, hxs9]⟩, A.keep _ (by repeat' constructor), M⟩
 ·
  have hb14' := of_decide_eq_false hb14
  refine sdc A qm hb14 λa A↦?_
  refine qb (hK13 _ _ (wp_cond_false (A.ev rfl) ?_))
  refine wp_exit (hK7 _ _ (wsk fun K32 hK32 => wrl (sdm A λa A↦?_)))
  refine sda A λa A↦?_
  refine qb (hK32 _ _ (wp_ret (hret _ _ (en1 A rfl (qi rfl) ?_))))
  replace M : Mg w w9 (.row 3 1 (.slice so_ xs.length ca_) xs.length (qg xs) :: []) := by
   have h9 := M.sub (cc (cn (.refl _)))
   exact h9
  have e9 : xs = hxs ds := by rw [hxs9, List.take_of_length_le (by omega)]
  subst e9
  exact ⟨_, _, rfl, M⟩
theorem sameI_any {w : World} {s1 s2 : Option Addr} {c1 c2 : Nat} {l1 l2 : List Int} (h1 : Ri w s1 l1) (h2 : Ri w s2 l2) (hl1 : l1.length ≤ 1000000) (hl2 : l2.length ≤ 1000000) : Calls Try.prog 20 #[.slice s1 l1.length c1, .slice s2 l2.length c2] w fun e w' => e = .returned (.bool (decide (l1 = l2))) ∧ Below w.heap.size w w' := by
 have M : Mg w w ([]) := Mg.start w
 refine qp (l := [(0, .slice s1 l1.length c1), (1, .slice s2 l2.length c2)]) Try.func20 rfl Try.ntmps20 rfl rfl ?_
 intro Q hret hnorm hP a A
 refine wsk fun K1 hK1 => wrl (sda A λa A↦?_)
 refine qb (hK1 _ _ (wsk fun K2 hK2 => wsk fun K3 hK3 => wrl (sdm A λa A↦?_)))
 refine sdo A (qv Try.underlying33 rfl) λa A↦?_
 refine sdm A λa A↦?_
 refine sdo A (qv Try.underlying33 rfl) λa A↦?_
 rcases tf ((((l1.length : Nat) : Int) != ((l2.length : Nat) : Int))) with hb4 | hb4
 ·
  have hb4' := bne_iff_ne.1 hb4
  refine sdc A jd hb4 λa A↦?_
  refine qb (hK3 _ _ (wp_cond_true (A.ev rfl) ?_))
  refine wsk fun K5 hK5 => wrl (sda A λa A↦?_)
  refine qb (hK5 _ _ (wp_ret (hret _ _ (en1 A rfl (qi rfl) ?_))))
  refine ⟨?_, M.bel⟩
  rw [decide_eq_false (fun e9 => by rw [e9] at hb4'; exact hb4' rfl)]
 ·
  have hb4' := bne_eq_false_iff_eq.1 hb4
  refine sdc A jd hb4 λa A↦?_
  refine qb (hK3 _ _ (wp_cond_false (A.ev rfl) ?_))
  refine wp_skip (hK2 _ _ (wsk fun K6 hK6 => wsk fun K7 hK7 => wrl (sda A λa A↦?_)))
  refine qb (hK7 _ _ (wp_block (zh (fun m_ a w1 => ∃ (i : Nat), m_ = 1 + (l1.length - i) ∧ (i ≤ l1.length ∧ ∀ j : Nat, j < i → l1[j]? = l2[j]?) ∧ Sl a 26 [(0, .slice s1 l1.length c1), (1, .slice s2 l2.length c2), (5, .int .i64 (((i : Nat) : Int))), (6, .slice s1 l1.length c1), (7, .int .i64 (((l1.length : Nat) : Int))), (8, .slice s2 l2.length c2), (9, .int .i64 (((l2.length : Nat) : Int))), (10, .bool false)] ∧ Mg w w1 ([])) _ ⟨0, rfl, ⟨Nat.zero_le _, fun j h => absurd h (Nat.not_lt_zero _)⟩, A.keep _ (by repeat' constructor), M⟩ ?_)))
  clear M A
  rintro m_ a w8 ⟨i, rfl, hinv10, A, M⟩ K9 hK9
  obtain ⟨hi0, hin9⟩ := hinv10
  refine wsk fun K11 hK11 => wsk fun K12 hK12 => wrl ?_
  iterate 2 refine sdm A λa A↦?_
  refine sdo A (qv Try.underlying33 rfl) λa A↦?_
  rcases tf (decide (((i : Nat) : Int) < ((l1.length : Nat) : Int))) with hb13 | hb13
  ·
   have hb13' := of_decide_eq_true hb13
   refine sdc A qm hb13 λa A↦?_
   refine qb (hK12 _ _ (wp_cond_true (A.ev rfl) ?_))
   refine wp_skip (hK11 _ _ (wsk fun K14 hK14 => wp_block (wsk fun K15 hK15 => zn (S := fun w1 => Mg w w1 ([])) (by kernel_rfl) ?_)))
   replace M := M.drew
   refine qf A 0 rfl rfl rfl rfl hP (M.sub (List.nil_sublist _)) (fun w1 M => qn rfl) λa A↦?_
   refine qf A 1 rfl rfl rfl rfl hP (M.sub (List.nil_sublist _)) (fun w1 M => qn rfl) λa A↦?_
   obtain ⟨bi16, oi17, z18, hs19, hc20, hi21⟩ := h1.at_ (i := i) (by omega)
   refine qf (v := .pointer (some ⟨bi16, oi17 + i, none⟩)) A 2 rfl rfl rfl rfl hP (M.sub (List.nil_sublist _)) (fun w1 M => ji (k := i) Try.underlying33 (by kernel_rfl) rfl rfl (by first | rfl | omega) hs19 (by omega)) λa A↦?_
   refine qf A 3 rfl rfl rfl rfl hP (M.sub (List.nil_sublist _)) (fun w1 M => jf M hc20 HdB_is1_3 rfl) λa A↦?_
   refine qf A 4 rfl rfl rfl rfl hP (M.sub (List.nil_sublist _)) (fun w1 M => qn rfl) λa A↦?_
   refine qf A 5 rfl rfl rfl rfl hP (M.sub (List.nil_sublist _)) (fun w1 M => qn rfl) λa A↦?_
   obtain ⟨bi22, oi23, z24, hs25, hc26, hi27⟩ := h2.at_ (i := i) (by omega)
   refine qf (v := .pointer (some ⟨bi22, oi23 + i, none⟩)) A 6 rfl rfl rfl rfl hP (M.sub (List.nil_sublist _)) (fun w1 M => ji (k := i) Try.underlying33 (by kernel_rfl) rfl rfl (by first | rfl | omega) hs25 (by omega)) λa A↦?_
   refine qf A 7 rfl rfl rfl rfl hP (M.sub (List.nil_sublist _)) (fun w1 M => jf M hc26 HdB_is1_3 rfl) λa A↦?_
   rcases tf ((z18 != z24)) with hb28 | hb28
   ·
    have hb28' := bne_iff_ne.1 hb28
    refine qf (v := .bool true) A 8 rfl rfl rfl rfl hP (M.sub (List.nil_sublist _)) (fun w1 M => qe rfl rfl (fun w => (jd w).trans (by rw [hb28]))) λa A↦?_
    refine zi (by kernel_rfl) ?_
    refine hK15 _ _ (wp_cond_true (A.ev rfl) ?_)
    refine wsk fun K29 hK29 => wrl (sda A λa A↦?_)
    refine qb (hK29 _ _ (wp_ret (hret _ _ (en1 A rfl (qi rfl) ?_))))
    refine ⟨?_, M.bel⟩
    rw [decide_eq_false (fun e9 => hb28' (by rw [e9, hi27] at hi21; exact (Option.some.inj hi21).symm))]
   ·
    have hb28' := bne_eq_false_iff_eq.1 hb28
    refine qf (v := .bool false) A 8 rfl rfl rfl rfl hP (M.sub (List.nil_sublist _)) (fun w1 M => qe rfl rfl (fun w => (jd w).trans (by rw [hb28]))) λa A↦?_
    refine zi (by kernel_rfl) ?_
    refine hK15 _ _ (wp_cond_false (A.ev rfl) ?_)
    refine wp_skip (hK14 _ _ (wrl (sdm A λa A↦?_)))
    refine sdo (v := .int .i64 (((i + 1 : Nat) : Int))) A (qe rfl rfl (ar_add ((in_i64 (by omega) (by omega)).trans (by omega)))) λa A↦?_
    refine sda A λa A↦?_
    refine qb ?_
    refine hK9 _ _ _ (by omega) ⟨i + 1, rfl, ⟨by omega, fun j hj => if h9 : j < i then hin9 j h9 else by have h8 : j = i := (by omega); subst h8; rw [hi21, hi27, hb28']⟩, A.keep _ (by repeat' constructor), M⟩
  ·
   have hb13' := of_decide_eq_false hb13
   refine sdc A qm hb13 λa A↦?_
   refine qb (hK12 _ _ (wp_cond_false (A.ev rfl) ?_))
   refine wp_exit (hK6 _ _ (wsk fun K30 hK30 => wrl (sda A λa A↦?_)))
   refine qb (hK30 _ _ (wp_ret (hret _ _ (en1 A rfl (qi rfl) ?_))))
   refine ⟨?_, M.bel⟩
   rw [decide_eq_true (List.ext_getElem? fun j => if h9 : j < i then hin9 j h9 else by rw [List.getElem?_eq_none (by omega), List.getElem?_eq_none (by omega)])]
theorem HdC_is1_28 : Is1 Try.prog 28 := ⟨⟨_, Try.underlying28, rfl⟩, by kernel_rfl⟩
theorem HdC_is1_3 : Is1 Try.prog 3 := ⟨⟨_, Try.underlying3, rfl⟩, by kernel_rfl⟩
theorem HdC_fld_30_2 : FieldAt Try.prog 30 2 2 := ⟨_, _, Try.underlying30, rfl, rfl, by kernel_rfl⟩
theorem HdC_fld_30_3 : FieldAt Try.prog 30 3 3 := ⟨_, _, Try.underlying30, rfl, rfl, by kernel_rfl⟩
theorem HdC_isS_30 : IsS Try.prog 30 4 := ⟨⟨_, Try.underlying30⟩, by kernel_rfl⟩
section
variable {P : Program} {w0 w : World} {L : List Ck} {l : List (Nat × Value)} {ops : List Oper} {Q : Exit → Act → World → Prop} {a : Act} {n : Nat} {o : Oper} {d : Nat} {S : World → Prop} {md : Region.Mode} {fuel : Nat} {listed : Array Bool}
theorem g_litV (A : Sl a n l) (M : Mg w0 w L) (i : Nat) (hi : ops[i]? = some o) (hg : zw l ops o = true) (hdst : o.dst = some d) (hd : Nat.blt d n = true) {e : TypeId} {sz : Nat} {vs : List Value} {m : Nat} (he : Does P l o w (.slice (some ⟨w.heap.size, 0, none⟩) m m) (w.alloc (.cells vs.toArray e))) (hm : vs.length = m * sz) (hle : Nat.ble m 1000 = true) (hnb : e ≠ BY ∨ zu L)
  (hk : ∀ g w', Mg w0 w' (.row e sz (.slice (some ⟨g, 0, none⟩) m m) m vs :: L) → S w' ∧ ∀ a', Sl a' n ((d, .slice (some ⟨g, 0, none⟩) m m) :: l) → wpAnyH P md ops.toArray Q S fuel (listed.setIfInBounds i true) a' w') : wpOp P ops.toArray Q i (fun a' w' => S w' ∧ wpAnyH P md ops.toArray Q S fuel (listed.setIfInBounds i true) a' w') a w := by
 have h := hk _ _ (M.add ((Below.refl _ w).alloc (Nat.le_refl _) _) (by
  have := World.ownsRow_lit (base := w0.heap.size) (e := e) (size := sz) w vs.toArray m M.bel.size (by unfold maxLen; have := Nat.le_of_ble_eq_true hle; omega) (by simp [hm])
  simpa [Ck.holds] using this) (fun k e => by simp [Ck.at_, Value.ownBlock] at e; omega) (.inr (.inl ⟨_, _, _, _, _, rfl, hnb⟩)))
 exact qde A i hi hg hdst hd he h.1 h.2
theorem g_appV (A : Sl a n l) (i : Nat) (hi : ops[i]? = some o) (hg : zw l ops o = true) (hdst : o.dst = some d) (hd : Nat.blt d n = true) {e : TypeId} {sz k q m : Nat} {xs news : List Value} (he : ∃ v' w', Does P l o w v' w' ∧ Mg w0 w' (L.set k (.row e sz v' (q + m) (xs ++ news)))) {L' : Value → List Ck} (hL : ∀ v', L.set k (.row e sz v' (q + m) (xs ++ news)) = L' v')
  (hk : ∀ v' w', Mg w0 w' (L' v') → S w' ∧ ∀ a', Sl a' n ((d, v') :: l) → wpAnyH P md ops.toArray Q S fuel (listed.setIfInBounds i true) a' w') : wpOp P ops.toArray Q i (fun a' w' => S w' ∧ wpAnyH P md ops.toArray Q S fuel (listed.setIfInBounds i true) a' w') a w := by
 obtain ⟨v', w', h1, h2⟩ := he
 have h := hk v' w' (hL v' ▸ h2)
 exact qde A i hi hg hdst hd h1 h.1 h.2
end
/-- Where the document puts a new object. -/
def PlS (ss ls : Nat) (ds : List Ob) (n : Nat) (p : Int) : Prop := (decide (16 < ((n : Nat) : Int)) = false ∧ frS false (zg ds) n ss ds = true ∧ p = ((zg ds : Nat) : Int)) ∨ (decide (16 < ((n : Nat) : Int)) = false ∧ frS false (zg ds) n ss ds = false ∧ p = -1) ∨ (decide (16 < ((n : Nat) : Int)) = true ∧ frS true 0 n ls ds = true ∧ p = 0) ∨ (decide (16 < ((n : Nat) : Int)) = true ∧ frS true 0 n ls ds = false ∧ ∀ bz, Bst n ls ds ds.length bz → bz = p)
theorem qfb {w : World} {ss ls last ca : Nat} {so : Option Addr} {ds : List Ob} (hO : RO w so ds) (hol : ds.length ≤ 1000000) (hq : ∀ d ∈ ds, d.p + d.ws.length ≤ 1000000) (hsm : zg ds ≤ 1000000) {n : Nat} (hn : n ≤ 1000000) (hss : ss ≤ 1000000) (hls : ls ≤ 1000000) {p : Int} (hP : PlS ss ls ds n p) : Calls Try.prog 27 #[.agg #[.int .i64 ((ss : Nat) : Int), .int .i64 ((ls : Nat) : Int), .int .i64 ((last : Nat) : Int), .slice so ds.length ca], .int .i64 ((n : Nat) : Int)] w fun e w' => e = .returned (.int .i64 p) ∧ Below w.heap.size w w' := by
 rcases hP with ⟨h1, h2, rfl⟩ | ⟨h1, h2, rfl⟩ | ⟨h1, h2, rfl⟩ | ⟨h1, h2, h3⟩
 ·
  exact rplaceS_ok hO hol hq hsm hn hss hls h1 h2
 ·
  exact rplaceS_no hO hol hq hsm hn hss hls h1 h2
 ·
  exact rplaceL_0 hO hol hq hsm hn hss hls h1 h2
 ·
  refine (rplaceL hO hol hq hsm hn hss hls h1 h2).mono ?_
  rintro e w' ⟨bz, rfl, hb, hbel⟩
  exact ⟨by rw [h3 bz hb], hbel⟩
theorem sl_nOb (last p g n : Nat) : (nOb last p g n).sl = .slice (some ⟨g, 0, none⟩) n n := by simp [Ob.sl, nOb]
theorem obD_nOb (ds : List Ob) (last p g n : Nat) : obD ds ++ [.int .i64 ((last + 1 : Nat) : Int), .int .i64 ((p : Nat) : Int), .slice (some ⟨g, 0, none⟩) n n] = obD (ds ++ [nOb last p g n]) := by
 rw [obD_app]
 simp only [obD, sl_nOb]
 rfl
theorem obD_set : ∀ {ds : List Ob} {k : Nat} {d d' : Ob}, ds[k]? = some d → d'.x = d.x → d'.p = d.p → over (obD ds) (k * 3 + 2) [d'.sl] = obD (ds.set k d')
 | [], k, _, _, h, _, _ => by simp at h
 | a :: t, 0, d, d', h, h1, h2 => by
  simp at h
  subst h
  simp only [List.set_cons_zero, obD, h1, h2]
  rfl
 | a :: t, k + 1, d, d', h, h1, h2 => by
  rw [show (k + 1) * 3 + 2 = (k * 3 + 2) + 1 + 1 + 1 from by omega]
  simp only [obD, List.set_cons_succ]
  rw [xb, xb, xb, obD_set (by simpa using h) h1 h2]
theorem ralloc_bad {w : World} {ss ls last ca : Nat} {so : Option Addr} {ds : List Ob} (hO : RO w so ds) (hol : ds.length ≤ 1000000) (hq : ∀ d ∈ ds, d.p + d.ws.length ≤ 1000000) {n : Int} (hn : n < 1) : Calls Try.prog 7 #[.agg #[.int .i64 ((ss : Nat) : Int), .int .i64 ((ls : Nat) : Int), .int .i64 ((last : Nat) : Int), .slice so ds.length ca], .int .i64 n] w fun e w' => e = .returned (.tuple #[.int .i64 0, .int .i64 1, .agg #[.int .i64 ((ss : Nat) : Int), .int .i64 ((ls : Nat) : Int), .int .i64 ((last : Nat) : Int), .slice so ds.length ca]]) ∧ Below w.heap.size w w' := by
 have M : Mg w w ([]) := Mg.start w
 refine qp (l := [(0, .agg #[.int .i64 (((ss : Nat) : Int)), .int .i64 (((ls : Nat) : Int)), .int .i64 (((last : Nat) : Int)), .slice so ds.length ca]), (1, .int .i64 n)]) Try.func7 rfl Try.ntmps7 rfl rfl ?_
 intro Q hret hnorm hP a A
 refine wsk fun K1 hK1 => wrl (qt (vs := [.int .i64 (((ss : Nat) : Int)), .int .i64 (((ls : Nat) : Int)), .int .i64 (((last : Nat) : Int)), .slice so ds.length ca]) (t := 30) A M rfl rfl rfl pg (qw rfl rfl) (by decide) ?_)
 intro g2 w3 M a A
 iterate 2 refine sda A λa A↦?_
 refine qt (vs := [.int .i64 0, .int .i64 0, .int .i64 0, .slice none 0 0]) (t := 30) A M rfl rfl rfl pg (ql (z := .agg #[.int .i64 0, .int .i64 0, .int .i64 0, .slice none 0 0]) (by kernel_rfl) rfl) (by decide) ?_
 intro g4 w5 M a A
 refine qb (hK1 _ _ (wsk fun K6 hK6 => wsk fun K7 hK7 => wrl (sdm A λa A↦?_)))
 refine sdo (v := .bool true) A (qe rfl rfl (fun w => (qm w).trans (by rw [show (decide (n < 1)) = true from (decide_eq_true (by omega))]))) λa A↦?_
 refine qb (hK7 _ _ (wp_cond_true (A.ev rfl) ?_))
 refine wsk fun K8 hK8 => zn (S := fun w1 => Mg w w1 (.obj g2 (.cells #[.int .i64 (((ss : Nat) : Int)), .int .i64 (((ls : Nat) : Int)), .int .i64 (((last : Nat) : Int)), .slice so ds.length ca] 30) :: [])) (by kernel_rfl) ?_
 replace M := M.drew
 refine qf A 0 rfl rfl rfl rfl hP (M.sub (cn (cc (List.nil_sublist _)))) (fun w1 M => qq M HdC_isS_30 rfl 0 rfl (cs := [.int .i64 (((ss : Nat) : Int)), .int .i64 (((ls : Nat) : Int)), .int .i64 (((last : Nat) : Int)), .slice so ds.length ca]) rfl rfl) λa A↦?_
 refine qf A 1 rfl rfl rfl rfl hP (M.sub (cn (cc (List.nil_sublist _)))) (fun w1 M => qz rfl) λa A↦?_
 refine qf A 2 rfl rfl rfl rfl hP (M.sub (cn (cc (List.nil_sublist _)))) (fun w1 M => qz rfl) λa A↦?_
 refine zd (by kernel_rfl) (jh (us := [.int .i64 (((ss : Nat) : Int)), .int .i64 (((ls : Nat) : Int)), .int .i64 (((last : Nat) : Int)), .slice so ds.length ca]) (L' := (.obj g4 (.cells #[.int .i64 (((ss : Nat) : Int)), .int .i64 (((ls : Nat) : Int)), .int .i64 (((last : Nat) : Int)), .slice so ds.length ca] 30) :: .obj g2 (.cells #[.int .i64 (((ss : Nat) : Int)), .int .i64 (((ls : Nat) : Int)), .int .i64 (((last : Nat) : Int)), .slice so ds.length ca] 30) :: [])) A M 3 rfl rfl rfl (qo rfl rfl rfl (by kernel_rfl) M 0 rfl rfl rfl) 0 rfl rfl rfl ?_)
 intro w9 M
 refine ⟨(M.sub (cn (cc (List.nil_sublist _)))), ?_⟩
 refine zi (by kernel_rfl) ?_
 refine hK8 _ _ (wp_ret (hret _ _ (en3 A rfl (qi rfl) (qi rfl) (zk M HdC_isS_30 rfl 0 rfl (cs := [.int .i64 (((ss : Nat) : Int)), .int .i64 (((ls : Nat) : Int)), .int .i64 (((last : Nat) : Int)), .slice so ds.length ca]) rfl rfl) ?_)))
 exact ⟨rfl, M.bel⟩
theorem qkf {w : World} {ss ls last ca : Nat} {so : Option Addr} {ds : List Ob} (hO : RO w so ds) (hol : ds.length ≤ 1000000) (hq : ∀ d ∈ ds, d.p + d.ws.length ≤ 1000000) {n : Int} (hn : 65536 < n) : Calls Try.prog 7 #[.agg #[.int .i64 ((ss : Nat) : Int), .int .i64 ((ls : Nat) : Int), .int .i64 ((last : Nat) : Int), .slice so ds.length ca], .int .i64 n] w fun e w' => e = .returned (.tuple #[.int .i64 0, .int .i64 9, .agg #[.int .i64 ((ss : Nat) : Int), .int .i64 ((ls : Nat) : Int), .int .i64 ((last : Nat) : Int), .slice so ds.length ca]]) ∧ Below w.heap.size w w' := by
 have M : Mg w w ([]) := Mg.start w
 refine qp (l := [(0, .agg #[.int .i64 (((ss : Nat) : Int)), .int .i64 (((ls : Nat) : Int)), .int .i64 (((last : Nat) : Int)), .slice so ds.length ca]), (1, .int .i64 n)]) Try.func7 rfl Try.ntmps7 rfl rfl ?_
 intro Q hret hnorm hP a A
 refine wsk fun K1 hK1 => wrl (qt (vs := [.int .i64 (((ss : Nat) : Int)), .int .i64 (((ls : Nat) : Int)), .int .i64 (((last : Nat) : Int)), .slice so ds.length ca]) (t := 30) A M rfl rfl rfl pg (qw rfl rfl) (by decide) ?_)
 intro g2 w3 M a A
 iterate 2 refine sda A λa A↦?_
 refine qt (vs := [.int .i64 0, .int .i64 0, .int .i64 0, .slice none 0 0]) (t := 30) A M rfl rfl rfl pg (ql (z := .agg #[.int .i64 0, .int .i64 0, .int .i64 0, .slice none 0 0]) (by kernel_rfl) rfl) (by decide) ?_
 intro g4 w5 M a A
 refine qb (hK1 _ _ (wsk fun K6 hK6 => wsk fun K7 hK7 => wrl (sdm A λa A↦?_)))
 refine sdo (v := .bool false) A (qe rfl rfl (fun w => (qm w).trans (by rw [show (decide (n < 1)) = false from (decide_eq_false (by omega))]))) λa A↦?_
 refine qb (hK7 _ _ (wp_cond_false (A.ev rfl) ?_))
 refine wp_skip (hK6 _ _ (wsk fun K8 hK8 => wsk fun K9 hK9 => wrl (sdm A λa A↦?_)))
 refine sdo (v := .bool true) A (qe rfl rfl (fun w => (jv w).trans (by rw [show (decide (65536 < n)) = true from (decide_eq_true (by omega))]))) λa A↦?_
 refine qb (hK9 _ _ (wp_cond_true (A.ev rfl) ?_))
 refine wsk fun K10 hK10 => zn (S := fun w1 => Mg w w1 (.obj g2 (.cells #[.int .i64 (((ss : Nat) : Int)), .int .i64 (((ls : Nat) : Int)), .int .i64 (((last : Nat) : Int)), .slice so ds.length ca] 30) :: [])) (by kernel_rfl) ?_
 replace M := M.drew
 refine qf A 0 rfl rfl rfl rfl hP (M.sub (cn (cc (List.nil_sublist _)))) (fun w1 M => qq M HdC_isS_30 rfl 0 rfl (cs := [.int .i64 (((ss : Nat) : Int)), .int .i64 (((ls : Nat) : Int)), .int .i64 (((last : Nat) : Int)), .slice so ds.length ca]) rfl rfl) λa A↦?_
 refine qf A 1 rfl rfl rfl rfl hP (M.sub (cn (cc (List.nil_sublist _)))) (fun w1 M => qz rfl) λa A↦?_
 refine qf A 2 rfl rfl rfl rfl hP (M.sub (cn (cc (List.nil_sublist _)))) (fun w1 M => qz rfl) λa A↦?_
 refine zd (by kernel_rfl) (jh (us := [.int .i64 (((ss : Nat) : Int)), .int .i64 (((ls : Nat) : Int)), .int .i64 (((last : Nat) : Int)), .slice so ds.length ca]) (L' := (.obj g4 (.cells #[.int .i64 (((ss : Nat) : Int)), .int .i64 (((ls : Nat) : Int)), .int .i64 (((last : Nat) : Int)), .slice so ds.length ca] 30) :: .obj g2 (.cells #[.int .i64 (((ss : Nat) : Int)), .int .i64 (((ls : Nat) : Int)), .int .i64 (((last : Nat) : Int)), .slice so ds.length ca] 30) :: [])) A M 3 rfl rfl rfl (qo rfl rfl rfl (by kernel_rfl) M 0 rfl rfl rfl) 0 rfl rfl rfl ?_)
 intro w11 M
 refine ⟨(M.sub (cn (cc (List.nil_sublist _)))), ?_⟩
 refine zi (by kernel_rfl) ?_
 refine hK10 _ _ (wp_ret (hret _ _ (en3 A rfl (qi rfl) (qi rfl) (zk M HdC_isS_30 rfl 0 rfl (cs := [.int .i64 (((ss : Nat) : Int)), .int .i64 (((ls : Nat) : Int)), .int .i64 (((last : Nat) : Int)), .slice so ds.length ca]) rfl rfl) ?_)))
 exact ⟨rfl, M.bel⟩
theorem qkg {w : World} {ss ls last ca : Nat} {so : Option Addr} {ds : List Ob} (hO : RO w so ds) (hol : ds.length ≤ 1000000) (hq : ∀ d ∈ ds, d.p + d.ws.length ≤ 1000000) (hsm : zg ds ≤ 1000000) {n : Nat} (hn1 : 1 ≤ n) (hn : n ≤ 65536) (hss : ss ≤ 1000000) (hls : ls ≤ 1000000) (hPl : PlS ss ls ds n (-1)) : Calls Try.prog 7 #[.agg #[.int .i64 ((ss : Nat) : Int), .int .i64 ((ls : Nat) : Int), .int .i64 ((last : Nat) : Int), .slice so ds.length ca], .int .i64 ((n : Nat) : Int)] w fun e w' => e = .returned (.tuple #[.int .i64 0, .int .i64 9, .agg #[.int .i64 ((ss : Nat) : Int), .int .i64 ((ls : Nat) : Int), .int .i64 ((last : Nat) : Int), .slice so ds.length ca]]) ∧ Below w.heap.size w w' := by
 have M : Mg w w ([]) := Mg.start w
 refine qp (l := [(0, .agg #[.int .i64 (((ss : Nat) : Int)), .int .i64 (((ls : Nat) : Int)), .int .i64 (((last : Nat) : Int)), .slice so ds.length ca]), (1, .int .i64 (((n : Nat) : Int)))]) Try.func7 rfl Try.ntmps7 rfl rfl ?_
 intro Q hret hnorm hP a A
 refine wsk fun K1 hK1 => wrl (qt (vs := [.int .i64 (((ss : Nat) : Int)), .int .i64 (((ls : Nat) : Int)), .int .i64 (((last : Nat) : Int)), .slice so ds.length ca]) (t := 30) A M rfl rfl rfl pg (qw rfl rfl) (by decide) ?_)
 intro g2 w3 M a A
 iterate 2 refine sda A λa A↦?_
 refine qt (vs := [.int .i64 0, .int .i64 0, .int .i64 0, .slice none 0 0]) (t := 30) A M rfl rfl rfl pg (ql (z := .agg #[.int .i64 0, .int .i64 0, .int .i64 0, .slice none 0 0]) (by kernel_rfl) rfl) (by decide) ?_
 intro g4 w5 M a A
 refine qb (hK1 _ _ (wsk fun K6 hK6 => wsk fun K7 hK7 => wrl (sdm A λa A↦?_)))
 refine sdo (v := .bool false) A (qe rfl rfl (fun w => (qm w).trans (by rw [show (decide (((n : Nat) : Int) < 1)) = false from (decide_eq_false (by omega))]))) λa A↦?_
 refine qb (hK7 _ _ (wp_cond_false (A.ev rfl) ?_))
 refine wp_skip (hK6 _ _ (wsk fun K8 hK8 => wsk fun K9 hK9 => wrl (sdm A λa A↦?_)))
 refine sdo (v := .bool false) A (qe rfl rfl (fun w => (jv w).trans (by rw [show (decide (65536 < ((n : Nat) : Int))) = false from (decide_eq_false (by omega))]))) λa A↦?_
 refine qb (hK9 _ _ (wp_cond_false (A.ev rfl) ?_))
 refine wp_skip (hK8 _ _ (wsk fun K10 hK10 => wrl (sdo A (qq M HdC_isS_30 rfl 1 rfl (cs := [.int .i64 (((ss : Nat) : Int)), .int .i64 (((ls : Nat) : Int)), .int .i64 (((last : Nat) : Int)), .slice so ds.length ca]) rfl rfl) λa A↦?_)))
 refine sdm A λa A↦?_
 refine gcl A M (ef rfl rfl) (qfb (hO.below M.bel) hol hq hsm (by omega) hss hls hPl) fun w12 hb11 M a A => ?_
 refine sda A λa A↦?_
 refine qb (hK10 _ _ (wsk fun K13 hK13 => wsk fun K14 hK14 => wrl (sdm A λa A↦?_)))
 refine sdo (v := .bool true) A (qe rfl rfl (fun w => by kernel_rfl)) λa A↦?_
 refine qb (hK14 _ _ (wp_cond_true (A.ev rfl) ?_))
 refine wsk fun K15 hK15 => zn (S := fun w1 => Mg w w1 (.obj g2 (.cells #[.int .i64 (((ss : Nat) : Int)), .int .i64 (((ls : Nat) : Int)), .int .i64 (((last : Nat) : Int)), .slice so ds.length ca] 30) :: [])) (by kernel_rfl) ?_
 replace M := M.drew
 refine qf A 0 rfl rfl rfl rfl hP (M.sub (cn (cc (List.nil_sublist _)))) (fun w1 M => qq M HdC_isS_30 rfl 0 rfl (cs := [.int .i64 (((ss : Nat) : Int)), .int .i64 (((ls : Nat) : Int)), .int .i64 (((last : Nat) : Int)), .slice so ds.length ca]) rfl rfl) λa A↦?_
 refine qf A 1 rfl rfl rfl rfl hP (M.sub (cn (cc (List.nil_sublist _)))) (fun w1 M => qz rfl) λa A↦?_
 refine qf A 2 rfl rfl rfl rfl hP (M.sub (cn (cc (List.nil_sublist _)))) (fun w1 M => qz rfl) λa A↦?_
 refine zd (by kernel_rfl) (jh (us := [.int .i64 (((ss : Nat) : Int)), .int .i64 (((ls : Nat) : Int)), .int .i64 (((last : Nat) : Int)), .slice so ds.length ca]) (L' := (.obj g4 (.cells #[.int .i64 (((ss : Nat) : Int)), .int .i64 (((ls : Nat) : Int)), .int .i64 (((last : Nat) : Int)), .slice so ds.length ca] 30) :: .obj g2 (.cells #[.int .i64 (((ss : Nat) : Int)), .int .i64 (((ls : Nat) : Int)), .int .i64 (((last : Nat) : Int)), .slice so ds.length ca] 30) :: [])) A M 3 rfl rfl rfl (qo rfl rfl rfl (by kernel_rfl) M 0 rfl rfl rfl) 0 rfl rfl rfl ?_)
 intro w16 M
 refine ⟨(M.sub (cn (cc (List.nil_sublist _)))), ?_⟩
 refine zi (by kernel_rfl) ?_
 refine hK15 _ _ (wp_ret (hret _ _ (en3 A rfl (qi rfl) (qi rfl) (zk M HdC_isS_30 rfl 0 rfl (cs := [.int .i64 (((ss : Nat) : Int)), .int .i64 (((ls : Nat) : Int)), .int .i64 (((last : Nat) : Int)), .slice so ds.length ca]) rfl rfl) ?_)))
 exact ⟨rfl, M.bel⟩
theorem ralloc_ok {w : World} {ss ls last ca : Nat} {so : Option Addr} {ds : List Ob} (hO : RO w so ds) (hol : ds.length ≤ 1000000) (hq : ∀ d ∈ ds, d.p + d.ws.length ≤ 1000000) (hsm : zg ds ≤ 1000000) {n : Nat} (hn1 : 1 ≤ n) (hn : n ≤ 65536) (hss : ss ≤ 1000000) (hls : ls ≤ 1000000) (hla : last ≤ 4611686018427387904) {p : Nat} (hPl : PlS ss ls ds n ((p : Nat) : Int)) : Calls Try.prog 7 #[.agg #[.int .i64 ((ss : Nat) : Int), .int .i64 ((ls : Nat) : Int), .int .i64 ((last : Nat) : Int), .slice so ds.length ca], .int .i64 ((n : Nat) : Int)] w fun e w' => ∃ so' ca' g, e = .returned (.tuple #[.int .i64 ((last + 1 : Nat) : Int), .int .i64 0, .agg #[.int .i64 ((ss : Nat) : Int), .int .i64 ((ls : Nat) : Int), .int .i64 ((last + 1 : Nat) : Int), .slice so' (ds.length + 1) ca']]) ∧ Mg w w' [.row 73 3 (.slice so' (ds.length + 1) ca') (ds.length + 1) (obD (ds ++ [nOb last p g n])), .row 32 2 (.slice (some ⟨g, 0, none⟩) n n) n (za (List.replicate n (0, false)))] := by
 have M : Mg w w ([]) := Mg.start w
 refine qp (l := [(0, .agg #[.int .i64 (((ss : Nat) : Int)), .int .i64 (((ls : Nat) : Int)), .int .i64 (((last : Nat) : Int)), .slice so ds.length ca]), (1, .int .i64 (((n : Nat) : Int)))]) Try.func7 rfl Try.ntmps7 rfl rfl ?_
 intro Q hret hnorm hP a A
 refine wsk fun K1 hK1 => wrl (qt (vs := [.int .i64 (((ss : Nat) : Int)), .int .i64 (((ls : Nat) : Int)), .int .i64 (((last : Nat) : Int)), .slice so ds.length ca]) (t := 30) A M rfl rfl rfl pg (qw rfl rfl) (by decide) ?_)
 intro g2 w3 M a A
 iterate 2 refine sda A λa A↦?_
 refine qt (vs := [.int .i64 0, .int .i64 0, .int .i64 0, .slice none 0 0]) (t := 30) A M rfl rfl rfl pg (ql (z := .agg #[.int .i64 0, .int .i64 0, .int .i64 0, .slice none 0 0]) (by kernel_rfl) rfl) (by decide) ?_
 intro g4 w5 M a A
 refine qb (hK1 _ _ (wsk fun K6 hK6 => wsk fun K7 hK7 => wrl (sdm A λa A↦?_)))
 refine sdo (v := .bool false) A (qe rfl rfl (fun w => (qm w).trans (by rw [show (decide (((n : Nat) : Int) < 1)) = false from (decide_eq_false (by omega))]))) λa A↦?_
 refine qb (hK7 _ _ (wp_cond_false (A.ev rfl) ?_))
 refine wp_skip (hK6 _ _ (wsk fun K8 hK8 => wsk fun K9 hK9 => wrl (sdm A λa A↦?_)))
 refine sdo (v := .bool false) A (qe rfl rfl (fun w => (jv w).trans (by rw [show (decide (65536 < ((n : Nat) : Int))) = false from (decide_eq_false (by omega))]))) λa A↦?_
 refine qb (hK9 _ _ (wp_cond_false (A.ev rfl) ?_))
 refine wp_skip (hK8 _ _ (wsk fun K10 hK10 => wrl (sdo A (qq M HdC_isS_30 rfl 1 rfl (cs := [.int .i64 (((ss : Nat) : Int)), .int .i64 (((ls : Nat) : Int)), .int .i64 (((last : Nat) : Int)), .slice so ds.length ca]) rfl rfl) λa A↦?_)))
 refine sdm A λa A↦?_
 refine gcl A M (ef rfl rfl) (qfb (hO.below M.bel) hol hq hsm (by omega) hss hls hPl) fun w12 hb11 M a A => ?_
 refine sda A λa A↦?_
 refine qb (hK10 _ _ (wsk fun K13 hK13 => wsk fun K14 hK14 => wrl (sdm A λa A↦?_)))
 refine sdo (v := .bool false) A (qe rfl rfl (fun w => (qm w).trans (by rw [show (decide (((p : Nat) : Int) < 0)) = false from (decide_eq_false (by omega))]))) λa A↦?_
 refine qb (hK14 _ _ (wp_cond_false (A.ev rfl) ?_))
 refine wp_skip (hK13 _ _ (wsk fun K15 hK15 => wrl (sdo (v := .pointer (some ⟨g2, 2, none⟩)) A (qd HdC_fld_30_2 rfl rfl) λa A↦?_)))
 refine sdo A (qh M HdC_is1_3 rfl 1 rfl rfl) λa A↦?_
 refine sdo (v := .int .i64 (((last + 1 : Nat) : Int))) A (qe rfl rfl (ar_add ((in_i64 (by omega) (by omega)).trans (by omega)))) λa A↦?_
 refine sdo (v := .pointer (some ⟨g2, 2, none⟩)) A (qd HdC_fld_30_2 rfl rfl) λa A↦?_
 refine qs (us := [.int .i64 (((ss : Nat) : Int)), .int .i64 (((ls : Nat) : Int)), .int .i64 (((last + 1 : Nat) : Int)), .slice so ds.length ca]) (L' := (.obj g4 (.cells #[.int .i64 0, .int .i64 0, .int .i64 0, .slice none 0 0] 30) :: .obj g2 (.cells #[.int .i64 (((ss : Nat) : Int)), .int .i64 (((ls : Nat) : Int)), .int .i64 (((last + 1 : Nat) : Int)), .slice so ds.length ca] 30) :: [])) A M rfl rfl (qo rfl rfl rfl (by kernel_rfl) M 1 rfl rfl rfl) 1 rfl rfl rfl ?_
 intro w16 M
 refine qb (hK15 _ _ (wsk fun K17 hK17 => wrl (jm (e := 73) (sz := 3) (m := 0) (vs := []) A M rfl rfl rfl (qx rfl (by kernel_rfl)) rfl rfl (.inl (by decide)) ?_)))
 intro g18 w19 M a A
 refine sdo (v := .pointer (some ⟨g2, 3, none⟩)) A (qd HdC_fld_30_3 rfl rfl) λa A↦?_
 refine sdo A (qh M HdC_is1_28 rfl 2 rfl rfl) λa A↦?_
 refine zz (e := 73) (sz := 3) (k := 0) (q := 0) (m := ds.length) (xs := []) (news := obD ds) (L' := fun v20 => (.row 73 3 (v20) (0 + ds.length) ([] ++ obD ds) :: .obj g4 (.cells #[.int .i64 0, .int .i64 0, .int .i64 0, .slice none 0 0] 30) :: .obj g2 (.cells #[.int .i64 (((ss : Nat) : Int)), .int .i64 (((ls : Nat) : Int)), .int .i64 (((last + 1 : Nat) : Int)), .slice so ds.length ca] 30) :: [])) A rfl rfl rfl (xi (z := .agg #[.int .i64 0, .int .i64 0, .slice none 0 0]) (sz := 3) (by_ := 40) Try.underlying28 (by kernel_rfl) rfl rfl rfl M 0 rfl rfl rfl (kn ds) (hO.row.below M.bel) (yu ds) (by omega)) (fun _ => rfl) ?_
 intro v20 w21 M a A
 replace M : Mg w w21 (.row 73 3 (v20) ds.length (obD ds) :: .obj g4 (.cells #[.int .i64 0, .int .i64 0, .int .i64 0, .slice none 0 0] 30) :: .obj g2 (.cells #[.int .i64 (((ss : Nat) : Int)), .int .i64 (((ls : Nat) : Int)), .int .i64 (((last + 1 : Nat) : Int)), .slice so ds.length ca] 30) :: []) := by
  rw [Nat.zero_add, List.nil_append] at M; exact M
 obtain ⟨so22, ca23, rfl⟩ := zx (M.has 0 rfl)
 refine sda A λa A↦?_
 refine qb (hK17 _ _ (wsk fun K24 hK24 => zn (S := fun w1 => Mg w w1 ([])) (by kernel_rfl) ?_))
 replace M := M.drew
 refine qf A 0 rfl rfl rfl rfl hP (M.sub (cn (cn (cn (List.nil_sublist _))))) (fun w1 M => qn rfl) λa A↦?_
 refine qf (v := .pointer (some ⟨g2, 2, none⟩)) A 1 rfl rfl rfl rfl hP (M.sub (cn (cn (cn (List.nil_sublist _))))) (fun w1 M => qd HdC_fld_30_2 rfl rfl) λa A↦?_
 refine qf A 3 rfl rfl rfl rfl hP (M.sub (cn (cn (cn (List.nil_sublist _))))) (fun w1 M => qn rfl) λa A↦?_
 refine qf A 4 rfl rfl rfl rfl hP (M.sub (cn (cn (cn (List.nil_sublist _))))) (fun w1 M => qn rfl) λa A↦?_
 refine any_many (rs := [2, 5]) (by kernel_rfl) (by simp) ⟨?_, ?_, trivial⟩
 ·
  refine qde A 2 rfl rfl rfl rfl (qh M HdC_is1_3 rfl 2 rfl rfl) (M.sub (cn (cn (cn (List.nil_sublist _))))) λa A↦?_
  refine zd (by kernel_rfl) (uw (z := .agg #[.int .i64 0, .bool false]) (sz := 2) (by_ := 16) (m := n) A M Try.underlying68 (by kernel_rfl) rfl rfl rfl 5 rfl rfl rfl rfl (by omega) (by omega) (.inl (by decide)) ?_)
  intro g25 w26 M
  replace M : Mg w w26 (.row 32 2 (.slice (some ⟨g25, 0, none⟩) n n) n (za (List.replicate n (0, false))) :: .row 73 3 (.slice so22 ds.length ca23) ds.length (obD ds) :: .obj g4 (.cells #[.int .i64 0, .int .i64 0, .int .i64 0, .slice none 0 0] 30) :: .obj g2 (.cells #[.int .i64 (((ss : Nat) : Int)), .int .i64 (((ls : Nat) : Int)), .int .i64 (((last + 1 : Nat) : Int)), .slice so ds.length ca] 30) :: []) := by rw [← vg]; exact M
  refine ⟨(M.sub (cn (cn (cn (cn (List.nil_sublist _)))))), ?_⟩
  intro a A
  refine qf (v := .agg #[.int .i64 (((last + 1 : Nat) : Int)), .int .i64 (((p : Nat) : Int)), .slice (some ⟨g25, 0, none⟩) n n]) A 6 rfl rfl rfl rfl hP (M.sub (cn (cn (cn (cn (List.nil_sublist _)))))) (fun w1 M => zq rfl (fun w => by kernel_rfl)) λa A↦?_
  refine zd (by kernel_rfl) (g_litV (e := 73) (sz := 3) (m := 1) (vs := [.int .i64 (((last + 1 : Nat) : Int)), .int .i64 (((p : Nat) : Int)), .slice (some ⟨g25, 0, none⟩) n n]) A M 7 rfl rfl rfl rfl (qx rfl (by kernel_rfl)) rfl rfl (.inl (by decide)) ?_)
  intro g27 w28 M
  refine ⟨(M.sub (cn (cn (cn (cn (cn (List.nil_sublist _))))))), ?_⟩
  intro a A
  refine zd (by kernel_rfl) (g_appV (e := 73) (sz := 3) (k := 2) (q := ds.length) (m := 1) (xs := obD ds) (news := [.int .i64 (((last + 1 : Nat) : Int)), .int .i64 (((p : Nat) : Int)), .slice (some ⟨g25, 0, none⟩) n n]) (L' := fun v29 => (.row 73 3 (.slice (some ⟨g27, 0, none⟩) 1 1) 1 ([.int .i64 (((last + 1 : Nat) : Int)), .int .i64 (((p : Nat) : Int)), .slice (some ⟨g25, 0, none⟩) n n]) :: .row 32 2 (.slice (some ⟨g25, 0, none⟩) n n) n (za (List.replicate n (0, false))) :: .row 73 3 (v29) (ds.length + 1) (obD ds ++ [.int .i64 (((last + 1 : Nat) : Int)), .int .i64 (((p : Nat) : Int)), .slice (some ⟨g25, 0, none⟩) n n]) :: .obj g4 (.cells #[.int .i64 0, .int .i64 0, .int .i64 0, .slice none 0 0] 30) :: .obj g2 (.cells #[.int .i64 (((ss : Nat) : Int)), .int .i64 (((ls : Nat) : Int)), .int .i64 (((last + 1 : Nat) : Int)), .slice so ds.length ca] 30) :: [])) A 8 rfl rfl rfl rfl (xi (z := .agg #[.int .i64 0, .int .i64 0, .slice none 0 0]) (sz := 3) (by_ := 40) Try.underlying28 (by kernel_rfl) rfl rfl rfl M 2 rfl rfl rfl rfl (vi (M.has 0 rfl)) (by intro u hu; simp at hu; rcases hu with rfl | rfl | rfl <;> rfl) (by omega)) (fun _ => rfl) ?_)
  intro v29 w30 M
  obtain ⟨so31, ca32, rfl⟩ := zx (M.has 2 rfl)
  refine ⟨(M.sub (cn (cn (cn (cn (cn (List.nil_sublist _))))))), ?_⟩
  intro a A
  refine qf (v := .pointer (some ⟨g2, 3, none⟩)) A 9 rfl rfl rfl rfl hP (M.sub (cn (cn (cn (cn (cn (List.nil_sublist _))))))) (fun w1 M => qd HdC_fld_30_3 rfl rfl) λa A↦?_
  refine zd (by kernel_rfl) (jh (us := [.int .i64 (((ss : Nat) : Int)), .int .i64 (((ls : Nat) : Int)), .int .i64 (((last + 1 : Nat) : Int)), .slice so31 (ds.length + 1) ca32]) (L' := (.row 73 3 (.slice (some ⟨g27, 0, none⟩) 1 1) 1 ([.int .i64 (((last + 1 : Nat) : Int)), .int .i64 (((p : Nat) : Int)), .slice (some ⟨g25, 0, none⟩) n n]) :: .row 32 2 (.slice (some ⟨g25, 0, none⟩) n n) n (za (List.replicate n (0, false))) :: .row 73 3 (.slice so31 (ds.length + 1) ca32) (ds.length + 1) (obD ds ++ [.int .i64 (((last + 1 : Nat) : Int)), .int .i64 (((p : Nat) : Int)), .slice (some ⟨g25, 0, none⟩) n n]) :: .obj g4 (.cells #[.int .i64 0, .int .i64 0, .int .i64 0, .slice none 0 0] 30) :: .obj g2 (.cells #[.int .i64 (((ss : Nat) : Int)), .int .i64 (((ls : Nat) : Int)), .int .i64 (((last + 1 : Nat) : Int)), .slice so31 (ds.length + 1) ca32] 30) :: [])) A M 10 rfl rfl rfl (qo rfl rfl rfl (by kernel_rfl) M 4 rfl rfl rfl) 4 rfl rfl rfl ?_)
  intro w33 M
  refine ⟨(M.sub (cn (cn (cn (cn (cn (List.nil_sublist _))))))), ?_⟩
  refine zi (by kernel_rfl) ?_
  refine hK24 _ _ (wsk fun K34 hK34 => zn (S := fun w1 => Mg w w1 (.obj g2 (.cells #[.int .i64 (((ss : Nat) : Int)), .int .i64 (((ls : Nat) : Int)), .int .i64 (((last + 1 : Nat) : Int)), .slice so31 (ds.length + 1) ca32] 30) :: [])) (by kernel_rfl) ?_)
  replace M := M.drew
  refine qf (v := .pointer (some ⟨g2, 2, none⟩)) A 0 rfl rfl rfl rfl hP (M.sub (cn (cn (cn (cn (cc (List.nil_sublist _))))))) (fun w1 M => qd HdC_fld_30_2 rfl rfl) λa A↦?_
  refine qf A 1 rfl rfl rfl rfl hP (M.sub (cn (cn (cn (cn (cc (List.nil_sublist _))))))) (fun w1 M => qh M HdC_is1_3 rfl 0 rfl rfl) λa A↦?_
  refine qf A 2 rfl rfl rfl rfl hP (M.sub (cn (cn (cn (cn (cc (List.nil_sublist _))))))) (fun w1 M => qq M HdC_isS_30 rfl 0 rfl (cs := [.int .i64 (((ss : Nat) : Int)), .int .i64 (((ls : Nat) : Int)), .int .i64 (((last + 1 : Nat) : Int)), .slice so31 (ds.length + 1) ca32]) rfl rfl) λa A↦?_
  refine qf A 3 rfl rfl rfl rfl hP (M.sub (cn (cn (cn (cn (cc (List.nil_sublist _))))))) (fun w1 M => qz rfl) λa A↦?_
  refine qf A 4 rfl rfl rfl rfl hP (M.sub (cn (cn (cn (cn (cc (List.nil_sublist _))))))) (fun w1 M => qz rfl) λa A↦?_
  refine zd (by kernel_rfl) (jh (us := [.int .i64 (((ss : Nat) : Int)), .int .i64 (((ls : Nat) : Int)), .int .i64 (((last + 1 : Nat) : Int)), .slice so31 (ds.length + 1) ca32]) (L' := (.row 73 3 (.slice (some ⟨g27, 0, none⟩) 1 1) 1 ([.int .i64 (((last + 1 : Nat) : Int)), .int .i64 (((p : Nat) : Int)), .slice (some ⟨g25, 0, none⟩) n n]) :: .row 32 2 (.slice (some ⟨g25, 0, none⟩) n n) n (za (List.replicate n (0, false))) :: .row 73 3 (.slice so31 (ds.length + 1) ca32) (ds.length + 1) (obD ds ++ [.int .i64 (((last + 1 : Nat) : Int)), .int .i64 (((p : Nat) : Int)), .slice (some ⟨g25, 0, none⟩) n n]) :: .obj g4 (.cells #[.int .i64 (((ss : Nat) : Int)), .int .i64 (((ls : Nat) : Int)), .int .i64 (((last + 1 : Nat) : Int)), .slice so31 (ds.length + 1) ca32] 30) :: .obj g2 (.cells #[.int .i64 (((ss : Nat) : Int)), .int .i64 (((ls : Nat) : Int)), .int .i64 (((last + 1 : Nat) : Int)), .slice so31 (ds.length + 1) ca32] 30) :: [])) A M 5 rfl rfl rfl (qo rfl rfl rfl (by kernel_rfl) M 3 rfl rfl rfl) 3 rfl rfl rfl ?_)
  intro w35 M
  refine ⟨(M.sub (cn (cn (cn (cn (cc (List.nil_sublist _))))))), ?_⟩
  refine zi (by kernel_rfl) ?_
  refine hK34 _ _ (wp_ret (hret _ _ (en3 A rfl (qi rfl) (qi rfl) (zk M HdC_isS_30 rfl 3 rfl (cs := [.int .i64 (((ss : Nat) : Int)), .int .i64 (((ls : Nat) : Int)), .int .i64 (((last + 1 : Nat) : Int)), .slice so31 (ds.length + 1) ca32]) rfl rfl) ?_)))
  replace M : Mg w w35 (.row 32 2 (.slice (some ⟨g25, 0, none⟩) n n) n (za (List.replicate n (0, false))) :: .row 73 3 (.slice (some ⟨g27, 0, none⟩) 1 1) 1 ([.int .i64 (((last + 1 : Nat) : Int)), .int .i64 (((p : Nat) : Int)), .slice (some ⟨g25, 0, none⟩) n n]) :: .row 73 3 (.slice so31 (ds.length + 1) ca32) (ds.length + 1) (obD ds ++ [.int .i64 (((last + 1 : Nat) : Int)), .int .i64 (((p : Nat) : Int)), .slice (some ⟨g25, 0, none⟩) n n]) :: .obj g4 (.cells #[.int .i64 (((ss : Nat) : Int)), .int .i64 (((ls : Nat) : Int)), .int .i64 (((last + 1 : Nat) : Int)), .slice so31 (ds.length + 1) ca32] 30) :: .obj g2 (.cells #[.int .i64 (((ss : Nat) : Int)), .int .i64 (((ls : Nat) : Int)), .int .i64 (((last + 1 : Nat) : Int)), .slice so31 (ds.length + 1) ca32] 30) :: []) := M.bring 1 rfl rfl
  replace M : Mg w w35 (.row 73 3 (.slice so31 (ds.length + 1) ca32) (ds.length + 1) (obD ds ++ [.int .i64 (((last + 1 : Nat) : Int)), .int .i64 (((p : Nat) : Int)), .slice (some ⟨g25, 0, none⟩) n n]) :: .row 32 2 (.slice (some ⟨g25, 0, none⟩) n n) n (za (List.replicate n (0, false))) :: .row 73 3 (.slice (some ⟨g27, 0, none⟩) 1 1) 1 ([.int .i64 (((last + 1 : Nat) : Int)), .int .i64 (((p : Nat) : Int)), .slice (some ⟨g25, 0, none⟩) n n]) :: .obj g4 (.cells #[.int .i64 (((ss : Nat) : Int)), .int .i64 (((ls : Nat) : Int)), .int .i64 (((last + 1 : Nat) : Int)), .slice so31 (ds.length + 1) ca32] 30) :: .obj g2 (.cells #[.int .i64 (((ss : Nat) : Int)), .int .i64 (((ls : Nat) : Int)), .int .i64 (((last + 1 : Nat) : Int)), .slice so31 (ds.length + 1) ca32] 30) :: []) := M.bring 2 rfl rfl
  replace M : Mg w w35 (.row 73 3 (.slice so31 (ds.length + 1) ca32) (ds.length + 1) (obD ds ++ [.int .i64 (((last + 1 : Nat) : Int)), .int .i64 (((p : Nat) : Int)), .slice (some ⟨g25, 0, none⟩) n n]) :: .row 32 2 (.slice (some ⟨g25, 0, none⟩) n n) n (za (List.replicate n (0, false))) :: []) := by
   have h9 := M.sub (cc (cc (cn (cn (cn (.refl _))))))
   exact h9
  rw [obD_nOb] at M
  exact ⟨_, _, _, rfl, M⟩
 ·
  refine uw (z := .agg #[.int .i64 0, .bool false]) (sz := 2) (by_ := 16) (m := n) A M Try.underlying68 (by kernel_rfl) rfl rfl rfl 5 rfl rfl rfl rfl (by omega) (by omega) (.inl (by decide)) ?_
  intro g36 w37 M
  replace M : Mg w w37 (.row 32 2 (.slice (some ⟨g36, 0, none⟩) n n) n (za (List.replicate n (0, false))) :: .row 73 3 (.slice so22 ds.length ca23) ds.length (obD ds) :: .obj g4 (.cells #[.int .i64 0, .int .i64 0, .int .i64 0, .slice none 0 0] 30) :: .obj g2 (.cells #[.int .i64 (((ss : Nat) : Int)), .int .i64 (((ls : Nat) : Int)), .int .i64 (((last + 1 : Nat) : Int)), .slice so ds.length ca] 30) :: []) := by rw [← vg]; exact M
  refine ⟨(M.sub (cn (cn (cn (cn (List.nil_sublist _)))))), ?_⟩
  intro a A
  refine zd (by kernel_rfl) (qde A 2 rfl rfl rfl rfl (qh M HdC_is1_3 rfl 3 rfl rfl) (M.sub (cn (cn (cn (cn (List.nil_sublist _)))))) ?_)
  intro a A
  refine qf (v := .agg #[.int .i64 (((last + 1 : Nat) : Int)), .int .i64 (((p : Nat) : Int)), .slice (some ⟨g36, 0, none⟩) n n]) A 6 rfl rfl rfl rfl hP (M.sub (cn (cn (cn (cn (List.nil_sublist _)))))) (fun w1 M => zq rfl (fun w => by kernel_rfl)) λa A↦?_
  refine zd (by kernel_rfl) (g_litV (e := 73) (sz := 3) (m := 1) (vs := [.int .i64 (((last + 1 : Nat) : Int)), .int .i64 (((p : Nat) : Int)), .slice (some ⟨g36, 0, none⟩) n n]) A M 7 rfl rfl rfl rfl (qx rfl (by kernel_rfl)) rfl rfl (.inl (by decide)) ?_)
  intro g38 w39 M
  refine ⟨(M.sub (cn (cn (cn (cn (cn (List.nil_sublist _))))))), ?_⟩
  intro a A
  refine zd (by kernel_rfl) (g_appV (e := 73) (sz := 3) (k := 2) (q := ds.length) (m := 1) (xs := obD ds) (news := [.int .i64 (((last + 1 : Nat) : Int)), .int .i64 (((p : Nat) : Int)), .slice (some ⟨g36, 0, none⟩) n n]) (L' := fun v40 => (.row 73 3 (.slice (some ⟨g38, 0, none⟩) 1 1) 1 ([.int .i64 (((last + 1 : Nat) : Int)), .int .i64 (((p : Nat) : Int)), .slice (some ⟨g36, 0, none⟩) n n]) :: .row 32 2 (.slice (some ⟨g36, 0, none⟩) n n) n (za (List.replicate n (0, false))) :: .row 73 3 (v40) (ds.length + 1) (obD ds ++ [.int .i64 (((last + 1 : Nat) : Int)), .int .i64 (((p : Nat) : Int)), .slice (some ⟨g36, 0, none⟩) n n]) :: .obj g4 (.cells #[.int .i64 0, .int .i64 0, .int .i64 0, .slice none 0 0] 30) :: .obj g2 (.cells #[.int .i64 (((ss : Nat) : Int)), .int .i64 (((ls : Nat) : Int)), .int .i64 (((last + 1 : Nat) : Int)), .slice so ds.length ca] 30) :: [])) A 8 rfl rfl rfl rfl (xi (z := .agg #[.int .i64 0, .int .i64 0, .slice none 0 0]) (sz := 3) (by_ := 40) Try.underlying28 (by kernel_rfl) rfl rfl rfl M 2 rfl rfl rfl rfl (vi (M.has 0 rfl)) (by intro u hu; simp at hu; rcases hu with rfl | rfl | rfl <;> rfl) (by omega)) (fun _ => rfl) ?_)
  intro v40 w41 M
  obtain ⟨so42, ca43, rfl⟩ := zx (M.has 2 rfl)
  refine ⟨(M.sub (cn (cn (cn (cn (cn (List.nil_sublist _))))))), ?_⟩
  intro a A
  refine qf (v := .pointer (some ⟨g2, 3, none⟩)) A 9 rfl rfl rfl rfl hP (M.sub (cn (cn (cn (cn (cn (List.nil_sublist _))))))) (fun w1 M => qd HdC_fld_30_3 rfl rfl) λa A↦?_
  refine zd (by kernel_rfl) (jh (us := [.int .i64 (((ss : Nat) : Int)), .int .i64 (((ls : Nat) : Int)), .int .i64 (((last + 1 : Nat) : Int)), .slice so42 (ds.length + 1) ca43]) (L' := (.row 73 3 (.slice (some ⟨g38, 0, none⟩) 1 1) 1 ([.int .i64 (((last + 1 : Nat) : Int)), .int .i64 (((p : Nat) : Int)), .slice (some ⟨g36, 0, none⟩) n n]) :: .row 32 2 (.slice (some ⟨g36, 0, none⟩) n n) n (za (List.replicate n (0, false))) :: .row 73 3 (.slice so42 (ds.length + 1) ca43) (ds.length + 1) (obD ds ++ [.int .i64 (((last + 1 : Nat) : Int)), .int .i64 (((p : Nat) : Int)), .slice (some ⟨g36, 0, none⟩) n n]) :: .obj g4 (.cells #[.int .i64 0, .int .i64 0, .int .i64 0, .slice none 0 0] 30) :: .obj g2 (.cells #[.int .i64 (((ss : Nat) : Int)), .int .i64 (((ls : Nat) : Int)), .int .i64 (((last + 1 : Nat) : Int)), .slice so42 (ds.length + 1) ca43] 30) :: [])) A M 10 rfl rfl rfl (qo rfl rfl rfl (by kernel_rfl) M 4 rfl rfl rfl) 4 rfl rfl rfl ?_)
  intro w44 M
  refine ⟨(M.sub (cn (cn (cn (cn (cn (List.nil_sublist _))))))), ?_⟩
  refine zi (by kernel_rfl) ?_
  refine hK24 _ _ (wsk fun K45 hK45 => zn (S := fun w1 => Mg w w1 (.obj g2 (.cells #[.int .i64 (((ss : Nat) : Int)), .int .i64 (((ls : Nat) : Int)), .int .i64 (((last + 1 : Nat) : Int)), .slice so42 (ds.length + 1) ca43] 30) :: [])) (by kernel_rfl) ?_)
  replace M := M.drew
  refine qf (v := .pointer (some ⟨g2, 2, none⟩)) A 0 rfl rfl rfl rfl hP (M.sub (cn (cn (cn (cn (cc (List.nil_sublist _))))))) (fun w1 M => qd HdC_fld_30_2 rfl rfl) λa A↦?_
  refine qf A 1 rfl rfl rfl rfl hP (M.sub (cn (cn (cn (cn (cc (List.nil_sublist _))))))) (fun w1 M => qh M HdC_is1_3 rfl 0 rfl rfl) λa A↦?_
  refine qf A 2 rfl rfl rfl rfl hP (M.sub (cn (cn (cn (cn (cc (List.nil_sublist _))))))) (fun w1 M => qq M HdC_isS_30 rfl 0 rfl (cs := [.int .i64 (((ss : Nat) : Int)), .int .i64 (((ls : Nat) : Int)), .int .i64 (((last + 1 : Nat) : Int)), .slice so42 (ds.length + 1) ca43]) rfl rfl) λa A↦?_
  refine qf A 3 rfl rfl rfl rfl hP (M.sub (cn (cn (cn (cn (cc (List.nil_sublist _))))))) (fun w1 M => qz rfl) λa A↦?_
  refine qf A 4 rfl rfl rfl rfl hP (M.sub (cn (cn (cn (cn (cc (List.nil_sublist _))))))) (fun w1 M => qz rfl) λa A↦?_
  refine zd (by kernel_rfl) (jh (us := [.int .i64 (((ss : Nat) : Int)), .int .i64 (((ls : Nat) : Int)), .int .i64 (((last + 1 : Nat) : Int)), .slice so42 (ds.length + 1) ca43]) (L' := (.row 73 3 (.slice (some ⟨g38, 0, none⟩) 1 1) 1 ([.int .i64 (((last + 1 : Nat) : Int)), .int .i64 (((p : Nat) : Int)), .slice (some ⟨g36, 0, none⟩) n n]) :: .row 32 2 (.slice (some ⟨g36, 0, none⟩) n n) n (za (List.replicate n (0, false))) :: .row 73 3 (.slice so42 (ds.length + 1) ca43) (ds.length + 1) (obD ds ++ [.int .i64 (((last + 1 : Nat) : Int)), .int .i64 (((p : Nat) : Int)), .slice (some ⟨g36, 0, none⟩) n n]) :: .obj g4 (.cells #[.int .i64 (((ss : Nat) : Int)), .int .i64 (((ls : Nat) : Int)), .int .i64 (((last + 1 : Nat) : Int)), .slice so42 (ds.length + 1) ca43] 30) :: .obj g2 (.cells #[.int .i64 (((ss : Nat) : Int)), .int .i64 (((ls : Nat) : Int)), .int .i64 (((last + 1 : Nat) : Int)), .slice so42 (ds.length + 1) ca43] 30) :: [])) A M 5 rfl rfl rfl (qo rfl rfl rfl (by kernel_rfl) M 3 rfl rfl rfl) 3 rfl rfl rfl ?_)
  intro w46 M
  refine ⟨(M.sub (cn (cn (cn (cn (cc (List.nil_sublist _))))))), ?_⟩
  refine zi (by kernel_rfl) ?_
  refine hK45 _ _ (wp_ret (hret _ _ (en3 A rfl (qi rfl) (qi rfl) (zk M HdC_isS_30 rfl 3 rfl (cs := [.int .i64 (((ss : Nat) : Int)), .int .i64 (((ls : Nat) : Int)), .int .i64 (((last + 1 : Nat) : Int)), .slice so42 (ds.length + 1) ca43]) rfl rfl) ?_)))
  replace M : Mg w w46 (.row 32 2 (.slice (some ⟨g36, 0, none⟩) n n) n (za (List.replicate n (0, false))) :: .row 73 3 (.slice (some ⟨g38, 0, none⟩) 1 1) 1 ([.int .i64 (((last + 1 : Nat) : Int)), .int .i64 (((p : Nat) : Int)), .slice (some ⟨g36, 0, none⟩) n n]) :: .row 73 3 (.slice so42 (ds.length + 1) ca43) (ds.length + 1) (obD ds ++ [.int .i64 (((last + 1 : Nat) : Int)), .int .i64 (((p : Nat) : Int)), .slice (some ⟨g36, 0, none⟩) n n]) :: .obj g4 (.cells #[.int .i64 (((ss : Nat) : Int)), .int .i64 (((ls : Nat) : Int)), .int .i64 (((last + 1 : Nat) : Int)), .slice so42 (ds.length + 1) ca43] 30) :: .obj g2 (.cells #[.int .i64 (((ss : Nat) : Int)), .int .i64 (((ls : Nat) : Int)), .int .i64 (((last + 1 : Nat) : Int)), .slice so42 (ds.length + 1) ca43] 30) :: []) := M.bring 1 rfl rfl
  replace M : Mg w w46 (.row 73 3 (.slice so42 (ds.length + 1) ca43) (ds.length + 1) (obD ds ++ [.int .i64 (((last + 1 : Nat) : Int)), .int .i64 (((p : Nat) : Int)), .slice (some ⟨g36, 0, none⟩) n n]) :: .row 32 2 (.slice (some ⟨g36, 0, none⟩) n n) n (za (List.replicate n (0, false))) :: .row 73 3 (.slice (some ⟨g38, 0, none⟩) 1 1) 1 ([.int .i64 (((last + 1 : Nat) : Int)), .int .i64 (((p : Nat) : Int)), .slice (some ⟨g36, 0, none⟩) n n]) :: .obj g4 (.cells #[.int .i64 (((ss : Nat) : Int)), .int .i64 (((ls : Nat) : Int)), .int .i64 (((last + 1 : Nat) : Int)), .slice so42 (ds.length + 1) ca43] 30) :: .obj g2 (.cells #[.int .i64 (((ss : Nat) : Int)), .int .i64 (((ls : Nat) : Int)), .int .i64 (((last + 1 : Nat) : Int)), .slice so42 (ds.length + 1) ca43] 30) :: []) := M.bring 2 rfl rfl
  replace M : Mg w w46 (.row 73 3 (.slice so42 (ds.length + 1) ca43) (ds.length + 1) (obD ds ++ [.int .i64 (((last + 1 : Nat) : Int)), .int .i64 (((p : Nat) : Int)), .slice (some ⟨g36, 0, none⟩) n n]) :: .row 32 2 (.slice (some ⟨g36, 0, none⟩) n n) n (za (List.replicate n (0, false))) :: []) := by
   have h9 := M.sub (cc (cc (cn (cn (cn (.refl _))))))
   exact h9
  rw [obD_nOb] at M
  exact ⟨_, _, _, rfl, M⟩
end Go.Proofs.Ytjjkcpmhlcjaoaa
