/- Maps of the call's own whose keys are ints, as pieces of memory: what each kind of step does to them. -/
import Derived.Test.YtcigofjajphmjaaMw
import Derived.Maps.RangeRun
namespace Go.Proofs.Ytcigofjajphmjaa
open Go.RowKit Go.MapKept
open Go.ChangeMaps (setBlock)
set_option linter.unusedVariables false
set_option linter.unusedSimpArgs false

/-- An entry: its key, its value, its stamp. -/
structure En where
  k : Int
  v : Value
  b : Nat
def En.e (x : En) : MapEntry := ⟨.int .i64 x.k, x.v, x.b⟩
/-- A map as an object. -/
def mapO (es : List En) (ck : Nat) : Obj := .map (es.map En.e).toArray ck
theorem quiet_map (es : List En) (ck : Nat) : quiet (mapO es ck) := fun c fz e => by cases e
theorem quiet_mit (m : Option Nat) (s : Nat) (seen : Array Nat) (c : Nat) : quiet (.mapIter m s seen c) := fun c fz e => by cases e
/-- The entry of a key. -/
def atK (x : Int) : List En → Option En
  | [] => none
  | e :: es => if e.k = x then some e else atK x es
/-- .. where it stands. -/
def placeK (x : Int) : List En → Nat
  | [] => 0
  | e :: es => if e.k = x then 0 else placeK x es + 1
/-- A key's value is changed. -/
def putK (x : Int) (v : Value) : List En → List En
  | [] => []
  | e :: es => if e.k = x then ⟨x, v, e.b⟩ :: es else e :: putK x v es
/-- A key goes. -/
def delK (x : Int) : List En → List En
  | [] => []
  | e :: es => if e.k = x then es else e :: delK x es
theorem find_now (x : Int) : ∀ (es : List En) (i : Nat), Instr.findNow (.int .i64) (.int .i64 x) (es.map En.e) i = some ((atK x es).map fun e => (i + placeK x es, e.v))
  | [], _ => rfl
  | e :: es, i => by
    simp only [List.map_cons, Instr.findNow, En.e, Instr.sameNow, if_true, atK, placeK]
    by_cases h : e.k = x
    · rw [if_pos h, if_pos h, h]; simp
    · rw [if_neg h, if_neg h]
      have : (x == e.k) = false := beq_false_of_ne (fun k => h k.symm)
      rw [this]
      have ih := find_now x es (i + 1)
      simp only [En.e] at ih ⊢
      rw [ih]
      cases atK x es <;> simp <;> omega
theorem atK_at {x : Int} : ∀ {es : List En} {e : En}, atK x es = some e → es[placeK x es]? = some e ∧ e.k = x
  | [], _, h => by cases h
  | a :: es, e, h => by
    simp only [atK, placeK] at h ⊢
    by_cases k : a.k = x
    · rw [if_pos k] at h; rw [if_pos k]; cases h; exact ⟨rfl, k⟩
    · rw [if_neg k] at h; rw [if_neg k]; exact atK_at h
theorem atK_mem {x : Int} {es : List En} {e : En} (h : atK x es = some e) : e ∈ es ∧ e.k = x := ⟨List.mem_of_getElem? (atK_at h).1, (atK_at h).2⟩
theorem atK_none {x : Int} : ∀ {es : List En}, atK x es = none → ∀ e ∈ es, e.k ≠ x
  | [], _, e, he => by cases he
  | a :: es, h, e, he => by
    simp only [atK] at h
    by_cases k : a.k = x
    · rw [if_pos k] at h; cases h
    · rw [if_neg k] at h
      rcases List.mem_cons.1 he with rfl | he
      · exact k
      · exact atK_none h e he
theorem atK_not {x : Int} : ∀ {es : List En}, (∀ e ∈ es, e.k ≠ x) → atK x es = none
  | [], _ => rfl
  | a :: es, h => by
    simp only [atK]
    rw [if_neg (h a (by simp))]
    exact atK_not fun e he => h e (by simp [he])
theorem putK_set {x : Int} {v : Value} : ∀ {es : List En} {e : En}, atK x es = some e → putK x v es = es.set (placeK x es) ⟨x, v, e.b⟩
  | [], _, h => by cases h
  | a :: es, e, h => by
    simp only [atK, placeK, putK] at h ⊢
    by_cases k : a.k = x
    · rw [if_pos k] at h; rw [if_pos k, if_pos k]; cases h; rfl
    · rw [if_neg k] at h; rw [if_neg k, if_neg k, List.set_cons_succ, putK_set h]
theorem delK_erase {x : Int} : ∀ {es : List En} {e : En}, atK x es = some e → delK x es = es.eraseIdx (placeK x es)
  | [], _, h => by cases h
  | a :: es, e, h => by
    simp only [atK, placeK, delK] at h ⊢
    by_cases k : a.k = x
    · rw [if_pos k, if_pos k]; rfl
    · rw [if_neg k] at h; rw [if_neg k, if_neg k, List.eraseIdx_cons_succ, delK_erase h]
section
variable {P : Program} {w0 w : World} {L : List Ck} {l : List (Nat × Value)} {dst : Option Tmp} {ty : TypeId} {pos : String} {after : Array Edge} {guard : Option (Nat × Bool)} {v : Value} {t kt et : TypeId}
theorem run_find (hk : P.underlying kt = some (.int .i64)) (x : Int) (es : List En) : (Instr.findKey kt (.int .i64 x) (es.map En.e)).run P w = .ok ((atK x es).map fun e => (placeK x es, e.v)) w := by
  have := MapKept.run_findKey (w := w) hk (find_now x es 0)
  simpa using this
theorem Mg.setObj (h : Mg w0 w L) (k : Nat) {g : Nat} {o o' : Obj} (hk : L[k]? = some (.obj g o)) (hq : quiet o') : Mg w0 (setBlock w g o') (L.set k (.obj g o')) := by
  have ho := h.obj k hk
  refine h.turn k hk (by simp) ⟨rfl, rfl, rfl, by simp [setBlock], fun j hj hne => (heap_set ho).2 j (fun e => hne (by rw [e]; rfl))⟩ ⟨(h.has k hk).1, (heap_set ho).1⟩ (fun c _ ha => ?_)
  cases c with
  | obj g' o' => exact ha
  | row e' sz' v' n' xs' => exact ha
  | bld b' bs' => exact ⟨ha.1, hq⟩
/-- A look at a key that is there. -/
theorem m_lookY (hM : Mg w0 w L) (ht : P.underlying t = some (.map kt et)) (hkt : P.underlying kt = some (.int .i64)) {x y : Operand} {c : Bool} {g ck : Nat} {z : Int} {es : List En} {e : En} (hx : ev l x = some (.map (some g))) (hy : ev l y = some (.int .i64 z)) (k : Nat) (hk : L[k]? = some (.obj g (mapO es ck))) (he : atK z es = some e)
    (hv : v = cond c (.tuple #[e.v, .bool true]) e.v) : Does P l ⟨dst, .lookup t x y c, ty, pos, after, guard⟩ w v w := fun ρ h => by
  subst hv
  have h1 := MapKept.run_getObj_map (P := P) (hM.obj k hk)
  have h2 : ∀ b : Bool, (Instr.checkKey b 10000 kt (.int .i64 z)).run P w = .ok () w := fun b => MapKept.run_checkKey hkt (by simp [IsKey]) b 9999
  have h3 := run_find (P := P) (w := w) hkt z es
  rw [he] at h3
  simp only [execOp, h x _ hx, h y _ hy, Instr.lookup, Sem.run_bind, run_underlying ht, Result.andThen_ok, h1, h2, h3, Option.map_some, Sem.run_pure]
  cases c <;> rfl
/-- .. that is not. -/
theorem m_lookN (hM : Mg w0 w L) (ht : P.underlying t = some (.map kt et)) (hkt : P.underlying kt = some (.int .i64)) {zv : Value} (hz : (P.info? et).map (·.zero) = some (some zv)) {x y : Operand} {c : Bool} {g ck : Nat} {z : Int} {es : List En} (hx : ev l x = some (.map (some g))) (hy : ev l y = some (.int .i64 z)) (k : Nat) (hk : L[k]? = some (.obj g (mapO es ck))) (he : atK z es = none)
    (hv : v = cond c (.tuple #[zv, .bool false]) zv) : Does P l ⟨dst, .lookup t x y c, ty, pos, after, guard⟩ w v w := fun ρ h => by
  subst hv
  have h1 := MapKept.run_getObj_map (P := P) (hM.obj k hk)
  have h2 : ∀ b : Bool, (Instr.checkKey b 10000 kt (.int .i64 z)).run P w = .ok () w := fun b => MapKept.run_checkKey hkt (by simp [IsKey]) b 9999
  have h3 := run_find (P := P) (w := w) hkt z es
  rw [he] at h3
  have h4 : (zeroValue et).run P w = .ok zv w := by
    cases hi : P.info? et with
    | none => rw [hi] at hz; cases hz
    | some i =>
      rw [hi] at hz
      simp only [Option.map_some, Option.some.injEq] at hz
      simp [zeroValue, typeInfo, hi, hz]
  simp only [execOp, h x _ hx, h y _ hy, Instr.lookup, Sem.run_bind, run_underlying ht, Result.andThen_ok, h1, h2, h3, Option.map_none, Sem.run_pure, h4]
  cases c <;> rfl
theorem sets_new (hM : Mg w0 w L) (ht : P.underlying t = some (.map kt et)) (hkt : P.underlying kt = some (.int .i64)) {x y u : Operand} {g ck : Nat} {z : Int} {es : List En} (hx : ev l x = some (.map (some g))) (hy : ev l y = some (.int .i64 z)) (hu : ev l u = some v) (k : Nat) (hk : L[k]? = some (.obj g (mapO es ck))) (he : atK z es = none) :
    Sets P l ⟨dst, .mapUpdate t x y u, ty, pos, after, guard⟩ w (setBlock w g (mapO (es ++ [⟨z, v, ck⟩]) (ck + 1))) := fun ρ h => by
  have ho := hM.obj k hk
  have h1 := MapKept.run_getObj_map (P := P) ho
  have h2 : ∀ b : Bool, (Instr.checkKey b 10000 kt (.int .i64 z)).run P w = .ok () w := fun b => MapKept.run_checkKey hkt (by simp [IsKey]) b 9999
  have h3 := run_find (P := P) (w := w) hkt z es
  rw [he] at h3
  have h4 := fun o' => MapKept.run_setObj_map (P := P) o' ho
  have e1 : (es.map En.e).toArray.push ⟨.int .i64 z, v, ck⟩ = ((es ++ [(⟨z, v, ck⟩ : En)]).map En.e).toArray := by simp [En.e]
  simp only [execOp, h x _ hx, h y _ hy, h u _ hu, Instr.mapUpdate, Sem.run_bind, run_underlying ht, Result.andThen_ok, h1, h2, h3, Option.map_none, Sem.run_pure, h4, e1]
  rfl
theorem sets_old (hM : Mg w0 w L) (ht : P.underlying t = some (.map kt et)) (hkt : P.underlying kt = some (.int .i64)) {x y u : Operand} {g ck : Nat} {z : Int} {es : List En} {e : En} (hx : ev l x = some (.map (some g))) (hy : ev l y = some (.int .i64 z)) (hu : ev l u = some v) (k : Nat) (hk : L[k]? = some (.obj g (mapO es ck))) (he : atK z es = some e) :
    Sets P l ⟨dst, .mapUpdate t x y u, ty, pos, after, guard⟩ w (setBlock w g (mapO (putK z v es) ck)) := fun ρ h => by
  have ho := hM.obj k hk
  have h1 := MapKept.run_getObj_map (P := P) ho
  have h2 : ∀ b : Bool, (Instr.checkKey b 10000 kt (.int .i64 z)).run P w = .ok () w := fun b => MapKept.run_checkKey hkt (by simp [IsKey]) b 9999
  have h3 := run_find (P := P) (w := w) hkt z es
  rw [he] at h3
  have h4 := fun o' => MapKept.run_setObj_map (P := P) o' ho
  obtain ⟨ha, hz⟩ := atK_at he
  have e0 : ((es.map En.e).toArray[placeK z es]?) = some e.e := by simp [ha]
  have e2 : (Instr.keyThatStays (.int .i64 z) (.int .i64 z)).run P w = .ok (.int .i64 z) w := MapKept.run_keyThatStays (d := .int .i64) (by simp [IsKey])
  have e1 : (es.map En.e).toArray.modify (placeK z es) (fun e => { e with key := .int .i64 z, val := v }) = ((putK z v es).map En.e).toArray := by
    apply Array.ext'
    rw [Array.toList_modify, Go.ChangeMaps.modify_eq_set _ _ _ e.e (by simp [ha]), putK_set he, List.map_set]
    rfl
  simp only [execOp, h x _ hx, h y _ hy, h u _ hu, Instr.mapUpdate, Sem.run_bind, run_underlying ht, Result.andThen_ok, h1, h2, h3, Option.map_some, Sem.run_pure, h4, e0, Option.getD_some, En.e, hz, e2]
  rw [e1]
  rfl
theorem sets_del (hM : Mg w0 w L) (ht : P.underlying t = some (.map kt et)) (hkt : P.underlying kt = some (.int .i64)) {x y : Operand} {g ck : Nat} {z : Int} {es : List En} {e : En} (hx : ev l x = some (.map (some g))) (hy : ev l y = some (.int .i64 z)) (k : Nat) (hk : L[k]? = some (.obj g (mapO es ck))) (he : atK z es = some e) :
    Does P l ⟨dst, .call ⟨.builtin .delete, #[x, y], #[t, kt]⟩, ty, pos, after, guard⟩ w (.tuple #[]) (setBlock w g (mapO (delK z es) ck)) := fun ρ h => by
  have ho := hM.obj k hk
  have h1 := MapKept.run_getObj_map (P := P) ho
  have h2 : ∀ b : Bool, (Instr.checkKey b 10000 kt (.int .i64 z)).run P w = .ok () w := fun b => MapKept.run_checkKey hkt (by simp [IsKey]) b 9999
  have h3 := run_find (P := P) (w := w) hkt z es
  rw [he] at h3
  have h4 := fun o' => MapKept.run_setObj_map (P := P) o' ho
  obtain ⟨ha, hz⟩ := atK_at he
  have e1 : (es.map En.e).toArray.eraseIdxIfInBounds (placeK z es) = ((delK z es).map En.e).toArray := by
    apply Array.ext'
    have hlt := (List.getElem?_eq_some_iff.1 ha).1
    unfold Array.eraseIdxIfInBounds
    rw [dif_pos (by simpa using hlt), delK_erase he, Go.ChangeMaps.map_eraseIdx]
    simp
  simp only [execOp, resolve, invoke, builtin, h x _ hx, h y _ hy, List.map_toArray, List.map_cons, List.map_nil, Sem.run_bind, Sem.run_pure, Result.andThen_ok, Builtin.delete_, run_underlying ht, h1, h2, h3, Option.map_some, h4, e1]
  simp [run_underlying ht, h1, h2, h3, h4, e1, Builtin.delete_, Result.andThen]
  rw [delK_erase he] at *
  simp [mapO, setBlock, Go.ChangeMaps.map_eraseIdx]
section
variable {ops : List Oper} {Q : Exit → Act → World → Prop} {a : Act} {n : Nat} {o : Oper} {rest : List Oper} {d : Nat} {S : World → Prop} {md : Region.Mode} {fuel : Nat} {listed : Array Bool}
theorem does_makeMap : Does P l ⟨dst, .makeMap t none, ty, pos, after, guard⟩ w (.map (some w.heap.size)) (w.alloc (mapO [] 0)) := fun ρ h => by
  simp [execOp, Instr.makeMap, mapO]
/-- A new map. -/
theorem s_makeMap (hA : Sl a n l) (hM : Mg w0 w L) (ho : o = ⟨dst, .makeMap t none, ty, pos, after, guard⟩) (hg : passes l ops o = true) (hdst : o.dst = some d) (hd : Nat.blt d n = true)
    (hk : ∀ g w', Mg w0 w' (.obj g (mapO [] 0) :: L) → ∀ a', Sl a' n ((d, .map (some g)) :: l) → wpList P ops.toArray Q rest a' w') : wpList P ops.toArray Q (o :: rest) a w := by
  subst ho
  exact seq_do hA hg hdst hd does_makeMap (hk _ _ (hM.addObj _ (quiet_map _ _)))
theorem g_makeMap (hA : Sl a n l) (hM : Mg w0 w L) (ho : o = ⟨dst, .makeMap t none, ty, pos, after, guard⟩) (i : Nat) (hi : ops[i]? = some o) (hg : passes l ops o = true) (hdst : o.dst = some d) (hd : Nat.blt d n = true)
    (hk : ∀ g w', Mg w0 w' (.obj g (mapO [] 0) :: L) → S w' ∧ ∀ a', Sl a' n ((d, .map (some g)) :: l) → wpAnyH P md ops.toArray Q S fuel (listed.setIfInBounds i true) a' w') : wpOp P ops.toArray Q i (fun a' w' => S w' ∧ wpAnyH P md ops.toArray Q S fuel (listed.setIfInBounds i true) a' w') a w := by
  subst ho
  have h := hk _ _ (hM.addObj _ (quiet_map [] 0))
  exact op_do hA i hi hg hdst hd does_makeMap h.1 h.2
/-- An object is changed by a step that answers nothing, or something. -/
theorem s_setObj (hA : Sl a n l) (hM : Mg w0 w L) (hg : passes l ops o = true) (hdst : o.dst = none) {g : Nat} {o1 o2 : Obj} (he : Sets P l o w (setBlock w g o2)) (k : Nat) (hk0 : L[k]? = some (.obj g o1)) (hq : quiet o2) {L' : List Ck} (hL : L.set k (.obj g o2) = L')
    (hk : ∀ w', Mg w0 w' L' → wpList P ops.toArray Q rest a w') : wpList P ops.toArray Q (o :: rest) a w :=
  seq_set hA hg hdst he (hk _ (hL ▸ hM.setObj k hk0 hq))
theorem g_setObj (hA : Sl a n l) (hM : Mg w0 w L) (i : Nat) (hi : ops[i]? = some o) (hg : passes l ops o = true) (hdst : o.dst = none) {g : Nat} {o1 o2 : Obj} (he : Sets P l o w (setBlock w g o2)) (k : Nat) (hk0 : L[k]? = some (.obj g o1)) (hq : quiet o2) {L' : List Ck} (hL : L.set k (.obj g o2) = L')
    (hk : ∀ w', Mg w0 w' L' → S w' ∧ wpAnyH P md ops.toArray Q S fuel (listed.setIfInBounds i true) a w') : wpOp P ops.toArray Q i (fun a' w' => S w' ∧ wpAnyH P md ops.toArray Q S fuel (listed.setIfInBounds i true) a' w') a w := by
  have h := hk _ (hL ▸ hM.setObj k hk0 hq)
  exact op_set hA i hi hg hdst he h.1 h.2
theorem s_doObj (hA : Sl a n l) (hM : Mg w0 w L) (hg : passes l ops o = true) (hdst : o.dst = some d) (hd : Nat.blt d n = true) {g : Nat} {o1 o2 : Obj} (he : Does P l o w v (setBlock w g o2)) (k : Nat) (hk0 : L[k]? = some (.obj g o1)) (hq : quiet o2) {L' : List Ck} (hL : L.set k (.obj g o2) = L')
    (hk : ∀ w', Mg w0 w' L' → ∀ a', Sl a' n ((d, v) :: l) → wpList P ops.toArray Q rest a' w') : wpList P ops.toArray Q (o :: rest) a w :=
  seq_do hA hg hdst hd he (hk _ (hL ▸ hM.setObj k hk0 hq))
/-- A range over a map begins. -/
theorem s_rangeM (hA : Sl a n l) (hM : Mg w0 w L) {x : Operand} {g ck : Nat} {es : List En} (ho : o = ⟨dst, .range t x, ty, pos, after, guard⟩) (ht : P.underlying t = some (.map kt et)) (hx : ev l x = some (.map (some g))) (k : Nat) (hk0 : L[k]? = some (.obj g (mapO es ck))) (hg : passes l ops o = true) (hdst : o.dst = some d) (hd : Nat.blt d n = true)
    (hk : ∀ r w', Mg w0 w' (.obj r (.mapIter (some g) ck #[] ck) :: L) → ∀ a', Sl a' n ((d, .pointer (some ⟨r, 0, none⟩)) :: l) → wpList P ops.toArray Q rest a' w') : wpList P ops.toArray Q (o :: rest) a w := by
  refine seq_do hA hg hdst hd (v := .pointer (some ⟨w.heap.size, 0, none⟩)) (w' := w.alloc (.mapIter (some g) ck #[] ck)) ?_ (hk _ _ (hM.addObj _ (quiet_mit _ _ _ _)))
  subst ho
  intro ρ h
  have := run_range_map (P := P) w t kt et g _ ck ht (hM.obj k hk0)
  simp only [execOp, h x _ hx, Sem.run_bind, this, Result.andThen_ok, Sem.run_pure]
/-- What is still to come. -/
def leftE (es : List En) (seen : List Nat) : List En := es.filter fun e => !seen.contains e.b
theorem leftE_is (es : List En) (seen : List Nat) : (leftOf (es.map En.e).toArray seen.toArray).toList = (leftE es seen).map En.e := by
  unfold leftOf leftE
  rw [Array.toList_filter, List.filter_map]
  congr 1
  apply List.filter_congr
  intro e _
  simp [En.e]
  exact decide_eq_decide.2 Iff.rfl
/-- .. goes on with any that is left, or is over. -/
theorem s_nextM (hA : Sl a n l) (hM : Mg w0 w L) {x : Operand} {r g ck since c0 : Nat} {seen : List Nat} {es : List En} (ho : o = ⟨dst, .next x false, ty, pos, after, guard⟩) (hx : ev l x = some (.pointer (some ⟨r, 0, none⟩))) (k j : Nat) (hk0 : L[k]? = some (.obj r (.mapIter (some g) since seen.toArray c0))) (hj0 : L[j]? = some (.obj g (mapO es ck))) (hold : ∀ e ∈ es, e.b < since) (hsc : since ≤ c0) (hg : passes l ops o = true) (hdst : o.dst = some d) (hd : Nat.blt d n = true) {L' : En → List Ck} (hL : ∀ e, L.set k (.obj r (.mapIter (some g) since (seen ++ [e.b]).toArray ck)) = L' e)
    (h0 : leftE es seen = [] → ∀ a', Sl a' n ((d, .tuple #[.bool false]) :: l) → wpList P ops.toArray Q rest a' w)
    (h1 : ∀ e ∈ leftE es seen, ∀ w', Mg w0 w' (L' e) → ∀ a', Sl a' n ((d, .tuple #[.bool true, .int .i64 e.k, e.v]) :: l) → wpList P ops.toArray Q rest a' w') : wpList P ops.toArray Q (o :: rest) a w := by
  subst ho
  have hr := hM.obj k hk0
  have hb := hM.obj j hj0
  rcases run_next_at (P := P) w ty r g since c0 seen.toArray (es.map En.e).toArray ck hr hb (fun q hq => by
      simp only [List.mem_map] at hq
      obtain ⟨e, he, rfl⟩ := hq
      exact hold e he) hsc with ⟨hz, hrun⟩ | ⟨e, he, w1, hw1, hrun⟩
  · refine seq_do hA hg hdst hd (v := .tuple #[.bool false]) (w' := w) (fun ρ h => ?_) (h0 ?_)
    · simp only [execOp, h x _ hx, Sem.run_bind, hrun, Result.andThen_ok, Sem.run_pure]
    · have := leftE_is es seen
      rw [Array.eq_empty_of_size_eq_zero hz] at this
      exact List.map_eq_nil_iff.1 this.symm
  · rw [leftE_is] at he
    obtain ⟨q, hq, rfl⟩ := List.mem_map.1 he
    have hM1 : Mg w0 w1 L := by rcases hw1 with rfl | rfl; exact hM; exact hM.drew
    refine seq_do hA hg hdst hd (v := .tuple #[.bool true, .int .i64 q.k, q.v]) (w' := setBlock w1 r (.mapIter (some g) since (seen ++ [q.b]).toArray ck)) (fun ρ h => ?_) (h1 q hq _ (hL q ▸ hM1.setObj k hk0 (quiet_mit _ _ _ _)))
    simp only [execOp, h x _ hx, Sem.run_bind, hrun, Result.andThen_ok, Sem.run_pure]
    simp [En.e]
/-- The entry that came last. -/
theorem m_entry (hM : Mg w0 w L) {x : Operand} {r g ck since : Nat} {seen : List Nat} {es : List En} {e : En} (hx : ev l x = some (.pointer (some ⟨r, 0, none⟩))) (k j : Nat) (hk0 : L[k]? = some (.obj r (.mapIter (some g) since (seen ++ [e.b]).toArray ck))) (hj0 : L[j]? = some (.obj g (mapO es ck))) (he : e ∈ es) (hn : (es.map En.b).Nodup) :
    Does P l ⟨dst, .entry x, ty, pos, after, guard⟩ w (.tuple #[.int .i64 e.k, e.v]) w := fun ρ h => by
  have hr := hM.obj k hk0
  rw [show (seen ++ [e.b]).toArray = seen.toArray.push e.e.born from by simp [En.e]] at hr
  have := run_entry_at (P := P) w r g since seen.toArray (es.map En.e).toArray ck e.e hr (hM.obj j hj0) (by simp; exact ⟨e, he, rfl⟩) (by simpa [List.map_map, Function.comp_def, En.e] using hn)
  simp only [execOp, h x _ hx, Sem.run_bind, this, Result.andThen_ok, Sem.run_pure]
  rfl
end
end
theorem bring_perm {α : Type} : ∀ (L : List α) (k : Nat) (c : α), L[k]? = some c → L.Perm (c :: L.eraseIdx k)
  | [], _, _, h => by simp at h
  | a :: t, 0, c, h => by cases h; exact .refl _
  | a :: t, k + 1, c, h => ((bring_perm t k c (by simpa using h)).cons a).trans (.swap c a _)
/-- A piece is put first. -/
theorem Mg.bring {w0 w : World} {L L' : List Ck} (h : Mg w0 w L) (k : Nat) {c : Ck} (hk : L[k]? = some c) (hL : c :: L.eraseIdx k = L') : Mg w0 w L' := by
  subst hL
  exact h.perm (bring_perm L k c hk)
section
variable {P : Program} {t : TypeId} {x y : Operand}
theorem bin_nilY {e : TypeId} (hu : P.underlying t = some (.pointer e)) : ∀ w, (do eqGuard .eql t x y (.pointer none) (.pointer none); binOp .eql t (.pointer none) (.pointer none) : Sem Value).run P w = .ok (.bool true) w := fun w => by simp [go_sem, hu, run_underlying hu]
theorem bin_nilN {e : TypeId} (hu : P.underlying t = some (.pointer e)) {a : Addr} : ∀ w, (do eqGuard .eql t x y (.pointer (some a)) (.pointer none); binOp .eql t (.pointer (some a)) (.pointer none) : Sem Value).run P w = .ok (.bool false) w := fun w => by simp [go_sem, hu, run_underlying hu]
theorem does_nilq {w : World} {l : List (Nat × Value)} {dst : Option Tmp} {ty : TypeId} {pos : String} {after : Array Edge} {guard : Option (Nat × Bool)} {x : Operand} {a : Addr} (hx : ev l x = some (.pointer (some a))) : Does P l ⟨dst, .nilCheck x, ty, pos, after, guard⟩ w (.pointer (some a)) w := fun ρ h => by
  simp only [execOp, h x _ hx]; rfl
end
end Go.Proofs.Ytcigofjajphmjaa
