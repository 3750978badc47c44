/- Qd RdX TrC RdY RdZ ReA EqO Ov RsA ReB ReC Qb ReD ReE -/
import Derived.Test.YtclkfideaameoaaGreatDoorPdatumb11f
import Derived.Test.YtclkfideaameoaaGreatDoorPdatumb11h
import Derived.Test.YtclkfideaameoaaGreatDoorPdatumb11g
import Derived.Defers
import Derived.Recover
import Derived.Test.YtclkfideaameoaaGreatDoorPdatumb11i
import Derived.KernelRfl
import Derived.Test.YtclkfideaameoaaGreatDoorPdatumb11d
import Derived.Test.YtclkfideaameoaaGreatDoorRows
import Derived.Handed
import Derived.FnData
import Derived.LaidLaws
import Derived.Lib.LaidU8
set_option linter.unusedVariables false
set_option linter.unusedSimpArgs false
set_option maxHeartbeats 1000000
namespace Go.Proofs.YtclkfideaameoaaGreatDoor.G
open Go.RowKit

structure Sf (ds : List Deferred) (a : Act) (n : Nat) (l : List (Nat × Value)) : Prop where
 sl : Sl { a with defers := [] } n l
 df : a.defers = ds
section
variable {P : Program} {ops : List Oper} {Q : Exit → Act → World → Prop} {a : Act} {w w' : World} {n : Nat} {l : List (Nat × Value)} {o : Oper} {v : Value} {rest : List Oper} {ds : List Deferred}
theorem Sf.ev (h : Sf ds a n l) {x : Operand} {v : Value} (hx : ev l x = some v) : a.eval x = v := h.sl.ev hx
theorem Sf.put (h : Sf ds a n l) {d : Nat} (hd : Nat.blt d n = true) (v : Value) : Sf ds (a.put (some d) v) n ((d, v) :: l) := ⟨h.sl.put hd v, h.df⟩
theorem Sf.keep (h : Sf ds a n l) (l' : List (Nat × Value)) (hs : AllIn l l') : Sf ds a n l' := ⟨h.sl.keep l' hs, h.df⟩
theorem Sf.wanted (h : Sf ds a n l) (hp : zb l ops o = true) : Region.wanted o (yielded ops.toArray a.tmps) = true := h.sl.wanted hp
theorem Sf.unwanted (h : Sf ds a n l) (hp : uu l ops o = true) : Region.wanted o (yielded ops.toArray a.tmps) = false := h.sl.unwanted hp
theorem jg (A : Sf ds a n l) (hg : zb l ops o = true) {d : Nat} (hdst : o.dst = some d) (hd : Nat.blt d n = true) (he : Does P l o w v w')
  (hk : ∀ a', Sf ds a' n ((d, v) :: l) → wpList P ops.toArray Q rest a' w') : wpList P ops.toArray Q (o :: rest) a w := by
 unfold wpList
 rw [if_pos (A.wanted hg)]
 refine .inl ?_
 unfold Oper.wp
 rw [he a.eval (fun x u hx => A.ev hx), Oper.upon_value, hdst]
 exact hk _ (A.put hd v)
theorem zrf (A : Sf ds a n l) (hg : zb l ops o = true) (hdst : o.dst = none) (he : Sets P l o w w')
  (hk : wpList P ops.toArray Q rest a w') : wpList P ops.toArray Q (o :: rest) a w := by
 unfold wpList
 rw [if_pos (A.wanted hg)]
 refine .inl ?_
 unfold Oper.wp
 rw [he a.eval (fun x u hx => A.ev hx), Oper.upon_skip, hdst]
 exact hk
theorem zka (A : Sf ds a n l) (hg : uu l ops o = true) {d : Nat} (hdst : o.dst = some d) (hd : Nat.blt d n = true)
  (hk : ∀ a', Sf ds a' n ((d, undef) :: l) → wpList P ops.toArray Q rest a' w) : wpList P ops.toArray Q (o :: rest) a w := by
 unfold wpList
 rw [A.unwanted hg, if_neg (by simp), hdst]
 exact hk _ (A.put hd undef)
theorem kv (A : Sf ds a n l) (hg : zb l ops o = true) {d : Nat} (hdst : o.dst = some d) (hd : Nat.blt d n = true) {f : FuncId} {vs : List Value} (he : Enters P l o w f vs)
  {R : Ending → World → Prop} (hc : Calls P f vs.toArray w R)
  (hk : ∀ e w', R e w' → ∃ v, e = .returned v ∧ ∀ a', Sf ds a' n ((d, v) :: l) → wpList P ops.toArray Q rest a' w') : wpList P ops.toArray Q (o :: rest) a w := by
 unfold wpList
 rw [if_pos (A.wanted hg)]
 refine .inl ?_
 unfold Oper.wp
 rw [he a.eval (fun x u hx => A.ev hx), Oper.upon_enter]
 refine hc.mono ?_
 intro e w' hR
 obtain ⟨v, rfl, h⟩ := hk e w' hR
 simp only [hdst]
 exact h _ (A.put hd v)
theorem qda (A : Sf ds a n l) (hg : zb l ops o = true) {d : Nat} (hdst : o.dst = some d) (hd : Nat.blt d n = true) {f : FuncId} {vs : List Value} (he : Enters P l o w f vs)
  {R : Ending → World → Prop} (hc : Calls P f vs.toArray w R)
  (hk : ∀ e w', R e w' → (∃ ch, e = .panicked ch ∧ Q (.panic ch) a w') ∨ ∃ v, e = .returned v ∧ ∀ a', Sf ds a' n ((d, v) :: l) → wpList P ops.toArray Q rest a' w') : wpList P ops.toArray Q (o :: rest) a w := by
 unfold wpList
 rw [if_pos (A.wanted hg)]
 refine .inl ?_
 unfold Oper.wp
 rw [he a.eval (fun x u hx => A.ev hx), Oper.upon_enter]
 refine hc.mono ?_
 intro e w' hR
 rcases hk e w' hR with ⟨ch, rfl, h⟩ | ⟨v, rfl, h⟩
 ·
  exact h
 ·
  simp only [hdst]
  exact h _ (A.put hd v)
theorem zec (A : Sf ds a n l) (hg : zb l ops o = true) (hdst : o.dst = none) {d : Deferred} (he : ∀ ρ : Operand → Value, (∀ x u, ev l x = some u → ρ x = u) → (execOp ρ o).run P w = .ok (.defer d) w)
  (hk : ∀ a', Sf (d :: ds) a' n l → wpList P ops.toArray Q rest a' w) : wpList P ops.toArray Q (o :: rest) a w := by
 unfold wpList
 rw [if_pos (A.wanted hg)]
 refine .inl ?_
 unfold Oper.wp
 rw [he a.eval (fun x u hx => A.ev hx), Oper.upon_defer, hdst]
 refine hk _ ⟨A.sl, ?_⟩
 show d :: a.defers = _
 rw [A.df]
variable {w0 : World} {L : List Ck} {d : Nat}
theorem qsa (A : Sf ds a n l) (M : Mg w0 w L) (hg : zb l ops o = true) (hdst : o.dst = some d) (hd : Nat.blt d n = true) {vs : List Value} {t : TypeId} (val : Nat → Value) (he : Does P l o w (val w.heap.size) (w.alloc (.cells vs.toArray t))) (ht : t ≠ BY)
  (hk : ∀ g w', Mg w0 w' (.obj g (.cells vs.toArray t) :: L) → ∀ a', Sf ds a' n ((d, val g) :: l) → wpList P ops.toArray Q rest a' w') : wpList P ops.toArray Q (o :: rest) a w :=
 jg A hg hdst hd he (hk _ _ (M.addObj _ (jx ht)))
theorem xy (A : Sf ds a n l) (M : Mg w0 w L) (hg : zb l ops o = true) (hdst : o.dst = none) {g q : Nat} {cs vs us : List Value} {e : TypeId} (he : Sets P l o w (w.setCells g q cs)) (k : Nat) (hk0 : L[k]? = some (.obj g (.cells vs.toArray e))) (hus : over vs q cs = us) {L' : List Ck} (hL : L.set k (.obj g (.cells us.toArray e)) = L')
  (hk : ∀ w', Mg w0 w' L' → wpList P ops.toArray Q rest a w') : wpList P ops.toArray Q (o :: rest) a w :=
 zrf A hg hdst he (hk _ (by subst hus hL; exact Mg.puts cs w L vs q M k hk0))
theorem ye {fn : Func} (A : Sf ds a n l) {rs : List ResultVar} (hrs : fn.results = rs.toArray) {vs : List Value} (hvs : AllRes P l w rs vs) (hv : yi vs = v) : (results fn a.tmps).run P w = .ok v w := by
 obtain ⟨_, u, h1, h2⟩ := yn (P := P) (fn := fn) (Z := fun e _ => e = .returned v) A.sl hrs hvs hv rfl
 cases h2
 exact h1
theorem un {fn : Func} {t1 t2 : Array Value} {R : Ending → World → Prop} (h : results fn t1 = results fn t2) : ∀ (ds : List Deferred) (u : FrameMode) (w : World), Leaves P fn t1 R ds u w → Leaves P fn t2 R ds u w
 | [], .returning, w, ⟨v, h1, h2⟩ => ⟨v, h ▸ h1, h2⟩
 | [], .panicking _, w, k => k
 | [], .run, w, k => k
 | d :: ds, u, w, ⟨hu, fv, cap, f, args, h1, h2, h3⟩ => ⟨hu, fv, cap, f, args, h1, h2, h3.mono fun e u' w' k => by
  cases e with
  | returned v => exact un h ds _ _ k
  | panicked ch => exact un h ds _ _ k
  | outgrown => exact k⟩
theorem zrg {f : FuncId} {fn : Func} {c : Code} {args : List Value} {Z : Ending → World → Prop} {ok : Nat → Prop} (hres : ∀ (d : Nat) (t : Array Value) (v : Value), ok d → results fn (t.setIfInBounds d v) = results fn t) (hf : P.funcs[f]? = some fn) (hb : fn.body = some c) (hn : fn.ntmps = n) (hl : Nat.ble args.length n = true) (hs : (args.zipIdx.map fun p => (p.2, p.1)) = l)
  (h : ∀ Q : Exit → Act → World → Prop, (∀ a w, bodyPostD P fn Z .ret a w → Q .ret a w) → (∀ ch a w, bodyPostD P fn Z (.panic ch) a w → Q (.panic ch) a w) → (∀ c a d v w, ok d → Q (.panic c) (Act.put a (some d) v) w → Q (.panic c) a w) → ∀ a, Sf [] a n l → c.wp P Q a w) : Calls P f args.toArray w Z := by
 subst hs
 refine calls_of_wp_defers hf hb (h _ (fun _ _ h => h) (fun _ _ _ h => h) (fun c a d v w hk hq => ?_) _ ⟨?_, rfl⟩)
 ·
  exact un (hres d a.tmps v hk) _ _ _ hq
 ·
  rw [hn]
  exact Sl.enter (Nat.le_of_ble_eq_true hl)
section
variable {S : World → Prop} {md : Region.Mode} {fuel : Nat} {listed : Array Bool}
theorem qsb {ok : Nat → Prop} (A : Sf ds a n l) (i : Nat) (hi : ops[i]? = some o) (hg : zb l ops o = true) {d : Nat} (hdst : o.dst = some d) (hd : Nat.blt d n = true) (hP : ∀ c a d v w, ok d → Q (.panic c) (Act.put a (some d) v) w → Q (.panic c) a w) (V : S w) (he : ∀ w, S w → Does P l o w v w)
  (hk : ∀ a', Sf ds a' n ((d, v) :: l) → wpAnyH P md ops.toArray Q S fuel (listed.setIfInBounds i true) a' w) (hok : ok d) (hs : Region.noSelect ops.toArray = true := by kernel_rfl) (hf : Region.free md ops.toArray listed i = true := by kernel_rfl) (hr : (Region.ready md ops.toArray listed).contains i = true := by kernel_rfl) : wpAnyH P md ops.toArray Q S (fuel + 1) listed a w := by
 refine wpAnyH_take (i := i) (oi := o) (v := v) (by simpa using hi) hs hf hr (fun c a w h => by rw [hdst] at h; exact hP c a d v w hok h) (Or.inl ⟨A.wanted hg, fun w hw => he w hw a.eval (fun x u hx => A.ev hx)⟩) V ?_
 rw [hdst]
 exact hk _ (A.put hd v)
theorem zyb (A : Sf ds a n l) (i : Nat) (hi : ops[i]? = some o) (hg : zb l ops o = true) (hdst : o.dst = none) (he : Sets P l o w w') (V : S w')
  (hk : wpAnyH P md ops.toArray Q S fuel (listed.setIfInBounds i true) a w') : wpOp P ops.toArray Q i (fun a' w' => S w' ∧ wpAnyH P md ops.toArray Q S fuel (listed.setIfInBounds i true) a' w') a w := by
 unfold wpOp
 simp only [List.getElem?_toArray, hi]
 rw [if_pos (A.wanted hg)]
 refine .inl ?_
 unfold Oper.wp
 rw [he a.eval (fun x u hx => A.ev hx), Oper.upon_skip, hdst]
 exact ⟨V, hk⟩
theorem qlj (A : Sf ds a n l) (M : Mg w0 w L) (i : Nat) (hi : ops[i]? = some o) (hg : zb l ops o = true) (hdst : o.dst = none) {g q : Nat} {cs vs us : List Value} {e : TypeId} (he : Sets P l o w (w.setCells g q cs)) (k : Nat) (hk0 : L[k]? = some (.obj g (.cells vs.toArray e))) (hus : over vs q cs = us) {L' : List Ck} (hL : L.set k (.obj g (.cells us.toArray e)) = L')
  (hk : ∀ w', Mg w0 w' L' → S w' ∧ wpAnyH P md ops.toArray Q S fuel (listed.setIfInBounds i true) a w') : wpOp P ops.toArray Q i (fun a' w' => S w' ∧ wpAnyH P md ops.toArray Q S fuel (listed.setIfInBounds i true) a' w') a w := by
 have h := hk _ (by subst hus hL; exact Mg.puts cs w L vs q M k hk0)
 exact zyb A i hi hg hdst he h.1 h.2
end
theorem qfd {fn : Func} {Z : Ending → World → Prop} {fv : Fn} {cap : Array Value} {f : FuncId} {args : Array Value} (A : Sf [{ target := .fn fv cap, args := #[] }] a n l) (hi : (invoke (.fn fv cap) #[]).run P w = .ok (.enter f args) w) (hc : CallsD P f args .returning w fun e u' w' => (∃ v, e = .returned v) ∧ u' = .returning ∧ w' = w) (hr : (results fn a.tmps).run P w = .ok v w) (hz : Z (.returned v) w) : bodyPostD P fn Z .ret a w := by
 show Leaves P fn a.tmps Z a.defers .returning w
 rw [A.df]
 refine leaves_cons (by simp) hi (hc.mono ?_)
 rintro e u' w' ⟨⟨u, rfl⟩, rfl, rfl⟩
 exact ⟨v, hr, hz⟩
theorem qxi {fn : Func} {Z : Ending → World → Prop} {fv : Fn} {cap : Array Value} {f : FuncId} {args : Array Value} {ch : List PanicEntry} {K : World → Prop} (A : Sf [{ target := .fn fv cap, args := #[] }] a n l) (hi : (invoke (.fn fv cap) #[]).run P w = .ok (.enter f args) w) (hc : CallsD P f args (.panicking ch) w fun e u' w' => (∃ v, e = .returned v) ∧ settle u' = .returning ∧ K w') (hr : ∀ w', K w' → ∃ v, (results fn a.tmps).run P w' = .ok v w' ∧ Z (.returned v) w') : bodyPostD P fn Z (.panic ch) a w := by
 show Leaves P fn a.tmps Z a.defers (.panicking ch) w
 rw [A.df]
 refine leaves_cons (by simp) hi (hc.mono ?_)
 rintro e u' w' ⟨⟨u, rfl⟩, h2, h3⟩
 show Leaves P fn a.tmps Z [] (settle u') w'
 rw [h2]
 exact hr w' h3
theorem zyc {Q : Exit → Act → List Frame → World → Prop} {cs cs' : List Frame} {id : Nat} {o0 o1 : Oper} {d0 d1 : Nat} (A : Sl a n l) (hg0 : o0.guard = none) (hd0 : o0.dst = some d0) (hn0 : Nat.blt d0 n = true) (hg1 : o1.guard = none) (hd1 : o1.dst = some d1) (hn1 : Nat.blt d1 n = true) (he0 : ∀ (ρ : Operand → Value) (w : World), (execOp ρ o0).run P w = .ok .recover w) (hrec : recoverD cs = some (v, cs') ∨ recoverD cs = none ∧ v = .nilIface ∧ cs' = cs) (he1 : Does P ((d0, v) :: l) o1 w v w) (hk : ∀ a', Sl a' n ((d1, v) :: (d0, v) :: l) → Q .normal a' cs' w) : (Code.region id #[o0, o1] false).wpS P Q a cs w := by
 apply wpS_region
 show wpOpsS P #[o0, o1] Q [0, 1] a cs w
 have h0 : wpOpsS P #[o0, o1] Q [1] (a.put (some d0) v) cs' w := by
  have hA2 := A.put hn0 v
  have e1 : (execOp (a.put (some d0) v).eval o1).run P w = .ok (.value v) w := he1 _ (fun x u hx => hA2.ev hx)
  have w1 : Region.wanted o1 (yielded #[o0, o1] (a.put (some d0) v).tmps) = true := by unfold Region.wanted; rw [hg1]
  simp only [wpOpsS, show (#[o0, o1] : Array Oper)[1]? = some o1 from rfl, w1, if_true, e1, Oper.upon_value, hd1]
  exact hk _ (hA2.put hn1 v)
 have e0 : (execOp a.eval o0).run P w = .ok .recover w := he0 _ _
 have w0 : Region.wanted o0 (yielded #[o0, o1] a.tmps) = true := by unfold Region.wanted; rw [hg0]
 rw [wpOpsS]
 simp only [show (#[o0, o1] : Array Oper)[0]? = some o0 from rfl, w0, if_true, e0, hd0]
 rcases hrec with h | ⟨h, rfl, rfl⟩
 ·
  simp only [h]; exact h0
 ·
  simp only [h]; exact h0
theorem qma {fn : Func} {c₀ : Frame} {cs cs' : List Frame} {R : Ending → FrameMode → World → Prop} {id : Nat} {o0 o1 : Oper} {d0 d1 : Nat} {y : Code} (A : Sl a n l) (hg0 : o0.guard = none) (hd0 : o0.dst = some d0) (hn0 : Nat.blt d0 n = true) (hg1 : o1.guard = none) (hd1 : o1.dst = some d1) (hn1 : Nat.blt d1 n = true) (he0 : ∀ (ρ : Operand → Value) (w : World), (execOp ρ o0).run P w = .ok .recover w) (hrec : recoverD (c₀ :: cs) = some (v, cs') ∨ recoverD (c₀ :: cs) = none ∧ v = .nilIface ∧ cs' = c₀ :: cs) (he1 : Does P ((d0, v) :: l) o1 w v w)
  (hk : ∀ Q : Exit → Act → World → Prop, (∀ a w, bodyPostS P fn c₀ cs R .ret a cs' w → Q .ret a w) → (∀ a w, bodyPostS P fn c₀ cs R .ret a cs' w → Q .normal a w) → ∀ a', Sl a' n ((d1, v) :: (d0, v) :: l) → y.wp P Q a' w) : (Code.seq (Code.region id #[o0, o1] false) y).wpS P (bodyPostS P fn c₀ cs R) a (c₀ :: cs) w :=
 wpS_seq (zyc A hg0 hd0 hn0 hg1 hd1 hn1 he0 hrec he1 fun a' hA' => wpS_of_wp (hk _ (fun _ _ h => h) (fun _ _ h => h) a' hA'))
end
set_option maxRecDepth 100000
theorem qhj {g2 g3 g4 : Nat} : Sl { tmps := #[(pA g2 0), (pA g3 0), (pA g4 0)] ++ Array.replicate (Tryz.f19.ntmps - #[(pA g2 0), (pA g3 0), (pA g4 0)].size) undef, defers := [] } 18 [(0, pA g2 0), (1, pA g3 0), (2, pA g4 0)] := by
 have h := Sl.enter (args := [pA g2 0, pA g3 0, pA g4 0]) (m := 18) (Nat.le_of_ble_eq_true rfl)
 exact h
theorem zkb {P : Program} {t : TypeId} {x : Operand} {c : Value} (h : P.underlying t = some (.interface (P.methodsAt t))) : ∀ w, (do eqGuard .eql t x (.const c) .nilIface .nilIface; binOp .eql t .nilIface .nilIface : Sem Value).run P w = .ok (bV true) w := fun w => by simp [go_sem, run_eql_nil_nil w t h]
theorem zyd (w : World) (v : Value) : (Instr.typeAssert (.iface 47 v) 20 47 true).run Tryz.prog w = .ok (.tuple #[v, bV true]) w := by kernel_rfl
theorem qsc {w : World} {l : List (Nat × Value)} {dst : Option Tmp} {ty : TypeId} {pos : String} {after : Array Edge} {guard : Option (Nat × Bool)} {x : Operand} {v : Value} (hx : ev l x = some (.iface 47 v)) : Does Tryz.prog l ⟨dst, .typeAssert x 20 47 true, ty, pos, after, guard⟩ w (.tuple #[v, bV true]) w := fun ρ h => by
 simp [execOp, h x _ hx, zyd w v]
theorem qxj {P : Program} {t : TypeId} {x y : Operand} {ty : TypeId} {q : Value} (h : P.underlying t = some (.interface (P.methodsAt t))) : ∀ w, (do eqGuard .eql t x y (.iface ty q) .nilIface; binOp .eql t (.iface ty q) .nilIface : Sem Value).run P w = .ok (bV false) w := fun w => by simp [go_sem, run_eql_held_nil w t ty q h]
theorem qof {P : Program} {fn : Func} {tmps : Array Value} {w : World} (h : fn.results = #[]) : (results fn tmps).run P w = .ok (.tuple #[]) w := by
 unfold results
 simp [h]
theorem uq {w : World} {g2 g3 g4 : Nat} : CallsD Tryz.prog 19 #[(pA g2 0), (pA g3 0), (pA g4 0)] .returning w fun e u' w' => (∃ v, e = .returned v) ∧ u' = .returning ∧ w' = w := by
 refine callsD_of_wpS Tryz.func19 rfl fun c₀ cs hu => ?_
 refine qma (v := .nilIface) qhj rfl rfl rfl rfl rfl rfl (fun ρ w => rfl) (.inr ⟨by simp [recoverD, hu], rfl, rfl⟩) (zd rfl) ?_
 intro Q hret hnorm a A
 have M : Mg w w ([]) := Mg.start w
 refine wsk fun K1 hK1 => wsk fun K2 hK2 => wrl (sdm A λa A↦?_)
 refine sdo (v := bV true) A (qb rfl rfl (zkb Tryz.underlying20)) λa A↦?_
 refine qa (hK2 _ _ (wp_cond_true (A.ev rfl) ?_))
 refine wp_ret (hret _ _ ?_)
 exact ⟨A.none_, .returning, by rw [← hu], _, qof rfl, ⟨_, rfl⟩, rfl, rfl⟩
theorem zkc {w0 w : World} {g2 g3 g4 : Nat} {v0 v1 v2 v3 v4 v5 v6 v7 v8 v9 v10 x3 x4 : Value} {T : List Ck} (hM0 : Mg w0 w (.obj g2 (.cells #[v0, v1, v2, v3, v4, v5, v6, v7, v8, v9, v10] 30) :: .obj g3 (.cells #[x3] 3) :: .obj g4 (.cells #[x4] 31) :: T)) : CallsD Tryz.prog 19 #[(pA g2 0), (pA g3 0), (pA g4 0)] (.panicking flt) w fun e u' w' => (∃ v, e = .returned v) ∧ settle u' = .returning ∧ Mg w0 w' (.obj g2 zC :: .obj g3 (.cells #[iV 0] 3) :: .obj g4 (.cells #[iV 5] 31) :: T) := by
 refine callsD_of_wpS Tryz.func19 rfl fun c₀ cs hu => ?_
 refine qma (v := .iface 47 (.agg #[])) qhj rfl rfl rfl rfl rfl rfl (fun ρ w => rfl) (cs' := { c₀ with mode := .panicking [{ v := .iface 47 (.agg #[]), recovered := true }] } :: cs) (.inl (by simp [recoverD, hu, flt])) (zd rfl) ?_
 intro Q hret hnorm a A
 have M : Mg w0 w (.obj g2 (.cells #[v0, v1, v2, v3, v4, v5, v6, v7, v8, v9, v10] 30) :: .obj g3 (.cells #[x3] 3) :: .obj g4 (.cells #[x4] 31) :: T) := hM0
 refine wsk fun K1 hK1 => wsk fun K2 hK2 => wrl (sdm A λa A↦?_)
 refine sdo (v := bV false) A (qb rfl rfl (qxj Tryz.underlying20)) λa A↦?_
 refine qa (hK2 _ _ (wp_cond_false (A.ev rfl) ?_))
 refine wp_skip (hK1 _ _ (wsk fun K3 hK3 => wsk fun K4 hK4 => wrl (sdm A λa A↦?_)))
 refine sdo (v := .tuple #[.agg #[], bV true]) A (qsc rfl) λa A↦?_
 refine sdm A λa A↦?_
 iterate 2 refine sdo A (qh (vs := [.agg #[], bV true]) rfl rfl) λa A↦?_
 refine vr (vs := []) (t := 47) A M rfl rfl rfl pg (ql (z := .agg #[]) (by kernel_rfl) rfl) (by decide) ?_
 intro g5 w6 M a A
 refine zh (L' := (.obj g5 (.cells #[] 47) :: .obj g2 (.cells #[v0, v1, v2, v3, v4, v5, v6, v7, v8, v9, v10] 30) :: .obj g3 (.cells #[x3] 3) :: .obj g4 (.cells #[x4] 31) :: T)) A M rfl rfl (qy rfl rfl rfl (by kernel_rfl) M 0 rfl rfl rfl) 0 rfl rfl rfl ?_
 intro w7 M
 refine sda A λa A↦?_
 refine qa (hK4 _ _ (wsk fun K8 hK8 => wrl (sdm A λa A↦?_)))
 refine sdo (v := bV false) A (za rfl zk) λa A↦?_
 refine qa (hK8 _ _ (wp_cond_false (A.ev rfl) ?_))
 refine wp_skip (hK3 _ _ (wrl (sdo (v := .agg zD.toArray) A (qw rfl (fun w => by kernel_rfl)) λa A↦?_)))
 refine zh (L' := (.obj g5 (.cells #[] 47) :: .obj g2 zC :: .obj g3 (.cells #[x3] 3) :: .obj g4 (.cells #[x4] 31) :: T)) A M rfl rfl (qy rfl rfl rfl (by kernel_rfl) M 1 rfl rfl rfl) 1 rfl rfl rfl ?_
 intro w9 M
 refine zh (L' := (.obj g5 (.cells #[] 47) :: .obj g2 zC :: .obj g3 (.cells #[iV 0] 3) :: .obj g4 (.cells #[x4] 31) :: T)) A M rfl rfl (qy rfl rfl rfl (by kernel_rfl) M 2 rfl rfl rfl) 2 rfl rfl rfl ?_
 intro w10 M
 refine zh (L' := (.obj g5 (.cells #[] 47) :: .obj g2 zC :: .obj g3 (.cells #[iV 0] 3) :: .obj g4 (.cells #[iV 5] 31) :: T)) A M rfl rfl (qy rfl rfl rfl (by kernel_rfl) M 3 rfl rfl rfl) 3 rfl rfl rfl ?_
 intro w11 M
 refine qa (hnorm _ _ ?_)
 exact ⟨A.none_, _, rfl, _, qof rfl, ⟨_, rfl⟩, rfl, M.sub (cn (.refl _))⟩
theorem Mg.here {w0 w : World} {L : List Ck} (h : Mg w0 w L) (k : Nat) {g : Nat} {cs : List Value} {t : TypeId} (hk : L[k]? = some (.obj g (.cells cs.toArray t))) : Here w g 0 cs := ⟨(Array.getElem?_eq_some_iff.1 (h.obj k hk)).1, fun j v hj => by rw [Nat.zero_add]; exact h.cell k hk j hj⟩
theorem zrh {w : World} {d : Nd} {ts : List Dt} (hrd : (Dt.mk d ts).rd w) : Calls Tryz.prog 15 #[.agg (d.cells ts.length).toArray] w fun e w' => e = .returned (bV (jq 1 20000 (Dt.mk d ts).tr).1) ∧ Below w.heap.size w w' := by
 have M : Mg w w ([]) := Mg.start w
 refine qr (l := [(0, .agg (d.cells ts.length).toArray)]) Tryz.func15 rfl Tryz.ntmps15 rfl rfl ?_
 intro Q hret hnorm hP a A
 refine wsk fun K1 hK1 => wrl (vr (vs := [iV d.k, iV d.n, bV d.y.q.b1, .slice d.y.o1 d.y.q.t1.length d.y.c1, .slice d.y.o2 d.y.q.q1.length d.y.c2, bV d.y.q.b2, .slice d.y.o3 d.y.q.t2.length d.y.c3, .slice d.y.o4 d.y.q.q2.length d.y.c4, .string d.s, .slice d.ro d.rl.length d.rc, .slice d.lo ts.length d.lc]) (t := 30) A M rfl rfl rfl pg (zg rfl rfl) (by decide) ?_)
 intro g2 w3 M a A
 refine sda A λa A↦?_
 refine qa (hK1 _ _ (wsk fun K4 hK4 => ?_))
 have hB1 := M.bel
 have hH1 := M.here 0 (cs := d.cells ts.length) rfl
 replace M : Mg w3 w3 [] := Mg.start w3
 refine wrl (vr (vs := [iV 0]) (t := 3) A M rfl rfl rfl pg (ql (z := iV 0) (by kernel_rfl) rfl) (by decide) ?_)
 intro g5 w6 M a A
 refine zh (L' := (.obj g5 (.cells #[iV 20000] 3) :: [])) A M rfl rfl (qy rfl rfl rfl (by kernel_rfl) M 0 rfl rfl rfl) 0 rfl rfl rfl ?_
 intro w7 M
 refine qa (hK4 _ _ (wsk fun K8 hK8 => wrl (sct A (ef rfl rfl) (zaf (Dt.mk d ts) (Dt.keep hB1 _ hrd) hH1 M (by omega) (by omega) (by omega) (by omega)) ?_)))
 rintro _ w10 ⟨rfl, hM9⟩
 replace M : Mg w3 w10 (.obj g5 (.cells #[iV ((jq 1 20000 (Dt.mk d ts).tr).2)] 3) :: []) := hM9
 refine ⟨_, rfl, ?_⟩
 intro a A
 refine sda A λa A↦?_
 refine qa (hK8 _ _ (wr1 hret A ?_))
 exact ⟨rfl, hB1.trans (M.bel.mono hB1.size)⟩
def frX (L : List UInt8) : Int × Nat × Tr :=
 match skp (2 * L.length + 1) L with
 | none => (5, 0, kb)
 | some a => if (L.drop a).isEmpty = true then (11, 0, kb) else
  match dat (2 * L.length + 1) (L.drop a) with
  | none => (5, 0, kb)
  | some r => if Lib.validD (L.take (a + r.2.1)) = true then (if r.2.2 = true then (4, 0, kb) else if (jq 1 20000 r.1).1 = true then (0, a + r.2.1, r.1) else (4, 0, kb)) else (5, 0, kb)
theorem zye {L : List UInt8} (h : skp (2 * L.length + 1) L = none) : frX L = (5, 0, kb) := by unfold frX; rw [h]
theorem jcj {L : List UInt8} {a : Nat} (h : skp (2 * L.length + 1) L = some a) (h2 : (L.drop a).isEmpty = true) : frX L = (11, 0, kb) := by unfold frX; rw [h]; exact if_pos h2
theorem jhd {L : List UInt8} {a : Nat} (h : skp (2 * L.length + 1) L = some a) (h2 : (L.drop a).isEmpty = false) (h3 : dat (2 * L.length + 1) (L.drop a) = none) : frX L = (5, 0, kb) := by
 unfold frX; rw [h]
 show ite _ _ _ = _
 rw [if_neg (by rw [h2]; decide), h3]
theorem jhe {L : List UInt8} {a n : Nat} {t : Tr} {b : Bool} (h : skp (2 * L.length + 1) L = some a) (h2 : (L.drop a).isEmpty = false) (h3 : dat (2 * L.length + 1) (L.drop a) = some (t, n, b)) : frX L = if Lib.validD (L.take (a + n)) = true then (if b = true then (4, 0, kb) else if (jq 1 20000 t).1 = true then (0, a + n, t) else (4, 0, kb)) else (5, 0, kb) := by
 unfold frX; rw [h]
 show ite _ _ _ = _
 rw [if_neg (by rw [h2]; decide), h3]
theorem qfe {w : World} {g2 g3 g4 : Nat} : (invoke (.fn (.func 19) #[(pA g2 0), (pA g3 0), (pA g4 0)]) #[]).run Tryz.prog w = .ok (.enter 19 #[(pA g2 0), (pA g3 0), (pA g4 0)]) w := by simp [go_sem]
theorem zri {w : World} {t : Dt} {b : Bool} (h : t.rd w) (hb : (jq 1 20000 t.tr).1 = b) : Calls Tryz.prog 15 #[.agg (t.d.cells t.ts.length).toArray] w fun e w' => e = .returned (bV b) ∧ Below w.heap.size w w' := by
 subst hb
 cases t
 exact zrh h
theorem zkd : ∀ (d : Nat) (t : Array Value) (v : Value), (d ≠ 2 ∧ d ≠ 3 ∧ d ≠ 4) → results Tryz.f14 (t.setIfInBounds d v) = results Tryz.f14 t := fun d t v h => by
 unfold results
 rw [show Tryz.f14.results = #[.cell 2 30, .cell 3 3, .cell 4 31] from by kernel_rfl]
 simp [Array.getElem?_setIfInBounds, h.1, h.2.1, h.2.2]
theorem zke {w0 w : World} {L : List UInt8} {U Z : List Ck} (hN : Env w0) (hU : Cu U) (hZ : Ob Z) (hl : L.length ≤ 1000000000) (hM0 : Mg w0 w (U ++ Z)) : Calls Tryz.prog 14 #[.string (tx L)] w fun e w' => ∃ t F, e = .returned (.tuple #[.agg (t.d.cells t.ts.length).toArray, iV (((frX L).2.1 : Nat) : Int), iV (frX L).1]) ∧ (t.tr = (frX L).2.2 ∧ ((frX L).1 = 0 → 1 ≤ (frX L).2.1 ∧ (frX L).2.1 ≤ List.length L)) ∧ (Lv w0 (F ++ Z) t ∧ Ob F) ∧ Mg w0 w' (U ++ (F ++ Z)) := by
 have hT := hN.tb
 have hSk : SkC (2 * L.length + 1) := (qxh _).1
 have hDa : DaC (2 * L.length + 1) := (qxh _).2
 refine zrg zkd (l := [(0, .string (tx L))]) Tryz.func14 rfl Tryz.ntmps14 rfl rfl ?_
 intro Q hret hpan hP a A
 have M : Mg w0 w ((U ++ Z)) := hM0
 refine wsk fun K1 hK1 => wrl (qsa (vs := zD) (t := 30) A M rfl rfl rfl pg (ql (z := .agg zD.toArray) (by kernel_rfl) rfl) (by decide) ?_)
 intro g2 w3 M a A
 refine qsa (vs := [iV 0]) (t := 3) A M rfl rfl rfl pg (ql (z := iV 0) (by kernel_rfl) rfl) (by decide) ?_
 intro g4 w5 M a A
 refine qsa (vs := [iV 0]) (t := 31) A M rfl rfl rfl pg (ql (z := iV 0) (by kernel_rfl) rfl) (by decide) ?_
 intro g6 w7 M a A
 refine qa (hK1 _ _ (wsk fun K8 hK8 => wrl (jg (v := .func (.func 19) #[] [pA g2 0, pA g4 0, pA g6 0].toArray) A rfl rfl rfl (qbh rfl) λa A↦?_)))
 refine zec (d := { target := .fn (.func 19) #[(pA g2 0), (pA g4 0), (pA g6 0)], args := #[] }) A rfl rfl (fun ρ h => by simp [execOp, resolve, Deferred.ofValue, h (.tmp 6) _ rfl]) λa A↦?_
 have hX : ∀ (ch : List PanicEntry) (a : Act) (w1 : World) (m : Nat) (k : List (Nat × Value)), Sf [{ target := .fn (.func 19) #[(pA g2 0), (pA g4 0), (pA g6 0)], args := #[] }] a m k → (ch = flt ∧ m = 31 ∧ AllIn k [(2, (pA g2 0)), (3, (pA g4 0)), (4, (pA g6 0))] ∧ frX L = (5, 0, kb) ∧ ∃ v0 v1 v2 v3 v4 v5 v6 v7 v8 v9 v10 x3 x4 : Value, Mg w0 w1 (.obj g2 (.cells #[v0, v1, v2, v3, v4, v5, v6, v7, v8, v9, v10] 30) :: .obj g4 (.cells #[x3] 3) :: .obj g6 (.cells #[x4] 31) :: (U ++ Z))) → Q (.panic ch) a w1 := by
  rintro ch a w1 m k hA9 ⟨rfl, rfl, hin, hfr, v0, v1, v2, v3, v4, v5, v6, v7, v8, v9, v10, x3, x4, hM9⟩
  refine hpan _ _ _ (qxi (n := 31) (l := [(2, (pA g2 0)), (3, (pA g4 0)), (4, (pA g6 0))]) (hA9.keep _ hin) qfe (zkc hM9) fun w2 h2 => ⟨_, ye (hA9.keep [(2, (pA g2 0)), (3, (pA g4 0)), (4, (pA g6 0))] hin) rfl (.cons (zn h2 xw rfl 0 rfl (cs := zD) rfl rfl) (.cons (xp h2 o93 rfl 1 rfl rfl) (.cons (xp h2 zna rfl 2 rfl rfl) .nil))) rfl, ?_⟩)
  exact ⟨qed, [], by rw [hfr]; rfl, ⟨by rw [hfr]; exact yt, fun k => absurd k (by rw [hfr]; decide)⟩, ⟨fun w _ => yv w, Ob.nil⟩, h2.sub (cn (cn (cn (.refl _))))⟩
 refine qa (hK8 _ _ (wsk fun K9 hK9 => wrl (jg A rfl rfl rfl (qs rfl) λa A↦?_)))
 refine jg (v := .agg #[.string ((tx L)), iV 0, bV false]) A rfl rfl rfl (qw rfl (fun w => by kernel_rfl)) λa A↦?_
 refine qsa (vs := [.string (⟨#[]⟩), iV 0, bV false]) (t := 50) A M rfl rfl rfl pg (ql (z := .agg #[.string (⟨#[]⟩), iV 0, bV false]) (by kernel_rfl) rfl) (by decide) ?_
 intro g10 w11 M a A
 refine xy (L' := (.obj g10 (.cells #[.string ((tx L)), iV 0, bV false] 50) :: .obj g6 (.cells #[iV 0] 31) :: .obj g4 (.cells #[iV 0] 3) :: .obj g2 zC :: (U ++ Z))) A M rfl rfl (qy rfl rfl rfl (by kernel_rfl) M 0 rfl rfl rfl) 0 rfl rfl rfl ?_
 intro w12 M
 refine qa (hK9 _ _ (wsk fun K13 hK13 => wrl ?_))
 replace M : Mg w0 w12 (.obj g6 (.cells #[iV 0] 31) :: .obj g10 (.cells #[.string ((tx L)), iV 0, bV false] 50) :: .obj g4 (.cells #[iV 0] 3) :: .obj g2 zC :: (U ++ Z)) := M.bring 1 rfl rfl
 replace M : Mg w0 w12 (.obj g4 (.cells #[iV 0] 3) :: .obj g6 (.cells #[iV 0] 31) :: .obj g10 (.cells #[.string ((tx L)), iV 0, bV false] 50) :: .obj g2 zC :: (U ++ Z)) := M.bring 2 rfl rfl
 replace M : Mg w0 w12 (.obj g2 zC :: .obj g4 (.cells #[iV 0] 3) :: .obj g6 (.cells #[iV 0] 31) :: .obj g10 (.cells #[.string ((tx L)), iV 0, bV false] 50) :: (U ++ Z)) := M.bring 3 rfl rfl
 replace M : Mg w0 w12 (.obj g10 (.cells #[.string ((tx L)), iV 0, bV false] 50) :: .obj g2 zC :: .obj g4 (.cells #[iV 0] 3) :: .obj g6 (.cells #[iV 0] 31) :: (U ++ Z)) := M.bring 3 rfl rfl
 refine qda A rfl rfl rfl (ef rfl rfl) (hSk (p := 0) (U := (.obj g2 zC :: .obj g4 (.cells #[iV 0] 3) :: .obj g6 (.cells #[iV 0] 31) :: U)) (Z := Z) hN (Cu.cons rfl (Cu.cons rfl (Cu.cons rfl hU))) hZ (Nat.zero_le _) hl (by omega) M) ?_
 rintro _ w14 (⟨rfl, hp15⟩ | ⟨n1, rfl, ⟨hs1, hl1⟩, hM1⟩)
 ·
  exact .inl ⟨_, rfl, hX _ _ _ _ _ A (⟨rfl, rfl, ⟨rfl, rfl, rfl, trivial⟩, zye hp15.1, _, _, _, _, _, _, _, _, _, _, _, _, _, (hp15.2.elim fun q9 h9 => h9.elim fun l9 h9 => h9.sub (cn (cc (cc (cc (.refl _))))))⟩)⟩
 rw [Nat.zero_add] at hl1 hM1
 replace M : Mg w0 w14 (.obj g10 (rC L n1 false) :: .obj g2 zC :: .obj g4 (.cells #[iV 0] 3) :: .obj g6 (.cells #[iV 0] 31) :: (U ++ Z)) := hM1
 refine .inr ⟨_, rfl, ?_⟩
 intro a A
 refine qa (hK13 _ _ (wsk fun K16 hK16 => wsk fun K17 hK17 => wrl (kv A rfl rfl rfl (ef rfl rfl) (xg (p := n1) (L := L) (T := (.obj g2 zC :: .obj g4 (.cells #[iV 0] 3) :: .obj g6 (.cells #[iV 0] 31) :: (U ++ Z))) (by omega) M) ?_)))
 rintro _ w19 ⟨rfl, hM18⟩
 replace M : Mg w0 w19 (.obj g10 (rC L n1 false) :: .obj g2 zC :: .obj g4 (.cells #[iV 0] 3) :: .obj g6 (.cells #[iV 0] 31) :: (U ++ Z)) := hM18
 refine ⟨_, rfl, ?_⟩
 intro a A
 rcases tf ((L.drop n1).isEmpty) with hb20 | hb20
 ·
  refine jg (v := bV true) A rfl rfl rfl (qb rfl rfl (fun w => (qvb (a := L.drop n1) Tryz.underlying9 w).trans (by rw [hb20] <;> rfl))) λa A↦?_
  refine qa (hK17 _ _ (wp_cond_true (A.ev rfl) ?_))
  refine wsk fun K21 hK21 => wrl (jg (v := .agg zD.toArray) A rfl rfl rfl (qw rfl (fun w => by kernel_rfl)) λa A↦?_)
  refine xy (L' := (.obj g10 (rC L n1 false) :: .obj g2 zC :: .obj g4 (.cells #[iV 0] 3) :: .obj g6 (.cells #[iV 0] 31) :: (U ++ Z))) A M rfl rfl (qy rfl rfl rfl (by kernel_rfl) M 1 rfl rfl rfl) 1 rfl rfl rfl ?_
  intro w22 M
  refine xy (L' := (.obj g10 (rC L n1 false) :: .obj g2 zC :: .obj g4 (.cells #[iV 0] 3) :: .obj g6 (.cells #[iV 0] 31) :: (U ++ Z))) A M rfl rfl (qy rfl rfl rfl (by kernel_rfl) M 2 rfl rfl rfl) 2 rfl rfl rfl ?_
  intro w23 M
  refine xy (L' := (.obj g10 (rC L n1 false) :: .obj g2 zC :: .obj g4 (.cells #[iV 0] 3) :: .obj g6 (.cells #[iV 11] 31) :: (U ++ Z))) A M rfl rfl (qy rfl rfl rfl (by kernel_rfl) M 3 rfl rfl rfl) 3 rfl rfl rfl ?_
  intro w24 M
  refine qa (hK21 _ _ (wp_ret (hret _ _ (qfd A qfe uq (ye A rfl (.cons (zn M xw rfl 1 rfl (cs := zD) rfl rfl) (.cons (xp M o93 rfl 2 rfl rfl) (.cons (xp M zna rfl 3 rfl rfl) .nil))) rfl) ?_))))
  have hfr := jcj hs1 hb20
  exact ⟨qed, [], by rw [hfr]; rfl, ⟨by rw [hfr]; exact yt, fun k => absurd k (by rw [hfr]; decide)⟩, ⟨fun w _ => yv w, Ob.nil⟩, M.sub (cn (cn (cn (cn (.refl _)))))⟩
 ·
  refine jg (v := bV false) A rfl rfl rfl (qb rfl rfl (fun w => (qvb (a := L.drop n1) Tryz.underlying9 w).trans (by rw [hb20] <;> rfl))) λa A↦?_
  refine qa (hK17 _ _ (wp_cond_false (A.ev rfl) ?_))
  refine wp_skip (hK16 _ _ (wsk fun K25 hK25 => wrl ?_))
  replace M : Mg w0 w19 (.obj g6 (.cells #[iV 0] 31) :: .obj g10 (rC L n1 false) :: .obj g2 zC :: .obj g4 (.cells #[iV 0] 3) :: (U ++ Z)) := M.bring 3 rfl rfl
  replace M : Mg w0 w19 (.obj g4 (.cells #[iV 0] 3) :: .obj g6 (.cells #[iV 0] 31) :: .obj g10 (rC L n1 false) :: .obj g2 zC :: (U ++ Z)) := M.bring 3 rfl rfl
  replace M : Mg w0 w19 (.obj g2 zC :: .obj g4 (.cells #[iV 0] 3) :: .obj g6 (.cells #[iV 0] 31) :: .obj g10 (rC L n1 false) :: (U ++ Z)) := M.bring 3 rfl rfl
  replace M : Mg w0 w19 (.obj g10 (rC L n1 false) :: .obj g2 zC :: .obj g4 (.cells #[iV 0] 3) :: .obj g6 (.cells #[iV 0] 31) :: (U ++ Z)) := M.bring 3 rfl rfl
  refine qda A rfl rfl rfl (ef rfl rfl) (hDa (p := n1) (U := (.obj g2 zC :: .obj g4 (.cells #[iV 0] 3) :: .obj g6 (.cells #[iV 0] 31) :: U)) (Z := Z) hN (Cu.cons rfl (Cu.cons rfl (Cu.cons rfl hU))) hZ (by omega) hl (by omega) M) ?_
  rintro _ w26 (⟨rfl, hp27⟩ | ⟨t1, F1, n2, b2, rfl, ⟨hd1, hl2, hn1⟩, ⟨hL1, hO1⟩, hM2⟩)
  ·
   exact .inl ⟨_, rfl, hX _ _ _ _ _ A (⟨rfl, rfl, ⟨rfl, rfl, rfl, trivial⟩, jhd hs1 hb20 hp27.1, _, _, _, _, _, _, _, _, _, _, _, _, _, (hp27.2.elim fun q9 h9 => h9.elim fun l9 h9 => h9.sub (cn (cc (cc (cc (.refl _))))))⟩)⟩
  have hgo := jhe hs1 hb20 hd1
  replace M : Mg w0 w26 (.obj g10 (rC L (n1 + n2) ((false || b2))) :: .obj g2 zC :: .obj g4 (.cells #[iV 0] 3) :: .obj g6 (.cells #[iV 0] 31) :: (U ++ (F1 ++ Z))) := hM2
  refine .inr ⟨_, rfl, ?_⟩
  intro a A
  refine xy (L' := (.obj g10 (rC L (n1 + n2) ((false || b2))) :: .obj g2 (.cells (t1.d.cells t1.ts.length).toArray 30) :: .obj g4 (.cells #[iV 0] 3) :: .obj g6 (.cells #[iV 0] 31) :: (U ++ (F1 ++ Z)))) A M rfl rfl (qy rfl rfl rfl (by kernel_rfl) M 1 rfl rfl rfl) 1 rfl rfl rfl ?_
  intro w28 M
  refine qa (hK25 _ _ (wsk fun K29 hK29 => wrl (jg A rfl rfl rfl (qs rfl) λa A↦?_)))
  refine jg (v := pA g10 1) A rfl rfl rfl (qe yk rfl rfl) λa A↦?_
  refine jg A rfl rfl rfl (zi M o93 rfl 0 rfl rfl) λa A↦?_
  refine jg (v := .string ((tx (L.take (n1 + n2))))) A rfl rfl rfl (qce (s := L) (p := n1 + n2) Tryz.underlying9 rfl rfl rfl (by omega)) λa A↦?_
  rcases tf (Lib.validD (L.take (n1 + n2))) with hb31 | hb31
  ·
   refine kv A rfl rfl rfl (ef rfl rfl) (qjb (l := L.take (n1 + n2)) (by rw [List.length_take]; omega) (hT.below M.bel) hb31) ?_
   rintro _ w33 ⟨rfl, hb32⟩
   replace M := M.call hb32
   refine ⟨_, rfl, ?_⟩
   intro a A
   refine kv A rfl rfl rfl (ef rfl rfl) (vm) ?_
   rintro _ w35 ⟨rfl, hb34⟩
   replace M := M.call hb34
   refine ⟨_, rfl, ?_⟩
   intro a A
   refine qa (hK29 _ _ (wsk fun K36 hK36 => wsk fun K37 hK37 => wrl (jg (v := pA g10 2) A rfl rfl rfl (qe qqb rfl rfl) λa A↦?_)))
   rcases tf ((false || b2)) with hb38 | hb38
   ·
    rw [hb38] at M
    refine jg (v := bV true) A rfl rfl rfl (zi M o94 rfl 0 rfl rfl) λa A↦?_
    refine jg A rfl rfl rfl (qs rfl) λa A↦?_
    iterate 3 refine zka A rfl rfl rfl λa A↦?_
    refine jg (v := bV true) A rfl rfl rfl (jb rfl rfl rfl rfl) λa A↦?_
    refine qa (hK37 _ _ (wp_cond_true (A.ev rfl) ?_))
    refine wsk fun K39 hK39 => wrl (jg (v := .agg zD.toArray) A rfl rfl rfl (qw rfl (fun w => by kernel_rfl)) λa A↦?_)
    refine xy (L' := (.obj g10 (rC L (n1 + n2) true) :: .obj g2 zC :: .obj g4 (.cells #[iV 0] 3) :: .obj g6 (.cells #[iV 0] 31) :: (U ++ (F1 ++ Z)))) A M rfl rfl (qy rfl rfl rfl (by kernel_rfl) M 1 rfl rfl rfl) 1 rfl rfl rfl ?_
    intro w40 M
    refine xy (L' := (.obj g10 (rC L (n1 + n2) true) :: .obj g2 zC :: .obj g4 (.cells #[iV 0] 3) :: .obj g6 (.cells #[iV 0] 31) :: (U ++ (F1 ++ Z)))) A M rfl rfl (qy rfl rfl rfl (by kernel_rfl) M 2 rfl rfl rfl) 2 rfl rfl rfl ?_
    intro w41 M
    refine xy (L' := (.obj g10 (rC L (n1 + n2) true) :: .obj g2 zC :: .obj g4 (.cells #[iV 0] 3) :: .obj g6 (.cells #[iV 4] 31) :: (U ++ (F1 ++ Z)))) A M rfl rfl (qy rfl rfl rfl (by kernel_rfl) M 3 rfl rfl rfl) 3 rfl rfl rfl ?_
    intro w42 M
    refine qa (hK39 _ _ (wp_ret (hret _ _ (qfd A qfe uq (ye A rfl (.cons (zn M xw rfl 1 rfl (cs := zD) rfl rfl) (.cons (xp M o93 rfl 2 rfl rfl) (.cons (xp M zna rfl 3 rfl rfl) .nil))) rfl) ?_))))
    rw [if_pos hb31, if_pos (show b2 = true from hb38)] at hgo
    exact ⟨qed, F1, by rw [hgo]; rfl, ⟨by rw [hgo]; exact yt, fun k => absurd k (by rw [hgo]; decide)⟩, ⟨fun w _ => yv w, hO1⟩, M.sub (cn (cn (cn (cn (.refl _)))))⟩
   ·
    rw [hb38] at M
    refine jg (v := bV false) A rfl rfl rfl (zi M o94 rfl 0 rfl rfl) λa A↦?_
    refine jg A rfl rfl rfl (qs rfl) λa A↦?_
    refine jg A rfl rfl rfl (vd M xw rfl 1 rfl (cs := [iV t1.d.k, iV t1.d.n, bV t1.d.y.q.b1, .slice t1.d.y.o1 t1.d.y.q.t1.length t1.d.y.c1, .slice t1.d.y.o2 t1.d.y.q.q1.length t1.d.y.c2, bV t1.d.y.q.b2, .slice t1.d.y.o3 t1.d.y.q.t2.length t1.d.y.c3, .slice t1.d.y.o4 t1.d.y.q.q2.length t1.d.y.c4, .string t1.d.s, .slice t1.d.ro t1.d.rl.length t1.d.rc, .slice t1.d.lo t1.ts.length t1.d.lc]) rfl rfl) λa A↦?_
    rcases tf ((jq 1 20000 t1.tr).1) with hb44 | hb44
    ·
     refine kv A rfl rfl rfl (ef rfl rfl) (zri (hL1 _ (M.sub (cn (cn (cn (cn (List.sublist_append_right _ _))))))) hb44) ?_
     rintro _ w46 ⟨rfl, hb45⟩
     replace M := M.call hb45
     refine ⟨_, rfl, ?_⟩
     intro a A
     refine jg (v := bV false) A rfl rfl rfl (za rfl zk) λa A↦?_
     refine jg (v := bV false) A rfl rfl rfl (jb rfl rfl rfl rfl) λa A↦?_
     refine qa (hK37 _ _ (wp_cond_false (A.ev rfl) ?_))
     refine wp_skip (hK36 _ _ (wsk fun K47 hK47 => jh (S := fun w1 => Mg w0 w1 (.obj g10 (rC L (n1 + n2) false) :: .obj g2 (.cells (t1.d.cells t1.ts.length).toArray 30) :: [])) (by kernel_rfl) ?_))
     replace M := M.drew
     refine qsb A 0 rfl rfl rfl rfl hP (M.sub (cc (cc (cn (cn ns))))) (λ_ M↦vd M xw rfl 1 rfl (cs := [iV t1.d.k, iV t1.d.n, bV t1.d.y.q.b1, .slice t1.d.y.o1 t1.d.y.q.t1.length t1.d.y.c1, .slice t1.d.y.o2 t1.d.y.q.q1.length t1.d.y.c2, bV t1.d.y.q.b2, .slice t1.d.y.o3 t1.d.y.q.t2.length t1.d.y.c3, .slice t1.d.y.o4 t1.d.y.q.q2.length t1.d.y.c4, .string t1.d.s, .slice t1.d.ro t1.d.rl.length t1.d.rc, .slice t1.d.lo t1.ts.length t1.d.lc]) rfl rfl) ?_ (by decide)
     intro a A
     refine qsb (v := pA g10 1) A 1 rfl rfl rfl rfl hP (M.sub (cc (cc (cn (cn ns))))) (λ_ M↦qe yk rfl rfl) ?_ (by decide)
     intro a A
     refine qsb A 2 rfl rfl rfl rfl hP (M.sub (cc (cc (cn (cn ns))))) (λ_ M↦zi M o93 rfl 0 rfl rfl) ?_ (by decide)
     intro a A
     refine zj (by kernel_rfl) (qlj (L' := (.obj g10 (rC L (n1 + n2) false) :: .obj g2 (.cells (t1.d.cells t1.ts.length).toArray 30) :: .obj g4 (.cells #[iV 0] 3) :: .obj g6 (.cells #[iV 0] 31) :: (U ++ (F1 ++ Z)))) A M 3 rfl rfl rfl (qy rfl rfl rfl (by kernel_rfl) M 1 rfl rfl rfl) 1 rfl rfl rfl ?_)
     intro w48 M
     refine ⟨(M.sub (cc (cc (cn (cn ns))))), ?_⟩
     refine zj (by kernel_rfl) (qlj (L' := (.obj g10 (rC L (n1 + n2) false) :: .obj g2 (.cells (t1.d.cells t1.ts.length).toArray 30) :: .obj g4 (.cells #[iV (((n1 + n2 : Nat) : Int))] 3) :: .obj g6 (.cells #[iV 0] 31) :: (U ++ (F1 ++ Z)))) A M 4 rfl rfl rfl (qy rfl rfl rfl (by kernel_rfl) M 2 rfl rfl rfl) 2 rfl rfl rfl ?_)
     intro w49 M
     refine ⟨(M.sub (cc (cc (cn (cn ns))))), ?_⟩
     refine zj (by kernel_rfl) (qlj (L' := (.obj g10 (rC L (n1 + n2) false) :: .obj g2 (.cells (t1.d.cells t1.ts.length).toArray 30) :: .obj g4 (.cells #[iV (((n1 + n2 : Nat) : Int))] 3) :: .obj g6 (.cells #[iV 0] 31) :: (U ++ (F1 ++ Z)))) A M 5 rfl rfl rfl (qy rfl rfl rfl (by kernel_rfl) M 3 rfl rfl rfl) 3 rfl rfl rfl ?_)
     intro w50 M
     refine ⟨(M.sub (cc (cc (cn (cn ns))))), ?_⟩
     refine zr (by kernel_rfl) ?_
     refine hK47 _ _ (wp_ret (hret _ _ (qfd A qfe uq (ye A rfl (.cons (zn M xw rfl 1 rfl (cs := [iV t1.d.k, iV t1.d.n, bV t1.d.y.q.b1, .slice t1.d.y.o1 t1.d.y.q.t1.length t1.d.y.c1, .slice t1.d.y.o2 t1.d.y.q.q1.length t1.d.y.c2, bV t1.d.y.q.b2, .slice t1.d.y.o3 t1.d.y.q.t2.length t1.d.y.c3, .slice t1.d.y.o4 t1.d.y.q.q2.length t1.d.y.c4, .string t1.d.s, .slice t1.d.ro t1.d.rl.length t1.d.rc, .slice t1.d.lo t1.ts.length t1.d.lc]) rfl rfl) (.cons (xp M o93 rfl 2 rfl rfl) (.cons (xp M zna rfl 3 rfl rfl) .nil))) rfl) ?_)))
     rw [if_pos hb31, if_neg (by rw [show b2 = false from hb38]; decide), if_pos hb44] at hgo
     exact ⟨t1, F1, by rw [hgo]; rfl, ⟨by rw [hgo], fun _ => by rw [hgo]; show 1 ≤ n1 + n2 ∧ n1 + n2 ≤ L.length; omega⟩, ⟨hL1, hO1⟩, M.sub (cn (cn (cn (cn (.refl _)))))⟩
    ·
     refine kv A rfl rfl rfl (ef rfl rfl) (zri (hL1 _ (M.sub (cn (cn (cn (cn (List.sublist_append_right _ _))))))) hb44) ?_
     rintro _ w52 ⟨rfl, hb51⟩
     replace M := M.call hb51
     refine ⟨_, rfl, ?_⟩
     intro a A
     refine jg (v := bV true) A rfl rfl rfl (za rfl zk) λa A↦?_
     refine jg (v := bV true) A rfl rfl rfl (jb rfl rfl rfl rfl) λa A↦?_
     refine qa (hK37 _ _ (wp_cond_true (A.ev rfl) ?_))
     refine wsk fun K53 hK53 => wrl (jg (v := .agg zD.toArray) A rfl rfl rfl (qw rfl (fun w => by kernel_rfl)) λa A↦?_)
     refine xy (L' := (.obj g10 (rC L (n1 + n2) false) :: .obj g2 zC :: .obj g4 (.cells #[iV 0] 3) :: .obj g6 (.cells #[iV 0] 31) :: (U ++ (F1 ++ Z)))) A M rfl rfl (qy rfl rfl rfl (by kernel_rfl) M 1 rfl rfl rfl) 1 rfl rfl rfl ?_
     intro w54 M
     refine xy (L' := (.obj g10 (rC L (n1 + n2) false) :: .obj g2 zC :: .obj g4 (.cells #[iV 0] 3) :: .obj g6 (.cells #[iV 0] 31) :: (U ++ (F1 ++ Z)))) A M rfl rfl (qy rfl rfl rfl (by kernel_rfl) M 2 rfl rfl rfl) 2 rfl rfl rfl ?_
     intro w55 M
     refine xy (L' := (.obj g10 (rC L (n1 + n2) false) :: .obj g2 zC :: .obj g4 (.cells #[iV 0] 3) :: .obj g6 (.cells #[iV 4] 31) :: (U ++ (F1 ++ Z)))) A M rfl rfl (qy rfl rfl rfl (by kernel_rfl) M 3 rfl rfl rfl) 3 rfl rfl rfl ?_
     intro w56 M
     refine qa (hK53 _ _ (wp_ret (hret _ _ (qfd A qfe uq (ye A rfl (.cons (zn M xw rfl 1 rfl (cs := zD) rfl rfl) (.cons (xp M o93 rfl 2 rfl rfl) (.cons (xp M zna rfl 3 rfl rfl) .nil))) rfl) ?_))))
     rw [if_pos hb31, if_neg (by rw [show b2 = false from hb38]; decide), if_neg (by rw [hb44]; decide)] at hgo
     exact ⟨qed, F1, by rw [hgo]; rfl, ⟨by rw [hgo]; exact yt, fun k => absurd k (by rw [hgo]; decide)⟩, ⟨fun w _ => yv w, hO1⟩, M.sub (cn (cn (cn (cn (.refl _)))))⟩
  ·
   refine kv A rfl rfl rfl (ef rfl rfl) (qjb (l := L.take (n1 + n2)) (by rw [List.length_take]; omega) (hT.below M.bel) hb31) ?_
   rintro _ w58 ⟨rfl, hb57⟩
   replace M := M.call hb57
   refine ⟨_, rfl, ?_⟩
   intro a A
   replace M : Mg w0 w58 (.obj g6 (.cells #[iV 0] 31) :: .obj g10 (rC L (n1 + n2) ((false || b2))) :: .obj g2 (.cells (t1.d.cells t1.ts.length).toArray 30) :: .obj g4 (.cells #[iV 0] 3) :: (U ++ (F1 ++ Z))) := M.bring 3 rfl rfl
   replace M : Mg w0 w58 (.obj g4 (.cells #[iV 0] 3) :: .obj g6 (.cells #[iV 0] 31) :: .obj g10 (rC L (n1 + n2) ((false || b2))) :: .obj g2 (.cells (t1.d.cells t1.ts.length).toArray 30) :: (U ++ (F1 ++ Z))) := M.bring 3 rfl rfl
   replace M : Mg w0 w58 (.obj g2 (.cells (t1.d.cells t1.ts.length).toArray 30) :: .obj g4 (.cells #[iV 0] 3) :: .obj g6 (.cells #[iV 0] 31) :: .obj g10 (rC L (n1 + n2) ((false || b2))) :: (U ++ (F1 ++ Z))) := M.bring 3 rfl rfl
   replace M : Mg w0 w58 (.obj g10 (rC L (n1 + n2) ((false || b2))) :: .obj g2 (.cells (t1.d.cells t1.ts.length).toArray 30) :: .obj g4 (.cells #[iV 0] 3) :: .obj g6 (.cells #[iV 0] 31) :: (U ++ (F1 ++ Z))) := M.bring 3 rfl rfl
   refine qda A rfl rfl rfl (ef rfl rfl) (xq) ?_
   rintro _ w60 ⟨rfl, hp61⟩
   exact .inl ⟨_, rfl, hX _ _ _ _ _ A (⟨rfl, rfl, ⟨rfl, rfl, rfl, trivial⟩, by rw [hgo, if_neg (by rw [hb31]; decide)], _, _, _, _, _, _, _, _, _, _, _, _, _, ((M.call hp61).sub (.cons _ (.cons_cons _ (.cons_cons _ (.cons_cons _ zqi)))))⟩)⟩
def rdX (L : List UInt8) : Int × Nat × Tr := if 65536 < L.length then (18, 0, kb) else frX L
theorem zyf {L : List UInt8} (h : 65536 < L.length) : rdX L = (18, 0, kb) := if_pos h
theorem zrj {L : List UInt8} (h : ¬ 65536 < L.length) : rdX L = frX L := if_neg h
theorem read_any {w0 w : World} {L : List UInt8} {U Z : List Ck} (hN : Env w0) (hU : Cu U) (hZ : Ob Z) (hl : L.length ≤ 9223372036854775807) (hM0 : Mg w0 w (U ++ Z)) : Calls Tryz.prog 7 #[.string (tx L)] w fun e w' => ∃ t F, e = .returned (.tuple #[.agg (t.d.cells t.ts.length).toArray, iV (((rdX L).2.1 : Nat) : Int), iV (rdX L).1]) ∧ (t.tr = (rdX L).2.2 ∧ ((rdX L).1 = 0 → 1 ≤ (rdX L).2.1 ∧ (rdX L).2.1 ≤ List.length L)) ∧ (Lv w0 (F ++ Z) t ∧ Ob F) ∧ Mg w0 w' (U ++ (F ++ Z)) := by
 have M : Mg w0 w ((U ++ Z)) := hM0
 refine qr (l := [(0, .string ((tx L)))]) Tryz.func7 rfl Tryz.ntmps7 rfl rfl ?_
 intro Q hret hnorm hP a A
 refine wsk fun K1 hK1 => wrl (vr (vs := zD) (t := 30) A M rfl rfl rfl pg (ql (z := .agg zD.toArray) (by kernel_rfl) rfl) (by decide) ?_)
 intro g2 w3 M a A
 iterate 2 refine sda A λa A↦?_
 refine qa (hK1 _ _ (wsk fun K4 hK4 => wsk fun K5 hK5 => wrl (sdm A λa A↦?_)))
 refine sdo (v := iV (((L.length : Nat) : Int))) A (ju (s := L) Tryz.underlying9 rfl) λa A↦?_
 rcases tf (decide (65536 < ((L.length : Nat) : Int))) with hb6 | hb6
 ·
  have hb6' := of_decide_eq_true hb6
  refine sdc A zs hb6 λa A↦?_
  refine qa (hK5 _ _ (ct A ?_))
  refine wsk fun K7 hK7 => wrl (sdo (v := .agg zD.toArray) A (qw rfl (fun w => by kernel_rfl)) λa A↦?_)
  refine zh (L' := (.obj g2 zC :: (U ++ Z))) A M rfl rfl (qy rfl rfl rfl (by kernel_rfl) M 0 rfl rfl rfl) 0 rfl rfl rfl ?_
  intro w8 M
  iterate 2 refine sda A λa A↦?_
  refine qa (hK7 _ _ (wp_ret (hret _ _ (en3 A rfl (zn M xw rfl 0 rfl (cs := zD) rfl rfl) (qg rfl) (qg rfl) ?_))))
  have he := zyf (L := L) (by omega)
  exact ⟨qed, [], by rw [he]; rfl, ⟨by rw [he]; exact yt, fun k => absurd k (by rw [he]; decide)⟩, ⟨fun w _ => yv w, Ob.nil⟩, M.sub (cn (.refl _))⟩
 ·
  have hb6' := of_decide_eq_false hb6
  refine sdc A zs hb6 λa A↦?_
  refine qa (hK5 _ _ (cf A ?_))
  refine wp_skip (hK4 _ _ (wsk fun K9 hK9 => wrl (sdm A λa A↦?_)))
  refine sct A (ef rfl rfl) (zke (U := (.obj g2 zC :: U)) (Z := Z) hN (Cu.cons rfl hU) hZ (by omega) M) ?_
  rintro _ w10 ⟨t1, F1, rfl, ⟨htr1, hle1⟩, ⟨hL1, hO1⟩, hM1⟩
  replace M : Mg w0 w10 (.obj g2 zC :: (U ++ (F1 ++ Z))) := hM1
  refine ⟨_, rfl, ?_⟩
  intro a A
  iterate 3 refine sdo A (qh (vs := [.agg (t1.d.cells t1.ts.length).toArray, iV ((((frX L).2.1 : Nat) : Int)), iV ((frX L).1)]) rfl rfl) λa A↦?_
  refine zh (L' := (.obj g2 (.cells (t1.d.cells t1.ts.length).toArray 30) :: (U ++ (F1 ++ Z)))) A M rfl rfl (qy rfl rfl rfl (by kernel_rfl) M 0 rfl rfl rfl) 0 rfl rfl rfl ?_
  intro w11 M
  iterate 2 refine sda A λa A↦?_
  refine qa (hK9 _ _ (wp_ret (hret _ _ (en3 A rfl (zn M xw rfl 0 rfl (cs := [iV t1.d.k, iV t1.d.n, bV t1.d.y.q.b1, .slice t1.d.y.o1 t1.d.y.q.t1.length t1.d.y.c1, .slice t1.d.y.o2 t1.d.y.q.q1.length t1.d.y.c2, bV t1.d.y.q.b2, .slice t1.d.y.o3 t1.d.y.q.t2.length t1.d.y.c3, .slice t1.d.y.o4 t1.d.y.q.q2.length t1.d.y.c4, .string t1.d.s, .slice t1.d.ro t1.d.rl.length t1.d.rc, .slice t1.d.lo t1.ts.length t1.d.lc]) rfl rfl) (qg rfl) (qg rfl) ?_))))
  have he := zrj (L := L) (by omega)
  exact ⟨t1, F1, by rw [he] <;> rfl, ⟨by rw [he]; exact htr1, by rw [he]; exact hle1⟩, ⟨hL1, hO1⟩, M.sub (cn (.refl _))⟩
def AW : List UInt8 := [32, 40, 97, 32, 46, 32, 35, 116, 41, 120]
def AWT : Tr := .mk 8 0 Q6.zero ⟨#[]⟩ [] [lfT 6 0 (tx [97]), lfT 2 1 ⟨#[]⟩]
set_option maxRecDepth 100000 in
theorem jda : rdX AW = (0, 9, AWT) := by kernel_rfl
theorem zsa {w : World} (hN : Env w) : Calls Tryz.prog 7 #[.string (tx AW)] w fun e w' => ∃ t : Dt, e = .returned (.tuple #[.agg (t.d.cells t.ts.length).toArray, iV 9, iV 0]) ∧ (t.tr = AWT ∧ t.rd w') ∧ Below w.heap.size w w' := by
 refine (read_any (L := AW) (U := []) (Z := []) hN Cu.nil Ob.nil (by decide) (Mg.start w)).mono ?_
 rintro e w' ⟨t, F, rfl, ⟨h1, _⟩, ⟨hL, _⟩, M⟩
 rw [jda] at h1 ⊢
 exact ⟨t, rfl, ⟨h1, hL _ M⟩, M.bel⟩
theorem jaa (t : Dt) : t.tr.ts = t.ts.map Dt.tr := by cases t; rw [Dt.tr_mk]; rfl
theorem jjc (t : Dt) : t.tr.s = t.d.s := by cases t; rw [Dt.tr_mk]; rfl
theorem jjd (t : Dt) : t.tr.n = t.d.n := by cases t; rw [Dt.tr_mk]; rfl
theorem zsb {t u : Dt} {i : Nat} {x : Tr} (h : t.ts[i]? = some u) (hx : t.tr.ts[i]? = some x) : u.tr = x := by
 rw [jaa, List.getElem?_map, h] at hx
 exact Option.some.inj hx
theorem qog {w : World} (hN : Env w) : Calls Tryz.prog 8 #[] w fun e w' => e = .returned (bV true) ∧ Below w.heap.size w w' := by
 have M : Mg w w ([]) := Mg.start w
 refine qr (l := []) Tryz.func8 rfl Tryz.ntmps8 rfl rfl ?_
 intro Q hret hnorm hP a A
 refine wsk fun K1 hK1 => wrl (sda A λa A↦?_)
 refine qa (hK1 _ _ (wsk fun K2 hK2 => wrl (sct A (ef rfl rfl) (zsa hN) ?_)))
 rintro _ w3 ⟨t1, rfl, ⟨htr1, hr1⟩, hB1⟩
 have hk8 : t1.d.k = 8 := by rw [← jja, htr1]; rfl
 have hln : t1.ts.length = 2 := by rw [← List.length_map (f := Dt.tr), ← jaa, htr1]; rfl
 obtain ⟨ta, bta, ota, ita, mta, rta_, lta, Hta⟩ := zvh hr1 (i := 0) (by omega)
 obtain ⟨tb, btb, otb, itb, mtb, rtb_, ltb, Htb⟩ := zvh hr1 (i := 1) (by omega)
 have hsq : decide (ta.d.s = ⟨#[97]⟩) = true := decide_eq_true (by rw [← jjc, zsb ita (by rw [htr1]; rfl)]; rfl)
 have hnq : tb.d.n = 1 := by rw [← jjd, zsb itb (by rw [htr1]; rfl)]; rfl
 replace M : Mg w3 w3 ([]) := Mg.start w3
 refine ⟨_, rfl, ?_⟩
 intro a A
 refine sdm A λa A↦?_
 iterate 3 refine sdo A (qh (vs := [.agg (t1.d.cells t1.ts.length).toArray, iV 9, iV 0]) rfl rfl) λa A↦?_
 refine vr (vs := zD) (t := 30) A M rfl rfl rfl pg (ql (z := .agg zD.toArray) (by kernel_rfl) rfl) (by decide) ?_
 intro g4 w5 M a A
 refine zh (L' := (.obj g4 (.cells (t1.d.cells t1.ts.length).toArray 30) :: [])) A M rfl rfl (qy rfl rfl rfl (by kernel_rfl) M 0 rfl rfl rfl) 0 rfl rfl rfl ?_
 intro w6 M
 iterate 2 refine sda A λa A↦?_
 refine qa (hK2 _ _ (wsk fun K7 hK7 => wrl (sdm A λa A↦?_)))
 refine sdo (v := bV true) A dbK λa A↦?_
 iterate 2 refine sdm A λa A↦?_
 refine sdo (v := bV true) A dbK λa A↦?_
 refine sdk (v := bV true) A λa A↦?_
 refine sdm A λa A↦?_
 refine sdo (v := pA g4 0) A (qe qqa rfl rfl) λa A↦?_
 refine sdo A (zi M o93 rfl 0 rfl rfl) λa A↦?_
 refine sdo (v := bV true) A (qb rfl rfl (fun w => (qj w).trans (by rw [show ((t1.d.k == 8)) = true from (beq_iff_eq.2 hk8)]))) λa A↦?_
 refine sdk (v := bV true) A λa A↦?_
 refine sdm A λa A↦?_
 refine sdo (v := pA g4 10) A (qe kr rfl rfl) λa A↦?_
 refine sdo A (zi M qib rfl 0 rfl rfl) λa A↦?_
 refine sdo A (zp Tryz.underlying28 rfl) λa A↦?_
 refine sdo (v := bV true) A (qb rfl rfl (fun w => (qj w).trans (by rw [show ((((t1.ts.length : Nat) : Int) == 2)) = true from (beq_iff_eq.2 (by omega))]))) λa A↦?_
 refine sdk (v := bV true) A λa A↦?_
 refine sdm A λa A↦?_
 refine sdo (v := pA g4 10) A (qe kr rfl rfl) λa A↦?_
 refine sdo A (zi M qib rfl 0 rfl rfl) λa A↦?_
 refine sdo (v := pA bta (ota + 0 * 11)) A (xh (k := 0) Tryz.underlying28 (by kernel_rfl) rfl rfl rfl lta (by omega)) λa A↦?_
 refine sdo (v := pA bta (ota + 0 * 11 + 8)) A (qe zae rfl rfl) λa A↦?_
 refine sdo A (uh (j := 8) M Hta o99 rfl rfl rfl) λa A↦?_
 refine sdo (v := bV true) A (qb rfl rfl (fun w => (qte Tryz.underlying9 w).trans (by rw [hsq] <;> rfl))) λa A↦?_
 refine sdk (v := bV true) A λa A↦?_
 refine sdm A λa A↦?_
 refine sdo (v := pA g4 10) A (qe kr rfl rfl) λa A↦?_
 refine sdo A (zi M qib rfl 0 rfl rfl) λa A↦?_
 refine sdo (v := pA btb (otb + 1 * 11)) A (xh (k := 1) Tryz.underlying28 (by kernel_rfl) rfl rfl rfl ltb (by omega)) λa A↦?_
 refine sdo (v := pA btb (otb + 1 * 11 + 1)) A (qe zad rfl rfl) λa A↦?_
 refine sdo A (uh (j := 1) M Htb o93 rfl rfl rfl) λa A↦?_
 refine sdo (v := bV true) A (qb rfl rfl (fun w => (qj w).trans (by rw [show ((tb.d.n == 1)) = true from (beq_iff_eq.2 hnq)]))) λa A↦?_
 refine sdk (v := bV true) A λa A↦?_
 refine sda A λa A↦?_
 refine qa (hK7 _ _ (wr1 hret A ?_))
 exact ⟨rfl, hB1.trans (M.bel.mono hB1.size)⟩
end Go.Proofs.YtclkfideaameoaaGreatDoor.G
namespace Go.Proofs.YtclkfideaameoaaGreatDoor
open Go.RowKit
set_option maxRecDepth 100000
theorem EqO_fld_26_0 : FieldAt Tryz.prog 26 0 0 := ⟨_, _, Tryz.underlying26, rfl, rfl, by kernel_rfl⟩
theorem EqO_fld_26_1 : FieldAt Tryz.prog 26 1 3 := ⟨_, _, Tryz.underlying26, rfl, rfl, by kernel_rfl⟩
theorem EqO_isS_24 : IsS Tryz.prog 24 3 := ⟨⟨_, Tryz.underlying24⟩, by kernel_rfl⟩
theorem zed {w : World} {p q : Q6} {a1 a2 a3 a4 : Option Addr} {ac1 ac2 ac3 ac4 : Nat} (ha : Nm w p a1 ac1 a2 ac2 a3 ac3 a4 ac4) (hl : LenQ p) {u1 u2 u3 u4 : Option Addr} {uc1 uc2 uc3 uc4 : Nat} (hu : Nm w q u1 uc1 u2 uc2 u3 uc3 u4 uc4) (hm : LenQ q) {r : Bool} (hr : (vy p.b1 p.t1 p.q1 q.b1 q.t1 q.q1 && vy p.b2 p.t2 p.q2 q.b2 q.t2 q.q2) = r) : Calls Tryz.prog 18 #[qdi p a1 ac1 a2 ac2 a3 ac3 a4 ac4, qdi q u1 uc1 u2 uc2 u3 uc3 u4 uc4] w fun e w' => e = .returned (bV r) ∧ Below w.heap.size w w' := by
 have S : St w w [] [(u4, q.q2), (u3, q.t2), (u2, q.q1), (u1, q.t1), (a4, p.q2), (a3, p.t2), (a2, p.q1), (a1, p.t1)] [] := ((((((((St.start w).addR ha.s1.rd).addR ha.s2.rd).addR ha.s3.rd).addR ha.s4.rd).addR hu.s1.rd).addR hu.s2.rd).addR hu.s3.rd).addR hu.s4.rd
 refine qr (l := [(0, .agg #[bV p.b1, .slice a1 p.t1.length ac1, .slice a2 p.q1.length ac2, bV p.b2, .slice a3 p.t2.length ac3, .slice a4 p.q2.length ac4]), (1, .agg #[bV q.b1, .slice u1 q.t1.length uc1, .slice u2 q.q1.length uc2, bV q.b2, .slice u3 q.t2.length uc3, .slice u4 q.q2.length uc4])]) Tryz.func18 rfl Tryz.ntmps18 rfl rfl ?_
 intro Q hret hnorm hP a A
 refine wsk fun K1 hK1 => wrl (qz A S rfl rfl rfl pg (zg rfl rfl) rfl ?_)
 intro g2 w3 S a A
 refine qz A S rfl rfl rfl pg (zg rfl rfl) rfl ?_
 intro g4 w5 S a A
 refine sda A λa A↦?_
 refine qa (hK1 _ _ (wsk fun K6 hK6 => wrl (sdo (v := pA g2 0) A (qe EqO_fld_26_0 rfl rfl) λa A↦?_)))
 refine sdo A (qk S EqO_isS_24 rfl 1 rfl (cs := [bV p.b1, .slice a1 p.t1.length ac1, .slice a2 p.q1.length ac2]) rfl rfl) λa A↦?_
 refine sdo (v := pA g4 0) A (qe EqO_fld_26_0 rfl rfl) λa A↦?_
 refine sdo A (qk S EqO_isS_24 rfl 0 rfl (cs := [bV q.b1, .slice u1 q.t1.length uc1, .slice u2 q.q1.length uc2]) rfl rfl) λa A↦?_
 rcases tf (vy p.b1 p.t1 p.q1 q.b1 q.t1 q.q1) with hb7 | hb7
 ·
  refine sct A (ef rfl rfl) (yh ⟨(S.rd 7 rfl), ha.s1.nil, ha.s1.cap⟩ ⟨(S.rd 6 rfl), ha.s2.nil, ha.s2.cap⟩ ⟨(S.rd 3 rfl), hu.s1.nil, hu.s1.cap⟩ ⟨(S.rd 2 rfl), hu.s2.nil, hu.s2.cap⟩ hl.l1 hl.l2 hm.l1 hm.l2 hb7) ?_
  rintro _ w9 ⟨rfl, hb8⟩
  replace S := S.call hb8
  refine ⟨_, rfl, ?_⟩
  intro a A
  refine sdm A λa A↦?_
  refine sdo (v := pA g2 3) A (qe EqO_fld_26_1 rfl rfl) λa A↦?_
  refine sdo A (qk S EqO_isS_24 rfl 1 rfl (cs := [bV p.b2, .slice a3 p.t2.length ac3, .slice a4 p.q2.length ac4]) rfl rfl) λa A↦?_
  refine sdo (v := pA g4 3) A (qe EqO_fld_26_1 rfl rfl) λa A↦?_
  refine sdo A (qk S EqO_isS_24 rfl 0 rfl (cs := [bV q.b2, .slice u3 q.t2.length uc3, .slice u4 q.q2.length uc4]) rfl rfl) λa A↦?_
  rcases tf (vy p.b2 p.t2 p.q2 q.b2 q.t2 q.q2) with hb10 | hb10
  ·
   refine sct A (ef rfl rfl) (yh ⟨(S.rd 5 rfl), ha.s3.nil, ha.s3.cap⟩ ⟨(S.rd 4 rfl), ha.s4.nil, ha.s4.cap⟩ ⟨(S.rd 1 rfl), hu.s3.nil, hu.s3.cap⟩ ⟨(S.rd 0 rfl), hu.s4.nil, hu.s4.cap⟩ hl.l3 hl.l4 hm.l3 hm.l4 hb10) ?_
   rintro _ w12 ⟨rfl, hb11⟩
   replace S := S.call hb11
   refine ⟨_, rfl, ?_⟩
   intro a A
   refine sdk (v := bV true) A λa A↦?_
   refine sda A λa A↦?_
   refine qa (hK6 _ _ (wr1 hret A ?_))
   subst hr
   exact ⟨by rw [hb7, hb10]; try rfl, S.bel⟩
  ·
   refine sct A (ef rfl rfl) (yh ⟨(S.rd 5 rfl), ha.s3.nil, ha.s3.cap⟩ ⟨(S.rd 4 rfl), ha.s4.nil, ha.s4.cap⟩ ⟨(S.rd 1 rfl), hu.s3.nil, hu.s3.cap⟩ ⟨(S.rd 0 rfl), hu.s4.nil, hu.s4.cap⟩ hl.l3 hl.l4 hm.l3 hm.l4 hb10) ?_
   rintro _ w14 ⟨rfl, hb13⟩
   replace S := S.call hb13
   refine ⟨_, rfl, ?_⟩
   intro a A
   refine sdk (v := bV false) A λa A↦?_
   refine sda A λa A↦?_
   refine qa (hK6 _ _ (wr1 hret A ?_))
   subst hr
   exact ⟨by rw [hb7, hb10]; try rfl, S.bel⟩
 ·
  refine sct A (ef rfl rfl) (yh ⟨(S.rd 7 rfl), ha.s1.nil, ha.s1.cap⟩ ⟨(S.rd 6 rfl), ha.s2.nil, ha.s2.cap⟩ ⟨(S.rd 3 rfl), hu.s1.nil, hu.s1.cap⟩ ⟨(S.rd 2 rfl), hu.s2.nil, hu.s2.cap⟩ hl.l1 hl.l2 hm.l1 hm.l2 hb7) ?_
  rintro _ w16 ⟨rfl, hb15⟩
  replace S := S.call hb15
  refine ⟨_, rfl, ?_⟩
  intro a A
  refine sdm A λa A↦?_
  iterate 5 refine qi A rfl rfl rfl λa A↦?_
  refine sdk (v := bV false) A λa A↦?_
  refine sda A λa A↦?_
  refine qa (hK6 _ _ (wr1 hret A ?_))
  subst hr
  exact ⟨by rw [hb7]; try rfl, S.bel⟩

end Go.Proofs.YtclkfideaameoaaGreatDoor
namespace Go.Proofs.YtclkfideaameoaaGreatDoor.G
open Go.RowKit
mutual
def ub : Tr → Tr → Bool
  | .mk k n q s rl ts, u => (decide (k = u.k) && (decide (n = u.n) && (decide (s = u.s) && (decide (rl = u.rl) && (vy q.b1 q.t1 q.q1 u.q.b1 u.q.t1 u.q.q1 && vy q.b2 q.t2 q.q2 u.q.b2 u.q.t2 u.q.q2))))) && (decide (ts.length = u.ts.length) && ks ts u.ts)
def ks : List Tr → List Tr → Bool
  | [], _ => true
  | _ :: _, [] => true
  | t :: ts, u :: us => ub t u && ks ts us
end
theorem zkf {b b' : Bool} {t q t' q' : List Nat} : vy b t q b' t' q' = true ↔ b = b' ∧ t = t' ∧ q = q' := by
  unfold vy
  simp
theorem zsc (k n : Int) (q : Q6) (s : ByteArray) (rl : List UInt8) (ts : List Tr) (k' n' : Int) (q' : Q6) (s' : ByteArray) (rl' : List UInt8) (ts' : List Tr) : ub (.mk k n q s rl ts) (.mk k' n' q' s' rl' ts') = true ↔ k = k' ∧ n = n' ∧ q = q' ∧ s = s' ∧ rl = rl' ∧ ts.length = ts'.length ∧ ks ts ts' = true := by
  rw [ub]
  show ((decide (k = k') && (decide (n = n') && (decide (s = s') && (decide (rl = rl') && (vy q.b1 q.t1 q.q1 q'.b1 q'.t1 q'.q1 && vy q.b2 q.t2 q.q2 q'.b2 q'.t2 q'.q2))))) && (decide (ts.length = ts'.length) && ks ts ts')) = true ↔ _
  simp only [Bool.and_eq_true, decide_eq_true_eq, zkf]
  constructor
  · rintro ⟨⟨a, b, c, d, ⟨e1, e2, e3⟩, f1, f2, f3⟩, g, h⟩
    refine ⟨a, b, ?_, c, d, g, h⟩
    cases q; cases q'
    simp_all
  · rintro ⟨a, b, c, d, e, f, g⟩
    subst c
    exact ⟨⟨a, b, d, e, ⟨rfl, rfl, rfl⟩, rfl, rfl, rfl⟩, f, g⟩
theorem qya {ts : List Tr} (h : ∀ t ∈ ts, ∀ u, ub t u = true ↔ t = u) : ∀ us : List Tr, ts.length = us.length → (ks ts us = true ↔ ts = us) := by
  induction ts with
  | nil =>
    intro us hl
    cases us with
    | nil => simp [ks]
    | cons u us => simp at hl
  | cons t ts ih =>
    intro us hl
    cases us with
    | nil => simp at hl
    | cons u us =>
      rw [ks, Bool.and_eq_true, h t List.mem_cons_self u, ih (fun x hx => h x (List.mem_cons_of_mem _ hx)) us (by simpa using hl)]
      simp
theorem zsd : ∀ t u : Tr, ub t u = true ↔ t = u := by
  refine Tr.indT fun k n q s rl ts ih u => ?_
  obtain ⟨k', n', q', s', rl', ts'⟩ := u
  rw [zsc]
  constructor
  · rintro ⟨a, b, c, d, e, f, g⟩
    rw [a, b, c, d, e, (qya ih ts' f).1 g]
  · intro h
    cases h
    exact ⟨rfl, rfl, rfl, rfl, rfl, rfl, (qya ih ts rfl).2 rfl⟩
theorem qyb {ts us : List Dt} {i : Nat} {t u : Dt} (hi : ts[i]? = some t) (hj : us[i]? = some u) : ks ((ts.map Dt.tr).drop i) ((us.map Dt.tr).drop i) = (ub t.tr u.tr && ks ((ts.map Dt.tr).drop (i + 1)) ((us.map Dt.tr).drop (i + 1))) := by
  rw [yr hi, yr hj, ks]
theorem zkg {ts us : List Dt} {i : Nat} (h : ¬ i < ts.length) : ks ((ts.map Dt.tr).drop i) ((us.map Dt.tr).drop i) = true := by
  rw [qgb h, ks]
theorem qyc (p r : Dt) : ub p.tr r.tr = ((decide (p.d.k = r.d.k) && (decide (p.d.n = r.d.n) && (decide (p.d.s = r.d.s) && (decide (p.d.rl = r.d.rl) && (vy p.d.y.q.b1 p.d.y.q.t1 p.d.y.q.q1 r.d.y.q.b1 r.d.y.q.t1 r.d.y.q.q1 && vy p.d.y.q.b2 p.d.y.q.t2 p.d.y.q.q2 r.d.y.q.b2 r.d.y.q.t2 r.d.y.q.q2))))) && (decide (p.ts.length = r.ts.length) && ks (p.ts.map Dt.tr) (r.ts.map Dt.tr))) := by
  rw [Dt.tr_eta p, Dt.tr_eta r, ub, List.length_map]
  show _ = (_ && (decide (p.ts.length = r.ts.length) && _))
  rw [show (Tr.mk r.d.k r.d.n r.d.y.q r.d.s r.d.rl (r.ts.map Dt.tr)).ts.length = r.ts.length from List.length_map _]
  rfl
def SQ2 (p r : Dt) : Bool := vy p.d.y.q.b1 p.d.y.q.t1 p.d.y.q.q1 r.d.y.q.b1 r.d.y.q.t1 r.d.y.q.q1 && vy p.d.y.q.b2 p.d.y.q.t2 p.d.y.q.q2 r.d.y.q.b2 r.d.y.q.t2 r.d.y.q.q2
theorem ur {p r : Dt} (h : p.d.k ≠ r.d.k ∨ p.d.n ≠ r.d.n ∨ p.d.s ≠ r.d.s ∨ p.d.rl ≠ r.d.rl ∨ p.ts.length ≠ r.ts.length ∨ SQ2 p r = false) : ub p.tr r.tr = false := by
  rw [qyc]
  unfold SQ2 at h
  rcases h with h | h | h | h | h | h <;> simp [h]
theorem zse {p r : Dt} (h1 : p.d.k = r.d.k) (h2 : p.d.n = r.d.n) (h3 : p.d.s = r.d.s) (h4 : p.d.rl = r.d.rl) (h5 : p.ts.length = r.ts.length) (h6 : SQ2 p r = true) : ub p.tr r.tr = ks (p.ts.map Dt.tr) (r.ts.map Dt.tr) := by
  rw [qyc]
  unfold SQ2 at h6
  rw [decide_eq_true h1, decide_eq_true h2, decide_eq_true h3, decide_eq_true h4, decide_eq_true h5, h6]
  simp
theorem zkh {a b : List UInt8} (hl : a.length = b.length) (h : ∀ j, j < a.length → a.getD j 0 = b.getD j 0) : a = b := by
  apply List.ext_getElem hl
  intro j h1 h2
  have := h j h1
  rwa [show a.getD j 0 = a[j] from by simp [List.getD, List.getElem?_eq_getElem h1], show b.getD j 0 = b[j] from by simp [List.getD, List.getElem?_eq_getElem h2]] at this
theorem jhf {a b : List UInt8} {i : Nat} (h : (((a.getD i 0).toNat : Nat) : Int) ≠ (((b.getD i 0).toNat : Nat) : Int)) : a ≠ b := fun e => h (by rw [e])
theorem jhg {a b : UInt8} (h : ((a.toNat : Nat) : Int) = ((b.toNat : Nat) : Int)) : a = b := UInt8.toNat_inj.1 (by omega)
set_option maxRecDepth 100000
theorem zhb {w : World} {so : Option Addr} {l : List UInt8} {i : Nat} (h : Rb w so l) (hi : i < l.length) : ∃ b off, so = some ⟨b, off, none⟩ ∧ b < w.heap.size ∧ ∀ j, j < l.length → w.cell? ⟨b, off + j, none⟩ = some (.int .u8 (((l.getD j 0).toNat : Nat) : Int)) :=
 h.pos (fun k => by rw [k] at hi; exact absurd hi (Nat.not_lt_zero _))
theorem qmb {w : World} {t u : Dt} (ht : t.rd w) (hu : u.rd w) {b : Bool} (h : SQ2 t u = b) : Calls Tryz.prog 18 #[t.d.y.val, u.d.y.val] w fun e w' => e = .returned (bV b) ∧ Below w.heap.size w w' := zed (Dt.okT ht).1.num (Dt.okT ht).1.len (Dt.okT hu).1.num (Dt.okT hu).1.len h
def RSames (n : Nat) : Prop := ∀ {w : World} {t u : Dt}, t.tr.bulk < n → t.rd w → u.rd w → Calls Tryz.prog 12 #[.agg (t.d.cells t.ts.length).toArray, .agg (u.d.cells u.ts.length).toArray] w fun e w' => e = .returned (bV (ub t.tr u.tr)) ∧ Below w.heap.size w w'
theorem qyd {n : Nat} (ih : RSames n) : RSames (n + 1) := by
 intro w t u hn ht hu
 have hlt := (Dt.okT ht).2
 have hrt : t.d.rl.length ≤ 9223372036854775807 := Nat.le_trans (Dt.okT ht).1.rcap (Dt.okT ht).1.rmax
 have M : Mg w w ([]) := Mg.start w
 refine qr (l := [(0, .agg (t.d.cells t.ts.length).toArray), (1, .agg (u.d.cells u.ts.length).toArray)]) Tryz.func12 rfl Tryz.ntmps12 rfl rfl ?_
 intro Q hret hnorm hP a A
 refine wsk fun K1 hK1 => wrl (vr (vs := [iV t.d.k, iV t.d.n, bV t.d.y.q.b1, .slice t.d.y.o1 t.d.y.q.t1.length t.d.y.c1, .slice t.d.y.o2 t.d.y.q.q1.length t.d.y.c2, bV t.d.y.q.b2, .slice t.d.y.o3 t.d.y.q.t2.length t.d.y.c3, .slice t.d.y.o4 t.d.y.q.q2.length t.d.y.c4, .string t.d.s, .slice t.d.ro t.d.rl.length t.d.rc, .slice t.d.lo t.ts.length t.d.lc]) (t := 30) A M rfl rfl rfl pg (zg rfl rfl) (by decide) ?_)
 intro g2 w3 M a A
 refine vr (vs := [iV u.d.k, iV u.d.n, bV u.d.y.q.b1, .slice u.d.y.o1 u.d.y.q.t1.length u.d.y.c1, .slice u.d.y.o2 u.d.y.q.q1.length u.d.y.c2, bV u.d.y.q.b2, .slice u.d.y.o3 u.d.y.q.t2.length u.d.y.c3, .slice u.d.y.o4 u.d.y.q.q2.length u.d.y.c4, .string u.d.s, .slice u.d.ro u.d.rl.length u.d.rc, .slice u.d.lo u.ts.length u.d.lc]) (t := 30) A M rfl rfl rfl pg (zg rfl rfl) (by decide) ?_
 intro g4 w5 M a A
 refine sda A λa A↦?_
 refine qa (hK1 _ _ (wsk fun K6 hK6 => wsk fun K7 hK7 => wrl (sdo (v := pA g2 0) A (qe qqa rfl rfl) λa A↦?_)))
 refine sdo A (zi M o93 rfl 1 rfl rfl) λa A↦?_
 refine sdo (v := pA g4 0) A (qe qqa rfl rfl) λa A↦?_
 refine sdo A (zi M o93 rfl 0 rfl rfl) λa A↦?_
 rcases tf ((t.d.k != u.d.k)) with hb8 | hb8
 ·
  have hb8' := bne_iff_ne.1 hb8
  refine sdc A zm hb8 λa A↦?_
  refine sdm A λa A↦?_
  iterate 5 refine qi A rfl rfl rfl λa A↦?_
  refine sdk (v := bV true) A λa A↦?_
  refine sdm A λa A↦?_
  iterate 5 refine qi A rfl rfl rfl λa A↦?_
  refine sdk (v := bV true) A λa A↦?_
  refine sdm A λa A↦?_
  iterate 7 refine qi A rfl rfl rfl λa A↦?_
  refine sdk (v := bV true) A λa A↦?_
  refine sdm A λa A↦?_
  iterate 7 refine qi A rfl rfl rfl λa A↦?_
  refine sdk (v := bV true) A λa A↦?_
  refine sdm A λa A↦?_
  iterate 6 refine qi A rfl rfl rfl λa A↦?_
  refine sdk (v := bV true) A λa A↦?_
  refine qa (hK7 _ _ (ct A ?_))
  refine wsk fun K9 hK9 => wrl (sda A λa A↦?_)
  refine qa (hK9 _ _ (wr1 hret A ?_))
  exact ⟨by rw [ur (.inl hb8')], M.bel⟩
 ·
  have hb8' := bne_eq_false_iff_eq.1 hb8
  refine sdc A zm hb8 λa A↦?_
  refine sdm A λa A↦?_
  refine sdo (v := pA g2 1) A (qe zad rfl rfl) λa A↦?_
  refine sdo A (zi M o93 rfl 1 rfl rfl) λa A↦?_
  refine sdo (v := pA g4 1) A (qe zad rfl rfl) λa A↦?_
  refine sdo A (zi M o93 rfl 0 rfl rfl) λa A↦?_
  rcases tf ((t.d.n != u.d.n)) with hb10 | hb10
  ·
   have hb10' := bne_iff_ne.1 hb10
   refine sdc A zm hb10 λa A↦?_
   refine sdk (v := bV true) A λa A↦?_
   refine sdm A λa A↦?_
   iterate 5 refine qi A rfl rfl rfl λa A↦?_
   refine sdk (v := bV true) A λa A↦?_
   refine sdm A λa A↦?_
   iterate 7 refine qi A rfl rfl rfl λa A↦?_
   refine sdk (v := bV true) A λa A↦?_
   refine sdm A λa A↦?_
   iterate 7 refine qi A rfl rfl rfl λa A↦?_
   refine sdk (v := bV true) A λa A↦?_
   refine sdm A λa A↦?_
   iterate 6 refine qi A rfl rfl rfl λa A↦?_
   refine sdk (v := bV true) A λa A↦?_
   refine qa (hK7 _ _ (ct A ?_))
   refine wsk fun K11 hK11 => wrl (sda A λa A↦?_)
   refine qa (hK11 _ _ (wr1 hret A ?_))
   exact ⟨by rw [ur (.inr (.inl hb10'))], M.bel⟩
  ·
   have hb10' := bne_eq_false_iff_eq.1 hb10
   refine sdc A zm hb10 λa A↦?_
   refine sdk (v := bV false) A λa A↦?_
   refine sdm A λa A↦?_
   refine sdo (v := pA g2 8) A (qe zae rfl rfl) λa A↦?_
   refine sdo A (zi M o99 rfl 1 rfl rfl) λa A↦?_
   refine sdo (v := pA g4 8) A (qe zae rfl rfl) λa A↦?_
   refine sdo A (zi M o99 rfl 0 rfl rfl) λa A↦?_
   rcases tf (decide (t.d.s = u.d.s)) with hb12 | hb12
   ·
    have hb12' := of_decide_eq_true hb12
    refine sdo (v := bV false) A (qb rfl rfl (fun w => (qtf Tryz.underlying9 w).trans (by rw [hb12] <;> rfl))) λa A↦?_
    refine sdk (v := bV false) A λa A↦?_
    refine sdm A λa A↦?_
    refine sdo (v := pA g2 9) A (qe qkc rfl rfl) λa A↦?_
    refine sdo A (zi M qmg rfl 1 rfl rfl) λa A↦?_
    refine sdo A (zp Tryz.underlying27 rfl) λa A↦?_
    refine sdo (v := pA g4 9) A (qe qkc rfl rfl) λa A↦?_
    refine sdo A (zi M qmg rfl 0 rfl rfl) λa A↦?_
    refine sdo A (zp Tryz.underlying27 rfl) λa A↦?_
    rcases tf ((((t.d.rl.length : Nat) : Int) != ((u.d.rl.length : Nat) : Int))) with hb13 | hb13
    ·
     have hb13' := bne_iff_ne.1 hb13
     refine sdc A zm hb13 λa A↦?_
     refine sdk (v := bV true) A λa A↦?_
     refine sdm A λa A↦?_
     iterate 7 refine qi A rfl rfl rfl λa A↦?_
     refine sdk (v := bV true) A λa A↦?_
     refine sdm A λa A↦?_
     iterate 6 refine qi A rfl rfl rfl λa A↦?_
     refine sdk (v := bV true) A λa A↦?_
     refine qa (hK7 _ _ (ct A ?_))
     refine wsk fun K14 hK14 => wrl (sda A λa A↦?_)
     refine qa (hK14 _ _ (wr1 hret A ?_))
     exact ⟨by rw [ur (.inr (.inr (.inr (.inl (fun e => hb13' (by rw [e]))))))], M.bel⟩
    ·
     have hb13' := bne_eq_false_iff_eq.1 hb13
     refine sdc A zm hb13 λa A↦?_
     refine sdk (v := bV false) A λa A↦?_
     refine sdm A λa A↦?_
     refine sdo (v := pA g2 10) A (qe kr rfl rfl) λa A↦?_
     refine sdo A (zi M qib rfl 1 rfl rfl) λa A↦?_
     refine sdo A (zp Tryz.underlying28 rfl) λa A↦?_
     refine sdo (v := pA g4 10) A (qe kr rfl rfl) λa A↦?_
     refine sdo A (zi M qib rfl 0 rfl rfl) λa A↦?_
     refine sdo A (zp Tryz.underlying28 rfl) λa A↦?_
     rcases tf ((((t.ts.length : Nat) : Int) != ((u.ts.length : Nat) : Int))) with hb15 | hb15
     ·
      have hb15' := bne_iff_ne.1 hb15
      refine sdc A zm hb15 λa A↦?_
      refine sdk (v := bV true) A λa A↦?_
      refine sdm A λa A↦?_
      iterate 6 refine qi A rfl rfl rfl λa A↦?_
      refine sdk (v := bV true) A λa A↦?_
      refine qa (hK7 _ _ (ct A ?_))
      refine wsk fun K16 hK16 => wrl (sda A λa A↦?_)
      refine qa (hK16 _ _ (wr1 hret A ?_))
      exact ⟨by rw [ur (.inr (.inr (.inr (.inr (.inl (fun e => hb15' (by rw [e])))))))], M.bel⟩
     ·
      have hb15' := bne_eq_false_iff_eq.1 hb15
      refine sdc A zm hb15 λa A↦?_
      refine sdk (v := bV false) A λa A↦?_
      refine sdm A λa A↦?_
      refine sdo (v := pA g2 2) A (qe zac rfl rfl) λa A↦?_
      refine sdo A (vd M zvb rfl 1 rfl (cs := [bV t.d.y.q.b1, .slice t.d.y.o1 t.d.y.q.t1.length t.d.y.c1, .slice t.d.y.o2 t.d.y.q.q1.length t.d.y.c2, bV t.d.y.q.b2, .slice t.d.y.o3 t.d.y.q.t2.length t.d.y.c3, .slice t.d.y.o4 t.d.y.q.q2.length t.d.y.c4]) rfl rfl) λa A↦?_
      refine sdo (v := pA g4 2) A (qe zac rfl rfl) λa A↦?_
      refine sdo A (vd M zvb rfl 0 rfl (cs := [bV u.d.y.q.b1, .slice u.d.y.o1 u.d.y.q.t1.length u.d.y.c1, .slice u.d.y.o2 u.d.y.q.q1.length u.d.y.c2, bV u.d.y.q.b2, .slice u.d.y.o3 u.d.y.q.t2.length u.d.y.c3, .slice u.d.y.o4 u.d.y.q.q2.length u.d.y.c4]) rfl rfl) λa A↦?_
      rcases tf (SQ2 t u) with hb17 | hb17
      ·
       refine gcl A M (ef rfl rfl) (qmb (Dt.keep M.bel _ ht) (Dt.keep M.bel _ hu) hb17) fun w19 hb18 M a A => ?_
       refine sdo (v := bV false) A (za rfl zk) λa A↦?_
       refine sdk (v := bV false) A λa A↦?_
       refine qa (hK7 _ _ (cf A ?_))
       refine wp_skip (hK6 _ _ (wsk fun K20 hK20 => wsk fun K21 hK21 => wrl (sda A λa A↦?_)))
       refine qa (hK21 _ _ (wp_block (jd (fun m_ a w1 => ∃ (i : Nat), m_ = 1 + (t.d.rl.length - i) ∧ (i ≤ t.d.rl.length ∧ ∀ j, j < i → t.d.rl.getD j 0 = u.d.rl.getD j 0) ∧ Sl a 89 [(0, .agg (t.d.cells t.ts.length).toArray), (1, .agg (u.d.cells u.ts.length).toArray), (2, pA g2 0), (3, pA g4 0), (5, iV (((i : Nat) : Int))), (7, pA g2 0), (8, iV t.d.k), (9, pA g4 0), (10, iV u.d.k), (11, bV false), (12, bV false), (13, pA g2 1), (14, iV t.d.n), (15, pA g4 1), (16, iV u.d.n), (17, bV false), (18, bV false), (19, bV false), (20, pA g2 8), (21, .string t.d.s), (22, pA g4 8), (23, .string u.d.s), (24, bV false), (25, bV false), (26, bV false), (27, pA g2 9), (28, .slice t.d.ro t.d.rl.length t.d.rc), (29, iV (((t.d.rl.length : Nat) : Int))), (30, pA g4 9), (31, .slice u.d.ro u.d.rl.length u.d.rc), (32, iV (((u.d.rl.length : Nat) : Int))), (33, bV false), (34, bV false), (35, bV false), (36, pA g2 10), (37, .slice t.d.lo t.ts.length t.d.lc), (38, iV (((t.ts.length : Nat) : Int))), (39, pA g4 10), (40, .slice u.d.lo u.ts.length u.d.lc), (41, iV (((u.ts.length : Nat) : Int))), (42, bV false), (43, bV false), (44, bV false), (45, pA g2 2), (46, .agg #[bV t.d.y.q.b1, .slice t.d.y.o1 t.d.y.q.t1.length t.d.y.c1, .slice t.d.y.o2 t.d.y.q.q1.length t.d.y.c2, bV t.d.y.q.b2, .slice t.d.y.o3 t.d.y.q.t2.length t.d.y.c3, .slice t.d.y.o4 t.d.y.q.q2.length t.d.y.c4]), (47, pA g4 2), (48, .agg #[bV u.d.y.q.b1, .slice u.d.y.o1 u.d.y.q.t1.length u.d.y.c1, .slice u.d.y.o2 u.d.y.q.q1.length u.d.y.c2, bV u.d.y.q.b2, .slice u.d.y.o3 u.d.y.q.t2.length u.d.y.c3, .slice u.d.y.o4 u.d.y.q.q2.length u.d.y.c4]), (49, bV true), (50, bV false), (51, bV false)] ∧ Mg w w1 (.obj g4 (.cells (u.d.cells u.ts.length).toArray 30) :: .obj g2 (.cells (t.d.cells t.ts.length).toArray 30) :: [])) _ ⟨0, rfl, ⟨Nat.zero_le _, fun j hj => absurd hj (Nat.not_lt_zero _)⟩, A.keep _ (by repeat' constructor), M⟩ ?_)))
       clear M A
       rintro m_ a w22 ⟨i, rfl, hinv24, A, M⟩ K23 hK23
       obtain ⟨hi0, hin8⟩ := hinv24
       refine wsk fun K25 hK25 => wsk fun K26 hK26 => wrl (sdm A λa A↦?_)
       refine sdo (v := pA g2 9) A (qe qkc rfl rfl) λa A↦?_
       refine sdo A (zi M qmg rfl 1 rfl rfl) λa A↦?_
       refine sdo A (zp Tryz.underlying27 rfl) λa A↦?_
       rcases tf (decide (((i : Nat) : Int) < ((t.d.rl.length : Nat) : Int))) with hb27 | hb27
       ·
        have hb27' := of_decide_eq_true hb27
        refine sdc A jc hb27 λa A↦?_
        refine qa (hK26 _ _ (ct A ?_))
        refine wp_skip (hK25 _ _ (wsk fun K28 hK28 => wp_block (wsk fun K29 hK29 => jh (S := fun w1 => Mg w w1 (.obj g4 (.cells (u.d.cells u.ts.length).toArray 30) :: .obj g2 (.cells (t.d.cells t.ts.length).toArray 30) :: [])) (by kernel_rfl) ?_)))
        replace M := M.drew
        refine atk (v := pA g2 9) A 0 rfl hP (M.sub (cc (cc ns))) (λ_ M↦qe qkc rfl rfl) λa A↦?_
        refine atk A 1 rfl hP (M.sub (cc (cc ns))) (λ_ M↦zi M qmg rfl 1 rfl rfl) λa A↦?_
        refine atk A 2 rfl hP (M.sub (cc (cc ns))) (λ_ M↦qs rfl) λa A↦?_
        obtain ⟨bt, ot, ht1, ht2, ht3⟩ := zhb (i := i) (Dt.okT ht).1.raw (by omega)
        refine atk (v := pA bt (ot + i)) A 3 rfl hP (M.sub (cc (cc ns))) (λ_ M↦zw (k := i) Tryz.underlying27 (by kernel_rfl) rfl rfl rfl ht1 (by omega)) λa A↦?_
        refine atk A 4 rfl hP (M.sub (cc (cc ns))) (λ_ M↦zfb M ht2 (ht3 i (by omega)) o95 rfl) λa A↦?_
        refine atk (v := pA g4 9) A 5 rfl hP (M.sub (cc (cc ns))) (λ_ M↦qe qkc rfl rfl) λa A↦?_
        refine atk A 6 rfl hP (M.sub (cc (cc ns))) (λ_ M↦zi M qmg rfl 0 rfl rfl) λa A↦?_
        refine atk A 7 rfl hP (M.sub (cc (cc ns))) (λ_ M↦qs rfl) λa A↦?_
        obtain ⟨bu, ou, hu1, hu2, hu3⟩ := zhb (i := i) (Dt.okT hu).1.raw (by omega)
        refine atk (v := pA bu (ou + i)) A 8 rfl hP (M.sub (cc (cc ns))) (λ_ M↦zw (k := i) Tryz.underlying27 (by kernel_rfl) rfl rfl rfl hu1 (by omega)) λa A↦?_
        refine atk A 9 rfl hP (M.sub (cc (cc ns))) (λ_ M↦zfb M hu2 (hu3 i (by omega)) o95 rfl) λa A↦?_
        rcases tf (((((t.d.rl.getD i 0).toNat : Nat) : Int) != (((u.d.rl.getD i 0).toNat : Nat) : Int))) with hb30 | hb30
        ·
         have hb30' := bne_iff_ne.1 hb30
         refine atk (v := bV true) A 10 rfl hP (M.sub (cc (cc ns))) (λ_ M↦qb rfl rfl (fun w => (zm w).trans (by rw [hb30]))) λa A↦?_
         refine zr (by kernel_rfl) ?_
         refine hK29 _ _ (ct A ?_)
         refine wsk fun K31 hK31 => wrl (sda A λa A↦?_)
         refine qa (hK31 _ _ (wr1 hret A ?_))
         exact ⟨by rw [ur (.inr (.inr (.inr (.inl (jhf hb30')))))], M.bel⟩
        ·
         have hb30' := bne_eq_false_iff_eq.1 hb30
         refine atk (v := bV false) A 10 rfl hP (M.sub (cc (cc ns))) (λ_ M↦qb rfl rfl (fun w => (zm w).trans (by rw [hb30]))) λa A↦?_
         refine zr (by kernel_rfl) ?_
         refine hK29 _ _ (cf A ?_)
         refine wp_skip (hK28 _ _ (wrl (sdm A λa A↦?_)))
         refine sdo (v := iV (((i + 1 : Nat) : Int))) A (qb rfl rfl (fun w => (yg (uy (by omega) (by omega)) w).trans (by rw [show (((i : Nat) : Int) + 1 : Int) = ((i + 1 : Nat) : Int) from by omega]))) λa A↦?_
         refine sda A λa A↦?_
         refine qa ?_
         refine hK23 _ _ _ (by omega) ⟨i + 1, rfl, ⟨by omega, fun j hj => if h9 : j < i then hin8 j h9 else by have h8 : j = i := (by omega); subst h8; exact jhg hb30'⟩, A.keep _ (by repeat' constructor), M⟩
       ·
        have hb27' := of_decide_eq_false hb27
        refine sdc A jc hb27 λa A↦?_
        refine qa (hK26 _ _ (cf A ?_))
        refine wp_exit (hK20 _ _ (wsk fun K32 hK32 => wsk fun K33 hK33 => wrl (sda A λa A↦?_)))
        refine qa (hK33 _ _ (wp_block ?_))
        have hrl : t.d.rl = u.d.rl := zkh (by omega) (fun j hj => hin8 j (by omega))
        have hsy := zse hb8' hb10' hb12' hrl (by omega) hb17
        refine jd (fun m_ a w1 => ∃ (j : Nat), m_ = 1 + (t.ts.length - j) ∧ (j ≤ t.ts.length ∧ ks (t.ts.map Dt.tr) (u.ts.map Dt.tr) = ks ((t.ts.map Dt.tr).drop j) ((u.ts.map Dt.tr).drop j)) ∧ Sl a 89 [(0, .agg (t.d.cells t.ts.length).toArray), (1, .agg (u.d.cells u.ts.length).toArray), (2, pA g2 0), (3, pA g4 0), (5, iV (((i : Nat) : Int))), (6, iV (((j : Nat) : Int))), (7, pA g2 0), (8, iV t.d.k), (9, pA g4 0), (10, iV u.d.k), (11, bV false), (12, bV false), (13, pA g2 1), (14, iV t.d.n), (15, pA g4 1), (16, iV u.d.n), (17, bV false), (18, bV false), (19, bV false), (20, pA g2 8), (21, .string t.d.s), (22, pA g4 8), (23, .string u.d.s), (24, bV false), (25, bV false), (26, bV false), (27, pA g2 9), (28, .slice t.d.ro t.d.rl.length t.d.rc), (29, iV (((t.d.rl.length : Nat) : Int))), (30, pA g4 9), (31, .slice u.d.ro u.d.rl.length u.d.rc), (32, iV (((u.d.rl.length : Nat) : Int))), (33, bV false), (34, bV false), (35, bV false), (36, pA g2 10), (37, .slice t.d.lo t.ts.length t.d.lc), (38, iV (((t.ts.length : Nat) : Int))), (39, pA g4 10), (40, .slice u.d.lo u.ts.length u.d.lc), (41, iV (((u.ts.length : Nat) : Int))), (42, bV false), (43, bV false), (44, bV false), (45, pA g2 2), (46, .agg #[bV t.d.y.q.b1, .slice t.d.y.o1 t.d.y.q.t1.length t.d.y.c1, .slice t.d.y.o2 t.d.y.q.q1.length t.d.y.c2, bV t.d.y.q.b2, .slice t.d.y.o3 t.d.y.q.t2.length t.d.y.c3, .slice t.d.y.o4 t.d.y.q.q2.length t.d.y.c4]), (47, pA g4 2), (48, .agg #[bV u.d.y.q.b1, .slice u.d.y.o1 u.d.y.q.t1.length u.d.y.c1, .slice u.d.y.o2 u.d.y.q.q1.length u.d.y.c2, bV u.d.y.q.b2, .slice u.d.y.o3 u.d.y.q.t2.length u.d.y.c3, .slice u.d.y.o4 u.d.y.q.q2.length u.d.y.c4]), (49, bV true), (50, bV false), (51, bV false), (52, iV (((i : Nat) : Int))), (53, pA g2 9), (54, .slice t.d.ro t.d.rl.length t.d.rc), (55, iV (((t.d.rl.length : Nat) : Int))), (56, bV false)] ∧ Mg w w1 (.obj g4 (.cells (u.d.cells u.ts.length).toArray 30) :: .obj g2 (.cells (t.d.cells t.ts.length).toArray 30) :: [])) _ ⟨0, rfl, ⟨Nat.zero_le _, rfl⟩, A.keep _ (by repeat' constructor), M⟩ ?_
        clear M A
        rintro m_ a w34 ⟨j, rfl, hinv36, A, M⟩ K35 hK35
        obtain ⟨hi1, hin9⟩ := hinv36
        refine wsk fun K37 hK37 => wsk fun K38 hK38 => wrl (sdm A λa A↦?_)
        refine sdo (v := pA g2 10) A (qe kr rfl rfl) λa A↦?_
        refine sdo A (zi M qib rfl 1 rfl rfl) λa A↦?_
        refine sdo A (zp Tryz.underlying28 rfl) λa A↦?_
        rcases tf (decide (((j : Nat) : Int) < ((t.ts.length : Nat) : Int))) with hb39 | hb39
        ·
         have hb39' := of_decide_eq_true hb39
         refine sdc A jc hb39 λa A↦?_
         refine qa (hK38 _ _ (ct A ?_))
         refine wp_skip (hK37 _ _ (wsk fun K40 hK40 => wp_block (wsk fun K41 hK41 => ?_)))
         obtain ⟨t1, bt1, ot1, it1, mt1, rt1_, lt1, Ht1⟩ := zvh ht (i := j) (by omega)
         obtain ⟨u1, bu1, ou1, iu1, mu1, ru1_, lu1, Hu1⟩ := zvh hu (i := j) (by omega)
         refine jh (S := fun w1 => Mg w w1 (.obj g4 (.cells (u.d.cells u.ts.length).toArray 30) :: .obj g2 (.cells (t.d.cells t.ts.length).toArray 30) :: [])) (by kernel_rfl) ?_
         replace M := M.drew
         refine atk (v := pA g2 10) A 0 rfl hP (M.sub (cc (cc ns))) (λ_ M↦qe kr rfl rfl) λa A↦?_
         refine atk A 1 rfl hP (M.sub (cc (cc ns))) (λ_ M↦zi M qib rfl 1 rfl rfl) λa A↦?_
         refine atk A 2 rfl hP (M.sub (cc (cc ns))) (λ_ M↦qs rfl) λa A↦?_
         refine atk (v := pA bt1 (ot1 + j * 11)) A 3 rfl hP (M.sub (cc (cc ns))) (λ_ M↦xh (k := j) Tryz.underlying28 (by kernel_rfl) rfl rfl rfl lt1 (by omega)) λa A↦?_
         refine atk A 4 rfl hP (M.sub (cc (cc ns))) (λ_ M↦qtg M Ht1 xw rfl rfl) λa A↦?_
         refine atk (v := pA g4 10) A 5 rfl hP (M.sub (cc (cc ns))) (λ_ M↦qe kr rfl rfl) λa A↦?_
         refine atk A 6 rfl hP (M.sub (cc (cc ns))) (λ_ M↦zi M qib rfl 0 rfl rfl) λa A↦?_
         refine atk A 7 rfl hP (M.sub (cc (cc ns))) (λ_ M↦qs rfl) λa A↦?_
         refine atk (v := pA bu1 (ou1 + j * 11)) A 8 rfl hP (M.sub (cc (cc ns))) (λ_ M↦xh (k := j) Tryz.underlying28 (by kernel_rfl) rfl rfl rfl lu1 (by omega)) λa A↦?_
         refine atk A 9 rfl hP (M.sub (cc (cc ns))) (λ_ M↦qtg M Hu1 xw rfl rfl) λa A↦?_
         rcases tf (ub t1.tr u1.tr) with hb42 | hb42
         ·
          refine zj (by kernel_rfl) (js A 10 rfl rfl rfl rfl (ef rfl rfl) ((hb42 ▸ ih (by have := zzg mt1; omega) (Dt.keep M.bel _ rt1_) (Dt.keep M.bel _ ru1_))) ?_)
          rintro _ w44 ⟨rfl, hb43⟩
          replace M := M.call hb43
          refine ⟨_, rfl, (M.sub (cc (cc ns))), ?_⟩
          intro a A
          refine atk (v := bV false) A 11 rfl hP (M.sub (cc (cc ns))) (λ_ M↦za rfl zk) λa A↦?_
          refine zr (by kernel_rfl) ?_
          refine hK41 _ _ (cf A ?_)
          refine wp_skip (hK40 _ _ (wrl (sdm A λa A↦?_)))
          refine sdo (v := iV (((j + 1 : Nat) : Int))) A (qb rfl rfl (fun w => (yg (uy (by omega) (by omega)) w).trans (by rw [show (((j : Nat) : Int) + 1 : Int) = ((j + 1 : Nat) : Int) from by omega]))) λa A↦?_
          refine sda A λa A↦?_
          refine qa ?_
          refine hK35 _ _ _ (by omega) ⟨j + 1, rfl, ⟨by omega, by rw [hin9, qyb it1 iu1, hb42, Bool.true_and]⟩, A.keep _ (by repeat' constructor), M⟩
         ·
          refine zj (by kernel_rfl) (js A 10 rfl rfl rfl rfl (ef rfl rfl) ((hb42 ▸ ih (by have := zzg mt1; omega) (Dt.keep M.bel _ rt1_) (Dt.keep M.bel _ ru1_))) ?_)
          rintro _ w46 ⟨rfl, hb45⟩
          replace M := M.call hb45
          refine ⟨_, rfl, (M.sub (cc (cc ns))), ?_⟩
          intro a A
          refine atk (v := bV true) A 11 rfl hP (M.sub (cc (cc ns))) (λ_ M↦za rfl zk) λa A↦?_
          refine zr (by kernel_rfl) ?_
          refine hK41 _ _ (ct A ?_)
          refine wsk fun K47 hK47 => wrl (sda A λa A↦?_)
          refine qa (hK47 _ _ (wr1 hret A ?_))
          exact ⟨by rw [hsy, hin9, qyb it1 iu1, hb42]; rfl, M.bel⟩
        ·
         have hb39' := of_decide_eq_false hb39
         refine sdc A jc hb39 λa A↦?_
         refine qa (hK38 _ _ (cf A ?_))
         refine wp_exit (hK32 _ _ (wsk fun K48 hK48 => wrl (sda A λa A↦?_)))
         refine qa (hK48 _ _ (wr1 hret A ?_))
         exact ⟨by rw [hsy, hin9, zkg (by omega)], M.bel⟩
      ·
       refine gcl A M (ef rfl rfl) (qmb (Dt.keep M.bel _ ht) (Dt.keep M.bel _ hu) hb17) fun w50 hb49 M a A => ?_
       refine sdo (v := bV true) A (za rfl zk) λa A↦?_
       refine sdk (v := bV true) A λa A↦?_
       refine qa (hK7 _ _ (ct A ?_))
       refine wsk fun K51 hK51 => wrl (sda A λa A↦?_)
       refine qa (hK51 _ _ (wr1 hret A ?_))
       exact ⟨by rw [ur (.inr (.inr (.inr (.inr (.inr hb17)))))], M.bel⟩
   ·
    have hb12' := of_decide_eq_false hb12
    refine sdo (v := bV true) A (qb rfl rfl (fun w => (qtf Tryz.underlying9 w).trans (by rw [hb12] <;> rfl))) λa A↦?_
    refine sdk (v := bV true) A λa A↦?_
    refine sdm A λa A↦?_
    iterate 7 refine qi A rfl rfl rfl λa A↦?_
    refine sdk (v := bV true) A λa A↦?_
    refine sdm A λa A↦?_
    iterate 7 refine qi A rfl rfl rfl λa A↦?_
    refine sdk (v := bV true) A λa A↦?_
    refine sdm A λa A↦?_
    iterate 6 refine qi A rfl rfl rfl λa A↦?_
    refine sdk (v := bV true) A λa A↦?_
    refine qa (hK7 _ _ (ct A ?_))
    refine wsk fun K52 hK52 => wrl (sda A λa A↦?_)
    refine qa (hK52 _ _ (wr1 hret A ?_))
    exact ⟨by rw [ur (.inr (.inr (.inl hb12')))], M.bel⟩
theorem qmc : ∀ n, RSames n
 | 0 => fun h => absurd h (Nat.not_lt_zero _)
 | n + 1 => qyd (qmc n)
theorem zsf {w : World} {t u : Dt} {b : Bool} (ht : t.rd w) (hu : u.rd w) (h : ub t.tr u.tr = b) : Calls Tryz.prog 12 #[.agg (t.d.cells t.ts.length).toArray, .agg (u.d.cells u.ts.length).toArray] w fun e w' => e = .returned (bV b) ∧ Below w.heap.size w w' := h ▸ qmc (t.tr.bulk + 1) (Nat.lt_succ_self _) ht hu
section
variable {P : Program} {md : Region.Mode} {ops : List Oper} {Q : Exit → Act → World → Prop} {S : World → Prop} {fuel : Nat} {listed : Array Bool} {a : Act} {w w' : World} {n : Nat} {l : List (Nat × Value)} {o : Oper} {v : Value}
end
theorem qcb {W : World} {n nm : String} {d : DataW Unit} {g t : Nat} {ms : Array (String × TypeId)} (hg : Tryz.prog.globalNamed n = some g) (ht : (Tryz.prog.globals[g]?).map (·.type) = some t) (hi : Tryz.prog.underlying t = some (.interface ms)) (h : Lib.VarReads Tryz.prog W n (.iface nm d)) :
  ∃ ev : Value, W.cell? ⟨g, 0, none⟩ = some ev ∧ (ev = .nilIface ∨ ∃ te pe, ev = .iface te pe) := by
 obtain ⟨g', t', cs, fuel, p, h1, h2, h3, h4⟩ := h
 obtain rfl : g' = g := Option.some.inj (h1.symm.trans hg)
 obtain rfl : t' = t := Option.some.inj (h2.symm.trans ht)
 obtain ⟨_, u, v, hc, _⟩ := iface_of_trod hi h4
 refine ⟨.iface u v, ?_, .inr ⟨u, v, rfl⟩⟩
 rw [World.var?_cell h1 h3 0, ← Array.getElem?_toList, hc]
 rfl
theorem jhh {W : World} (h : World.ShapedOpen Tryz.prog W) : ∃ m : Int, W.cell? ⟨Tryz.lays145_ren.g 1, 0, none⟩ = some (iV m) := by
 obtain ⟨ha, _⟩ := h
 obtain ⟨cs, h1, h2, h3⟩ := ha 2 #[iV 0] 3 (of_decide_eq_true (by kernel_rfl)) (by kernel_rfl)
 obtain ⟨ts, e1, _, e2⟩ := h3 (by kernel_rfl)
 have ets : ts = [3] := Option.some.inj (e1.symm.trans (by kernel_rfl))
 subst ets
 have h0 : 0 < cs.size := by rw [h2]; exact Nat.one_pos
 obtain ⟨u, hu, ho⟩ := e2 0 cs[0] (Array.getElem?_eq_getElem h0)
 obtain rfl : 3 = u := Option.some.inj hu
 have hc : W.cell? ⟨2, 0, none⟩ = some cs[0] := by
  simp only [World.cell?, h1]
  exact Array.getElem?_eq_getElem h0
 unfold Cell.ok at ho
 rw [Tryz.underlying3] at ho
 generalize cs[0] = v at hc ho
 cases v with
 | int k n =>
  obtain ⟨e, _⟩ := ho
  cases e
  exact ⟨n, hc⟩
 | _ => exact absurd ho id
theorem jdb {W : World} (hT : Tb W) (hR : Lib.VarReads Tryz.prog W "strconv.ErrRange" Rows.laid_strconv_ErrRange) (S : Lib.VarReads Tryz.prog W "strconv.ErrSyntax" Rows.laid_strconv_ErrSyntax) (hO : World.ShapedOpen Tryz.prog W) : Env W :=
 ⟨hT, ⟨qcb (by kernel_rfl) (by kernel_rfl) Tryz.underlying85 S, qcb (by kernel_rfl) (by kernel_rfl) Tryz.underlying85 hR⟩, jhh hO⟩
theorem qdb {l p : List UInt8} (h : Lib.hasPrefix l p = true) : p.length ≤ l.length := (List.isPrefixOf_iff_prefix.1 h).length_le
theorem qoh {l p : List UInt8} {b : UInt8} (h : Lib.hasPrefix l (b :: p) = true) : l ≠ [] := by rintro rfl; cases h
theorem zhc {f : Nat} {l : List UInt8} {r : Tr × Nat × Bool} (h : dat f l = some r) : 1 ≤ r.2.1 ∧ l ≠ [] := by
 cases f with
 | zero => rw [dat] at h; cases h
 | succ f =>
  rw [dat] at h
  by_cases c1 : Lib.hasPrefix l [40] = true
  ·
   rw [if_pos c1] at h; obtain ⟨x, _, rfl⟩ := Option.map_eq_some_iff.1 h; exact ⟨Nat.le_add_left 1 _, qoh c1⟩
  rw [if_neg c1] at h
  by_cases c2 : Lib.hasPrefix l [91] = true
  ·
   rw [if_pos c2] at h; obtain ⟨x, _, rfl⟩ := Option.map_eq_some_iff.1 h; exact ⟨Nat.le_add_left 1 _, qoh c2⟩
  rw [if_neg c2] at h
  by_cases c3 : Lib.hasPrefix l [35, 40] = true
  ·
   rw [if_pos c3] at h; obtain ⟨x, _, rfl⟩ := Option.map_eq_some_iff.1 h; exact ⟨by show 1 ≤ x.2.1 + 2; omega, qoh c3⟩
  rw [if_neg c3] at h
  by_cases c4 : Lib.hasPrefix l [35, 118, 117, 56, 40] = true
  ·
   rw [if_pos c4] at h
   obtain ⟨x, _, h⟩ := Option.bind_eq_some_iff.1 h
   obtain ⟨y, _, rfl⟩ := Option.map_eq_some_iff.1 h
   exact ⟨by show 1 ≤ x.2.1 + 5; omega, qoh c4⟩
  rw [if_neg c4] at h
  by_cases c5 : Lib.hasPrefix l [39] = true
  ·
   rw [if_pos c5] at h
   obtain ⟨x, _, h⟩ := Option.bind_eq_some_iff.1 h
   obtain ⟨y, _, rfl⟩ := Option.map_eq_some_iff.1 h
   exact ⟨by show 1 ≤ 1 + x + y.2.1; omega, qoh c5⟩
  rw [if_neg c5] at h
  by_cases c6 : Lib.hasPrefix l [34] = true
  ·
   rw [if_pos c6] at h
   obtain ⟨x, _, rfl⟩ := Option.map_eq_some_iff.1 h
   exact ⟨by show 1 ≤ 1 + x.2; omega, qoh c6⟩
  rw [if_neg c6] at h
  unfold qna at h
  by_cases c7 : tkX l = []
  ·
   rw [if_pos c7] at h; cases h
  ·
   rw [if_neg c7] at h
   obtain ⟨x, _, rfl⟩ := Option.map_eq_some_iff.1 h
   exact ⟨List.length_pos_iff.2 c7, fun k => c7 (by rw [k]; rfl)⟩
theorem zsg {l : List UInt8} (h : C.blankB (((dcX l).1 : Nat) : Int) = true) : l ≠ [] := by
 rintro rfl
 revert h
 decide
theorem qmd : ∀ f g : Nat, (∀ l, 2 * List.length l + 1 ≤ f → 2 * List.length l + 1 ≤ g → skp f l = skp g l) ∧ (∀ l, 2 * List.length l + 1 ≤ f → 2 * List.length l + 1 ≤ g → dat f l = dat g l) ∧ (∀ e l, 2 * List.length l + 2 ≤ f → 2 * List.length l + 2 ≤ g → itm f e l = itm g e l) ∧ (∀ e h l, 2 * List.length l + 2 ≤ f → 2 * List.length l + 2 ≤ g → lst f e h l = lst g e h l)
 | 0, g => ⟨fun _ h _ => by omega, fun _ h _ => by omega, fun _ _ h _ => by omega, fun _ _ _ h _ => by omega⟩
 | f + 1, 0 => ⟨fun _ _ h => by omega, fun _ _ h => by omega, fun _ _ _ h => by omega, fun _ _ _ _ h => by omega⟩
 | f + 1, g + 1 => by
  obtain ⟨hs, hd, hi, hl⟩ := qmd f g
  refine ⟨fun l h1 h2 => ?_, fun l h1 h2 => ?_, fun e l h1 h2 => ?_, fun e h l h1 h2 => ?_⟩
  ·
   rw [skp, skp]
   by_cases c1 : C.blankB (((dcX l).1 : Nat) : Int) = true
   ·
    have hw := xl (zsg c1)
    rw [if_pos c1, if_pos c1, hs _ (by rw [List.length_drop]; omega) (by rw [List.length_drop]; omega)]
   rw [if_neg c1, if_neg c1]
   by_cases c2 : (((dcX l).1 : Nat) : Int) = 59
   ·
    have h3 := zgh c2
    have h4 := zqj l
    rw [if_pos c2, if_pos c2, hs _ (by rw [List.length_drop]; omega) (by rw [List.length_drop]; omega)]
   rw [if_neg c2, if_neg c2]
   by_cases c3 : Lib.hasPrefix l [35, 124] = true
   ·
    have h3 : 2 ≤ l.length := qdb c3
    rw [if_pos c3, if_pos c3]
    congr 1
    funext n
    rw [hs _ (by simp only [List.length_drop]; omega) (by simp only [List.length_drop]; omega)]
   rw [if_neg c3, if_neg c3]
   by_cases c4 : Lib.hasPrefix l [35, 59] = true
   ·
    have h3 : 2 ≤ l.length := qdb c4
    have e1 : ∀ m, skp f ((l.drop 2).drop m) = skp g ((l.drop 2).drop m) := fun m => hs _ (by simp only [List.length_drop]; omega) (by simp only [List.length_drop]; omega)
    have e0 : skp f (l.drop 2) = skp g (l.drop 2) := e1 0
    have e2 : ∀ m, dat f ((l.drop 2).drop m) = dat g ((l.drop 2).drop m) := fun m => hd _ (by simp only [List.length_drop]; omega) (by simp only [List.length_drop]; omega)
    rw [if_pos c4, if_pos c4]
    simp only [e0, e1, e2]
   ·
    rw [if_neg c4, if_neg c4]
  ·
   rw [dat, dat]
   by_cases c1 : Lib.hasPrefix l [40] = true
   ·
    have h3 : 1 ≤ l.length := qdb c1
    rw [if_pos c1, if_pos c1, hl _ _ _ (by rw [List.length_drop]; omega) (by rw [List.length_drop]; omega)]
   rw [if_neg c1, if_neg c1]
   by_cases c2 : Lib.hasPrefix l [91] = true
   ·
    have h3 : 1 ≤ l.length := qdb c2
    rw [if_pos c2, if_pos c2, hl _ _ _ (by rw [List.length_drop]; omega) (by rw [List.length_drop]; omega)]
   rw [if_neg c2, if_neg c2]
   by_cases c3 : Lib.hasPrefix l [35, 40] = true
   ·
    have h3 : 2 ≤ l.length := qdb c3
    rw [if_pos c3, if_pos c3, hi _ _ (by rw [List.length_drop]; omega) (by rw [List.length_drop]; omega)]
   rw [if_neg c3, if_neg c3]
   by_cases c4 : Lib.hasPrefix l [35, 118, 117, 56, 40] = true
   ·
    have h3 : 5 ≤ l.length := qdb c4
    rw [if_pos c4, if_pos c4, hi _ _ (by rw [List.length_drop]; omega) (by rw [List.length_drop]; omega)]
   rw [if_neg c4, if_neg c4]
   by_cases c5 : Lib.hasPrefix l [39] = true
   ·
    have h3 : 1 ≤ l.length := qdb c5
    rw [if_pos c5, if_pos c5, hs _ (by rw [List.length_drop]; omega) (by rw [List.length_drop]; omega)]
    congr 1
    funext n
    rw [hd _ (by simp only [List.length_drop]; omega) (by simp only [List.length_drop]; omega)]
   rw [if_neg c5, if_neg c5]
  ·
   rw [itm, itm, hs l (by omega) (by omega)]
   cases hm : moK e l (skp g l) with
   | none => rfl
   | some m =>
    show (if m.1 = true then _ else _ : Option (List Tr × Nat × Bool)) = if m.1 = true then _ else _
    by_cases c : m.1 = true
    ·
     rw [if_pos c, if_pos c, hd (l.drop m.2) (by rw [List.length_drop]; omega) (by rw [List.length_drop]; omega)]
     cases hq : dat g (l.drop m.2) with
     | none => rfl
     | some r =>
      obtain ⟨k1, k2⟩ := zhc hq
      have k3 := List.length_pos_iff.2 k2
      rw [List.length_drop] at k3
      show (itm f e ((l.drop m.2).drop r.2.1)).map _ = (itm g e ((l.drop m.2).drop r.2.1)).map _
      rw [hi e _ (by simp only [List.length_drop]; omega) (by simp only [List.length_drop]; omega)]
    ·
     rw [if_neg c, if_neg c]
  ·
   rw [lst, lst, hs l (by omega) (by omega)]
   cases hm : moK e l (skp g l) with
   | none => rfl
   | some m =>
    show (if m.1 = true then _ else _ : Option (List Tr × Tr × Nat × Bool)) = if m.1 = true then _ else _
    by_cases c : m.1 = true
    ·
     rw [if_pos c, if_pos c]
     by_cases d : qia (l.drop m.2) = true
     ·
      rw [if_pos d, if_pos d]
      by_cases hh : h = true
      ·
       rw [if_pos hh, if_pos hh]
      rw [if_neg hh, if_neg hh, hs ((l.drop m.2).drop 1) (by simp only [List.length_drop]; omega) (by simp only [List.length_drop]; omega)]
      cases skp g ((l.drop m.2).drop 1) with
      | none => rfl
      | some b =>
       show (dat f (((l.drop m.2).drop 1).drop b)).bind _ = (dat g (((l.drop m.2).drop 1).drop b)).bind _
       rw [hd _ (by simp only [List.length_drop]; omega) (by simp only [List.length_drop]; omega)]
       cases dat g (((l.drop m.2).drop 1).drop b) with
       | none => rfl
       | some r =>
        show (moK e _ (skp f ((((l.drop m.2).drop 1).drop b).drop r.2.1))).bind _ = (moK e _ (skp g ((((l.drop m.2).drop 1).drop b).drop r.2.1))).bind _
        rw [hs _ (by simp only [List.length_drop]; omega) (by simp only [List.length_drop]; omega)]
     ·
      rw [if_neg d, if_neg d, hd (l.drop m.2) (by rw [List.length_drop]; omega) (by rw [List.length_drop]; omega)]
      cases hq : dat g (l.drop m.2) with
      | none => rfl
      | some r =>
       obtain ⟨k1, k2⟩ := zhc hq
       have k3 := List.length_pos_iff.2 k2
       rw [List.length_drop] at k3
       show (lst f e false ((l.drop m.2).drop r.2.1)).map _ = (lst g e false ((l.drop m.2).drop r.2.1)).map _
       rw [hl e _ _ (by simp only [List.length_drop]; omega) (by simp only [List.length_drop]; omega)]
    ·
     rw [if_neg c, if_neg c]
def skF (l : List UInt8) : Option Nat := skp (2 * l.length + 1) l
theorem qha {f : Nat} {l : List UInt8} (h : 2 * l.length + 1 ≤ f) : skp f l = skF l := (qmd _ _).1 _ h (Nat.le_refl _)
theorem kf {l s : List UInt8} {c k : Nat} (h : dcX l = (c, k)) (hb : C.blankB ((c : Nat) : Int) = true) (hd : l.drop k = s) (hk : s.length < l.length) : skF l = (skF s).map (· + k) := by
 unfold skF
 rw [skp, if_pos (by rw [h]; exact hb), h]
 show (skp (2 * l.length) (l.drop k)).map _ = _
 rw [hd, qha (by omega)]
 rfl
theorem vk {b : UInt8} {s : List UInt8} (h : b.toNat < 128) : dcX (b :: s) = (b.toNat, 1) := by rw [qjf (by simp), Lib.decodeL_ascii b s h]
theorem zsh (s : List UInt8) : skF ([32] ++ s) = (skF s).map (· + 1) := kf (vk (by decide)) (by decide) rfl (by simp)
theorem map_map {o : Option Nat} {a b c : Nat} (h : b + a = c) : (o.map (· + a)).map (· + b) = o.map (· + c) := by
 rw [Option.map_map]
 congr 1
 funext x
 show x + a + b = x + c
 omega
theorem jdc (s : List UInt8) : skF ([9, 10] ++ s) = (skF s).map (· + 2) := by
 rw [show ([9, 10] ++ s : List UInt8) = 9 :: 10 :: s from rfl, kf (vk (by decide)) (by decide) (s := 10 :: s) rfl (by simp), kf (vk (by decide)) (by decide) (s := s) rfl (by simp), map_map rfl]
theorem jje (s : List UInt8) : lnX (59 :: 32 :: 120 :: 10 :: s) = 3 := by
 unfold lnX
 show C.lnN (s.length + 3 + 1) _ = 3
 rw [C.lnN, Lib.decodeL_ascii _ _ (by decide), if_neg (by simp), if_neg (by decide)]
 show 1 + C.lnN (s.length + 2 + 1) (32 :: 120 :: 10 :: s) = 3
 rw [C.lnN, Lib.decodeL_ascii _ _ (by decide), if_neg (by simp), if_neg (by decide)]
 show 1 + (1 + C.lnN (s.length + 1 + 1) (120 :: 10 :: s)) = 3
 rw [C.lnN, Lib.decodeL_ascii _ _ (by decide), if_neg (by simp), if_neg (by decide)]
 show 1 + (1 + (1 + C.lnN (s.length + 1) (10 :: s))) = 3
 rw [C.lnN, Lib.decodeL_ascii _ _ (by decide), if_neg (by simp), if_pos (by decide)]
theorem zyg (s : List UInt8) : skF ([59, 32, 120, 10] ++ s) = (skF s).map (· + 4) := by
 rw [show ([59, 32, 120, 10] ++ s : List UInt8) = 59 :: 32 :: 120 :: 10 :: s from rfl]
 unfold skF
 rw [skp, vk (by decide), if_neg (by decide), if_pos (by decide), jje]
 show (skp _ (10 :: s)).map _ = _
 rw [qha (by simp; omega), kf (vk (by decide)) (by decide) (s := s) rfl (by simp), map_map rfl]
 rfl
theorem jdd (s : List UInt8) : xj ((32 :: 97 :: 32 :: 35 :: 124 :: 32 :: 98 :: 32 :: 124 :: 35 :: 32 :: 124 :: 35 :: s).length + 1) 1 (32 :: 97 :: 32 :: 35 :: 124 :: 32 :: 98 :: 32 :: 124 :: 35 :: 32 :: 124 :: 35 :: s) = some 13 := by
 show xj (s.length + 14) (0 + 1) _ = _
 simp [xj, Lib.hasPrefix, List.isPrefixOf, vk]
theorem zyh (s : List UInt8) : skF ([35, 124, 32, 97, 32, 35, 124, 32, 98, 32, 124, 35, 32, 124, 35] ++ s) = (skF s).map (· + 15) := by
 rw [show ([35, 124, 32, 97, 32, 35, 124, 32, 98, 32, 124, 35, 32, 124, 35] ++ s : List UInt8) = 35 :: 124 :: 32 :: 97 :: 32 :: 35 :: 124 :: 32 :: 98 :: 32 :: 124 :: 35 :: 32 :: 124 :: 35 :: s from rfl]
 unfold skF
 rw [skp, vk (by decide), if_neg (by decide), if_neg (by decide), if_pos (by rfl)]
 show ((xj (32 :: 97 :: 32 :: 35 :: 124 :: 32 :: 98 :: 32 :: 124 :: 35 :: 32 :: 124 :: 35 :: s).length.succ 1 (32 :: 97 :: 32 :: 35 :: 124 :: 32 :: 98 :: 32 :: 124 :: 35 :: 32 :: 124 :: 35 :: s)).bind _) = _
 rw [show xj (32 :: 97 :: 32 :: 35 :: 124 :: 32 :: 98 :: 32 :: 124 :: 35 :: 32 :: 124 :: 35 :: s).length.succ 1 (32 :: 97 :: 32 :: 35 :: 124 :: 32 :: 98 :: 32 :: 124 :: 35 :: 32 :: 124 :: 35 :: s) = some 13 from jdd s]
 show (skp _ s).map _ = _
 rw [qha (by simp; omega)]
 rfl
theorem jde (n : Nat) (s : List UInt8) : (dat (n + 16) (40 :: 49 :: 32 :: 50 :: 41 :: 32 :: s)).map (fun r => r.2.1) = some 5 := by kernel_rfl
theorem jdf {f : Nat} {l : List UInt8} (c1 : ¬ C.blankB (((dcX l).1 : Nat) : Int) = true) (c2 : ¬ (((dcX l).1 : Nat) : Int) = 59) (c3 : ¬ Lib.hasPrefix l [35, 124] = true) (c4 : Lib.hasPrefix l [35, 59] = true) : skp (f + 1) l = (sdX f (l.drop 2)).bind fun n => (skp f ((l.drop 2).drop n)).map (· + (2 + n)) := by
 rw [skp, if_neg c1, if_neg c2, if_neg c3, if_pos c4]
 rfl
theorem jdg {f : Nat} {l : List UInt8} (c1 : ¬ C.blankB (((dcX l).1 : Nat) : Int) = true) (c2 : ¬ (((dcX l).1 : Nat) : Int) = 59) (c3 : ¬ Lib.hasPrefix l [35, 124] = true) (c4 : ¬ Lib.hasPrefix l [35, 59] = true) : skp (f + 1) l = some 0 := by
 rw [skp, if_neg c1, if_neg c2, if_neg c3, if_neg c4]
theorem jhi (n : Nat) (s : List UInt8) : sdX (n + 16) (40 :: 49 :: 32 :: 50 :: 41 :: 32 :: s) = some 5 := by
 obtain ⟨r, e2, e3⟩ := Option.map_eq_some_iff.1 (jde n s)
 unfold sdX
 rw [jdg (f := n + 15) (by rw [vk (by decide)]; decide) (by rw [vk (by decide)]; decide) (fun k => by cases k) (fun k => by cases k), Option.bind_some]
 rw [show List.drop 0 (40 :: 49 :: 32 :: 50 :: 41 :: 32 :: s) = (40 :: 49 :: 32 :: 50 :: 41 :: 32 :: s) from rfl, e2, Option.bind_some, e3, if_pos]
 show Lib.validD [40, 49, 32, 50, 41] = true
 decide
theorem zsi (s : List UInt8) : skF ([35, 59, 40, 49, 32, 50, 41, 32] ++ s) = (skF s).map (· + 8) := by
 unfold skF
 rw [show ([35, 59, 40, 49, 32, 50, 41, 32] ++ s : List UInt8) = 35 :: 59 :: 40 :: 49 :: 32 :: 50 :: 41 :: 32 :: s from rfl, show 2 * (35 :: 59 :: 40 :: 49 :: 32 :: 50 :: 41 :: 32 :: s).length + 1 = 2 * s.length + 16 + 1 from rfl]
 rw [jdf (by rw [vk (by decide)]; decide) (by rw [vk (by decide)]; decide) (fun k => by cases k) rfl, show List.drop 2 (35 :: 59 :: 40 :: 49 :: 32 :: 50 :: 41 :: 32 :: s) = 40 :: 49 :: 32 :: 50 :: 41 :: 32 :: s from rfl, jhi, Option.bind_some, show List.drop 5 (40 :: 49 :: 32 :: 50 :: 41 :: 32 :: s) = 32 :: s from rfl]
 rw [qha (by simp only [List.length_cons]; omega), kf (vk (by decide)) (by decide) (s := s) rfl (by simp), map_map rfl]
 rfl
theorem zsj (s : List UInt8) : dcX (226 :: 128 :: 168 :: s) = (8232, 3) := by kernel_rfl
theorem zta (s : List UInt8) : dcX (194 :: 160 :: s) = (160, 2) := by kernel_rfl
theorem zyi (s : List UInt8) : skF ([226, 128, 168, 194, 160] ++ s) = (skF s).map (· + 5) := by
 rw [show ([226, 128, 168, 194, 160] ++ s : List UInt8) = 226 :: 128 :: 168 :: 194 :: 160 :: s from rfl, kf (zsj _) (by decide) (s := 194 :: 160 :: s) rfl (by simp), kf (zta _) (by decide) (s := s) rfl (by simp; omega), map_map rfl]
theorem zyj (x : List UInt8) : Lib.validD ([226, 128, 168, 194, 160] ++ x) = Lib.validD x := by
 have h1 := zsj (194 :: 160 :: x)
 have h2 := zta x
 rw [qjf (by simp)] at h1 h2
 show Lib.validD (226 :: 128 :: 168 :: 194 :: 160 :: x) = _
 rw [Lib.validD_step _ (by simp), h1, if_neg (by decide)]
 show Lib.validD (194 :: 160 :: x) = _
 rw [Lib.validD_step _ (by simp), h2, if_neg (by decide)]
 rfl
theorem qme {p x : List UInt8} (h : ∀ b ∈ p, b.toNat < 128) : Lib.validD (p ++ x) = Lib.validD x := by
 rw [Lib.validD_ascii p.length _ (by rw [List.take_left']; exact h; rfl), List.drop_left']
 rfl
def ahX (k : Nat) : List UInt8 := match k with
 | 0 => [32]
 | 1 => [9, 10]
 | 2 => [59, 32, 120, 10]
 | 3 => [35, 124, 32, 97, 32, 35, 124, 32, 98, 32, 124, 35, 32, 124, 35]
 | 4 => [35, 59, 40, 49, 32, 50, 41, 32]
 | _ => [226, 128, 168, 194, 160]
theorem jhj (k : Nat) (s : List UInt8) : skF (ahX k ++ s) = (skF s).map (· + (ahX k).length) := by
 unfold ahX
 split
 ·
  exact zsh s
 ·
  exact jdc s
 ·
  exact zyg s
 ·
  exact zyh s
 ·
  exact zsi s
 ·
  exact zyi s
theorem jia (k : Nat) (x : List UInt8) : Lib.validD (ahX k ++ x) = Lib.validD x := by
 unfold ahX
 split
 ·
  exact qme (by decide)
 ·
  exact qme (by decide)
 ·
  exact qme (by decide)
 ·
  exact qme (by decide)
 ·
  exact qme (by decide)
 ·
  exact zyj x
theorem ztb {k : Nat} {s : List UInt8} (hl : (ahX k ++ s).length ≤ 65536) : (rdX (ahX k ++ s)).1 = (rdX s).1 ∧ (rdX (ahX k ++ s)).2.2 = (rdX s).2.2 ∧ (rdX (ahX k ++ s)).2.1 = (if (rdX s).1 = 0 then (rdX s).2.1 + (ahX k).length else 0) ∧ ((rdX s).1 ≠ 0 → (rdX s).2.1 = 0) := by
 have hl2 := hl
 rw [List.length_append] at hl2
 rw [zrj (by omega), zrj (by omega)]
 have hs := jhj k s
 unfold frX
 rw [qha (Nat.le_refl _), qha (Nat.le_refl _), hs]
 cases hq : skF s with
 | none => exact ⟨rfl, rfl, rfl, fun _ => rfl⟩
 | some a =>
  have hd : (ahX k ++ s).drop (a + (ahX k).length) = s.drop a := by rw [Nat.add_comm, ← List.drop_drop, List.drop_left']; rfl
  have ht : ∀ n, (ahX k ++ s).take (a + (ahX k).length + n) = ahX k ++ s.take (a + n) := fun n => by
   rw [show a + (ahX k).length + n = (ahX k).length + (a + n) by omega, List.take_length_add_append]
  have hf : dat (2 * (ahX k ++ s).length + 1) (s.drop a) = dat (2 * s.length + 1) (s.drop a) := (qmd _ _).2.1 _ (by rw [List.length_drop, List.length_append]; omega) (by rw [List.length_drop]; omega)
  simp only [Option.map_some, hd, hf]
  by_cases c : (s.drop a).isEmpty = true
  ·
   rw [if_pos c, if_pos c]; exact ⟨rfl, rfl, rfl, fun _ => rfl⟩
  rw [if_neg c, if_neg c]
  cases dat (2 * s.length + 1) (s.drop a) with
  | none => exact ⟨rfl, rfl, rfl, fun _ => rfl⟩
  | some r =>
   simp only [ht, jia]
   split
   ·
    split
    ·
     exact ⟨rfl, rfl, rfl, fun _ => rfl⟩
    ·
     split
     ·
      exact ⟨rfl, rfl, by show a + (ahX k).length + r.2.1 = if (0 : Int) = 0 then a + r.2.1 + (ahX k).length else 0; rw [if_pos rfl]; omega, fun h => absurd rfl h⟩
     ·
      exact ⟨rfl, rfl, rfl, fun _ => rfl⟩
   ·
    exact ⟨rfl, rfl, rfl, fun _ => rfl⟩
theorem zza (a b : List UInt8) : tx a ++ tx b = tx (a ++ b) := by
 apply ByteArray.ext
 rw [ByteArray.data_append]
 simp [tx]
theorem ztc {P : Program} {t : TypeId} {x y : Operand} {a b : List UInt8} (hm : a.length + b.length ≤ 9223372036854775807) : ∀ w, (do eqGuard .add t x y (.string (tx a)) (.string (tx b)); binOp .add t (.string (tx a)) (.string (tx b)) : Sem Value).run P w = .ok (.string (tx (a ++ b))) w := fun w => by
 rw [qtc (by rw [jt, jt]; exact hm) w, zza]
theorem ztd {P : Program} {t : TypeId} {a b : Operand} {n r : Nat} (hn : n ≤ 255) (hr : n % 6 = r) : ∀ w, (do eqGuard .rem t a b (.int .u8 ((n : Nat) : Int)) (.int .u8 6); binOp .rem t (.int .u8 ((n : Nat) : Int)) (.int .u8 6) : Sem Value).run P w = .ok (.int .u8 ((r : Nat) : Int)) w := fun w => by
 subst hr
 have e : ((n : Nat) : Int).tmod (6 : Int) = ((n % 6 : Nat) : Int) := by rw [Int.tmod_eq_emod_of_nonneg (by omega)]; omega
 have h : IntKind.u8.wrap ((n % 6 : Nat) : Int) = ((n % 6 : Nat) : Int) := by rw [IntKind.wrap_u8]; omega
 simp [go_sem, e, h]
theorem qye {P : Program} {t e : TypeId} {sz : Nat} (hu : P.underlying t = some (.slice e)) (he : (P.info? e).map (·.size) = some sz) {g o n c k : Nat} (hk : k < n) : ∀ w, (Instr.indexAt t (.slice (some ⟨g, o, none⟩) n c) (.int .u8 (k : Nat))).run P w = .ok (pA g (o + k * sz)) w := fun w => by
 obtain ⟨i, hi, hs⟩ := xz he
 have h2 : (sizeOf e).run P w = .ok sz w := by simp [sizeOf, typeInfo, hi, hs]
 have h3 : (0 : Int) ≤ (k : Nat) ∧ ((k : Nat) : Int) < (n : Nat) := ⟨by omega, by omega⟩
 simp [Instr.indexAt, asIntOf, run_underlying hu, h2, h3, xb]
 intro h
 omega
theorem qsd {P : Program} {w : World} {l : List (Nat × Value)} {dst : Option Tmp} {ty : TypeId} {pos : String} {after : Array Edge} {guard : Option (Nat × Bool)} {t e : TypeId} {sz : Nat} (hu : P.underlying t = some (.slice e)) (he : (P.info? e).map (·.size) = some sz) {x i : Operand} {g n c k : Nat} (hx : ev l x = some (.slice (aO g) n c)) (hi : ev l i = some (.int .u8 ((k : Nat) : Int))) (hk : k < n) :
  Does P l ⟨dst, .indexAddr t x i, ty, pos, after, guard⟩ w (pA g (k * sz)) w := by
 have := ki (l := l) (dst := dst) (ty := ty) (pos := pos) (after := after) (guard := guard) (w := w) hx hi (qye hu he (o := 0) hk)
 rwa [Nat.zero_add] at this
theorem jdh {m : Nat} (h : m < 6) : ([.string (tx [32]), .string (tx [9, 10]), .string (tx [59, 32, 120, 10]), .string (tx [35, 124, 32, 97, 32, 35, 124, 32, 98, 32, 124, 35, 32, 124, 35]), .string (tx [35, 59, 40, 49, 32, 50, 41, 32]), .string (tx [226, 128, 168, 194, 160])] : List Value)[m]? = some (.string (tx (ahX m))) := by
 match m, h with
 | 0, _ => rfl
 | 1, _ => rfl
 | 2, _ => rfl
 | 3, _ => rfl
 | 4, _ => rfl
 | 5, _ => rfl
theorem jib (k : Nat) : (ahX k).length ≤ 15 := by
 unfold ahX
 split <;> decide
theorem zee {w : World} {L : List UInt8} {k : Nat} (hN : Env w) (hl : L.length ≤ 140737488355328) (hk : k ≤ 255) : Calls Tryz.prog 5 #[.string (tx L), .int .u8 ((k : Nat) : Int)] w fun e w' => e = .returned (bV true) ∧ Below w.heap.size w w' := by
 obtain ⟨m, hm⟩ : ∃ m, k % 6 = m := ⟨_, rfl⟩
 have hm6 : m < 6 := by omega
 have hah := jib m
 have M : Mg w w ([]) := Mg.start w
 refine qr (l := [(0, .string ((tx L))), (1, .int .u8 (((k : Nat) : Int)))]) Tryz.func5 rfl Tryz.ntmps5 rfl rfl ?_
 intro Q hret hnorm hP a A
 refine wsk fun K1 hK1 => wrl (sda A λa A↦?_)
 refine qa (hK1 _ _ (wsk fun K2 hK2 => wrl (qph (e := 9) (sz := 1) (m := 6) (vs := [.string (tx [32]), .string (tx [9, 10]), .string (tx [59, 32, 120, 10]), .string (tx [35, 124, 32, 97, 32, 35, 124, 32, 98, 32, 124, 35, 32, 124, 35]), .string (tx [35, 59, 40, 49, 32, 50, 41, 32]), .string (tx [226, 128, 168, 194, 160])]) A M rfl rfl rfl (jv rfl (by kernel_rfl)) rfl rfl (.inl (by decide)) ?_)))
 intro g3 w4 M a A
 refine sdm A λa A↦?_
 refine sdo (v := .int .u8 (((m : Nat) : Int))) A (qb rfl rfl (ztd hk hm)) λa A↦?_
 refine sdo (v := pA g3 (m * 1)) A (qsd (k := m) Tryz.underlying41 (by kernel_rfl) rfl rfl (by omega)) λa A↦?_
 refine sdo (v := .string ((tx (ahX m)))) A (zui M 0 rfl ((congrArg _ (Nat.mul_one m)).trans (jdh (by omega))) o99 rfl) λa A↦?_
 replace M : Mg w w4 [] := M.sub ns
 refine sda A λa A↦?_
 refine qa (hK2 _ _ (wsk fun K5 hK5 => wsk fun K6 hK6 => wrl (sct A (ef rfl rfl) (qog (hN.below M.bel)) ?_)))
 rintro _ w8 ⟨rfl, hb7⟩
 replace M := M.call hb7
 refine ⟨_, rfl, ?_⟩
 intro a A
 refine sdo (v := bV false) A (za rfl zk) λa A↦?_
 iterate 2 refine sdm A λa A↦?_
 refine sdo (v := iV (((L.length : Nat) : Int))) A (ju (s := L) Tryz.underlying9 rfl) λa A↦?_
 refine sdm A λa A↦?_
 refine sdo (v := iV ((((ahX m).length : Nat) : Int))) A (ju (s := ahX m) Tryz.underlying9 rfl) λa A↦?_
 refine sdo (v := iV (((65536 - (ahX m).length : Nat) : Int))) A (qb rfl rfl (ar_sub ((in_i64 (by omega) (by omega)).trans (by omega)))) λa A↦?_
 rcases tf (decide (((65536 - (ahX m).length : Nat) : Int) < ((L.length : Nat) : Int))) with hb9 | hb9
 ·
  have hb9' := of_decide_eq_true hb9
  refine sdc A zs hb9 λa A↦?_
  refine sdk (v := bV true) A λa A↦?_
  refine qa (hK6 _ _ (ct A ?_))
  refine wsk fun K10 hK10 => wrl (sct A (ef rfl rfl) (qog (hN.below M.bel)) ?_)
  rintro _ w12 ⟨rfl, hb11⟩
  replace M := M.call hb11
  refine ⟨_, rfl, ?_⟩
  intro a A
  refine sda A λa A↦?_
  refine qa (hK10 _ _ (wr1 hret A ?_))
  exact ⟨rfl, M.bel⟩
 ·
  have hb9' := of_decide_eq_false hb9
  refine sdc A zs hb9 λa A↦?_
  refine sdk (v := bV false) A λa A↦?_
  refine qa (hK6 _ _ (cf A ?_))
  refine wp_skip (hK5 _ _ (wsk fun K13 hK13 => wrl (sdm A λa A↦?_)))
  obtain ⟨e1, n1, T1, hr1⟩ : ∃ e n t, rdX L = (e, n, t) := ⟨_, _, _, rfl⟩
  refine sct A (ef rfl rfl) ((by have h := read_any (L := L) (U := []) (Z := []) hN Cu.nil Ob.nil (by omega) M; rw [hr1] at h; exact h)) ?_
  rintro _ w14 ⟨t1, F1, rfl, ⟨htr0, hle0⟩, ⟨hL0, hO1⟩, hM1⟩
  have htr1 : t1.tr = T1 := htr0
  have hle1 : e1 = 0 → 1 ≤ n1 ∧ n1 ≤ L.length := hle0
  have hL1 : Lv w F1 t1 := by rw [List.append_nil] at hL0; exact hL0
  rw [List.append_nil, List.nil_append] at hM1
  replace M : Mg w w14 (F1) := hM1
  refine ⟨_, rfl, ?_⟩
  intro a A
  refine sdm A λa A↦?_
  iterate 3 refine sdo A (qh (vs := [.agg (t1.d.cells t1.ts.length).toArray, iV (((n1 : Nat) : Int)), iV e1]) rfl rfl) λa A↦?_
  refine vr (vs := zD) (t := 30) A M rfl rfl rfl pg (ql (z := .agg zD.toArray) (by kernel_rfl) rfl) (by decide) ?_
  intro g15 w16 M a A
  refine zh (L' := (.obj g15 (.cells (t1.d.cells t1.ts.length).toArray 30) :: F1)) A M rfl rfl (qy rfl rfl rfl (by kernel_rfl) M 0 rfl rfl rfl) 0 rfl rfl rfl ?_
  intro w17 M
  iterate 2 refine sda A λa A↦?_
  refine qa (hK13 _ _ (wsk fun K18 hK18 => wrl ?_))
  iterate 2 refine sdm A λa A↦?_
  refine sdo (v := .string ((tx (ahX m ++ L)))) A (qb rfl rfl (ztc (by omega))) λa A↦?_
  have hsz : (ahX m ++ L).length ≤ 65536 := by rw [List.length_append]; have := of_decide_eq_false hb9; omega
  obtain ⟨n2, hn2, hr2, hz1⟩ : ∃ n2, n2 = (if e1 = 0 then n1 + (ahX m).length else 0) ∧ rdX (ahX m ++ L) = (e1, n2, T1) ∧ (e1 ≠ 0 → n1 = 0) := by
   obtain ⟨q1, q2, q3, q4⟩ := ztb (k := m) (s := L) hsz
   rw [hr1] at q1 q2 q3 q4
   exact ⟨_, rfl, Prod.ext q1 (Prod.ext q3 q2), q4⟩
  refine sct A (ef rfl rfl) ((by have h := read_any (L := ahX m ++ L) (U := (.obj g15 (.cells (t1.d.cells t1.ts.length).toArray 30) :: [])) (Z := F1) hN (Cu.cons rfl Cu.nil) hO1 (by omega) M; rw [hr2] at h; exact h)) ?_
  rintro _ w19 ⟨t2, F2, rfl, ⟨htr9, _⟩, ⟨hL2, hO2⟩, hM2⟩
  have htr2 : t2.tr = T1 := htr9
  replace M : Mg w w19 (.obj g15 (.cells (t1.d.cells t1.ts.length).toArray 30) :: (F2 ++ F1)) := hM2
  refine ⟨_, rfl, ?_⟩
  intro a A
  refine sdm A λa A↦?_
  iterate 3 refine sdo A (qh (vs := [.agg (t2.d.cells t2.ts.length).toArray, iV (((n2 : Nat) : Int)), iV e1]) rfl rfl) λa A↦?_
  refine vr (vs := zD) (t := 30) A M rfl rfl rfl pg (ql (z := .agg zD.toArray) (by kernel_rfl) rfl) (by decide) ?_
  intro g20 w21 M a A
  refine zh (L' := (.obj g20 (.cells (t2.d.cells t2.ts.length).toArray 30) :: .obj g15 (.cells (t1.d.cells t1.ts.length).toArray 30) :: (F2 ++ F1))) A M rfl rfl (qy rfl rfl rfl (by kernel_rfl) M 0 rfl rfl rfl) 0 rfl rfl rfl ?_
  intro w22 M
  iterate 2 refine sda A λa A↦?_
  refine qa (hK18 _ _ (wsk fun K23 hK23 => wrl ?_))
  iterate 2 refine sdm A λa A↦?_
  refine sdo (v := bV true) A (qb rfl rfl (fun w => (qj w).trans (by rw [show ((e1 == e1)) = true from (beq_iff_eq.2 rfl)]))) λa A↦?_
  refine sdm A λa A↦?_
  refine sdo A (vd M xw rfl 1 rfl (cs := [iV t1.d.k, iV t1.d.n, bV t1.d.y.q.b1, .slice t1.d.y.o1 t1.d.y.q.t1.length t1.d.y.c1, .slice t1.d.y.o2 t1.d.y.q.q1.length t1.d.y.c2, bV t1.d.y.q.b2, .slice t1.d.y.o3 t1.d.y.q.t2.length t1.d.y.c3, .slice t1.d.y.o4 t1.d.y.q.q2.length t1.d.y.c4, .string t1.d.s, .slice t1.d.ro t1.d.rl.length t1.d.rc, .slice t1.d.lo t1.ts.length t1.d.lc]) rfl rfl) λa A↦?_
  refine sdo A (vd M xw rfl 0 rfl (cs := [iV t2.d.k, iV t2.d.n, bV t2.d.y.q.b1, .slice t2.d.y.o1 t2.d.y.q.t1.length t2.d.y.c1, .slice t2.d.y.o2 t2.d.y.q.q1.length t2.d.y.c2, bV t2.d.y.q.b2, .slice t2.d.y.o3 t2.d.y.q.t2.length t2.d.y.c3, .slice t2.d.y.o4 t2.d.y.q.q2.length t2.d.y.c4, .string t2.d.s, .slice t2.d.ro t2.d.rl.length t2.d.rc, .slice t2.d.lo t2.ts.length t2.d.lc]) rfl rfl) λa A↦?_
  refine gcl A M (ef rfl rfl) (zsf ((hL1.app F2) _ (M.sub (cn (cn (.refl _))))) (hL2 _ (M.sub (cn (cn (.refl _))))) ((zsd _ _).2 (htr1.trans htr2.symm))) fun w25 hb24 M a A => ?_
  refine sdk (v := bV true) A λa A↦?_
  iterate 2 refine sdm A λa A↦?_
  rcases tf ((e1 != 0)) with hb26 | hb26
  ·
   have hb26' := bne_iff_ne.1 hb26
   refine sdc A zm hb26 λa A↦?_
   iterate 2 refine sdm A λa A↦?_
   refine sdo (v := bV true) A (qb rfl rfl (fun w => (qj w).trans (by rw [show ((((n1 : Nat) : Int) == 0)) = true from (beq_iff_eq.2 (by rw [hz1 (bne_iff_ne.1 hb26)]; rfl))]))) λa A↦?_
   refine sdk (v := bV true) A λa A↦?_
   iterate 2 refine sdm A λa A↦?_
   refine sdo (v := bV true) A (qb rfl rfl (fun w => (qj w).trans (by rw [show ((((n2 : Nat) : Int) == 0)) = true from (beq_iff_eq.2 (by rw [hn2, if_neg (bne_iff_ne.1 hb26)]; rfl))]))) λa A↦?_
   refine sdk (v := bV true) A λa A↦?_
   refine sdm A λa A↦?_
   iterate 3 refine qi A rfl rfl rfl λa A↦?_
   iterate 6 refine vq A rfl rfl rfl λa A↦?_
   refine qi A rfl rfl rfl λa A↦?_
   iterate 2 refine sdk (v := bV true) A λa A↦?_
   refine sda A λa A↦?_
   refine qa (hK23 _ _ (wr1 hret A ?_))
   exact ⟨rfl, M.bel⟩
  ·
   have hb26' := bne_eq_false_iff_eq.1 hb26
   refine sdc A zm hb26 λa A↦?_
   refine sdm A λa A↦?_
   iterate 2 refine qi A rfl rfl rfl λa A↦?_
   refine sdk (v := bV false) A λa A↦?_
   refine sdm A λa A↦?_
   iterate 2 refine qi A rfl rfl rfl λa A↦?_
   refine sdk (v := bV false) A λa A↦?_
   iterate 2 refine sdm A λa A↦?_
   refine sdo (v := bV true) A (qb rfl rfl (fun w => (qj w).trans (by rw [show ((e1 == 0)) = true from (beq_iff_eq.2 (by simpa using hb26))]))) λa A↦?_
   iterate 4 refine sdm A λa A↦?_
   refine sdo (v := iV ((((ahX m).length : Nat) : Int))) A (ju (s := ahX m) Tryz.underlying9 rfl) λa A↦?_
   refine sdo (v := iV (((n1 + (ahX m).length : Nat) : Int))) A (qb rfl rfl (ar_add ((in_i64 (by omega) (by omega)).trans (by omega)))) λa A↦?_
   refine sdo (v := bV true) A (qb rfl rfl (fun w => (qj w).trans (by rw [show ((((n2 : Nat) : Int) == ((n1 + (ahX m).length : Nat) : Int))) = true from (beq_iff_eq.2 (by rw [hn2, if_pos (by simpa using hb26)]))]))) λa A↦?_
   iterate 3 refine sdk (v := bV true) A λa A↦?_
   refine sda A λa A↦?_
   refine qa (hK23 _ _ (wr1 hret A ?_))
   exact ⟨rfl, M.bel⟩
theorem zef {W : World} {s : ByteArray} {z : Int} (hE : Env W) (hs : s.size ≤ 140737488351232) (h0 : 0 ≤ z) (h1 : z ≤ 255) : Calls Tryz.prog 5 #[.string s, .int .u8 z] W fun e w' => e = .returned (bV true) ∧ Below W.heap.size W w' := by
 obtain ⟨k, rfl⟩ := Int.eq_ofNat_of_zero_le h0
 have h := zee (L := s.data.toList) (k := k) hE (by rw [Array.length_toList]; exact Nat.le_trans hs (by decide)) (by omega)
 have e : tx s.data.toList = s := zzb s
 rwa [e] at h
end Go.Proofs.YtclkfideaameoaaGreatDoor.G
