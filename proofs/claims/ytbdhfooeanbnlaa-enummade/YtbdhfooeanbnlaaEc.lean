/- A range over a function: steps within a round; slices.Values, Collect and AppendSeq over texts. -/
import Derived.Test.YtbdhfooeanbnlaaEa
import Derived.RangeFuncNested
import Derived.RangeFuncLeaves
import Derived.LoopNIn
import Derived.Test.YtbdhfooeanbnlaaProg
namespace Go.Proofs.Ytbdhfooeanbnlaa
open Go.RowKit
set_option linter.unusedVariables false
set_option linter.unusedSimpArgs false
section
variable {F : Fence} {m : Nat} {P : Program} {w0 w w' : World} {L : List Ck} {l : List (Nat × Value)} {ops : List Oper} {Q : Exit → Act → World → Prop} {a : Act} {n : Nat} {o : Oper} {rest : List Oper} {d : Nat} {v : Value}
/-- The slots, whatever waits for the function's end. -/
def Sd (a : Act) (n : Nat) (l : List (Nat × Value)) : Prop := Sl { a with defers := [] } n l
theorem sem_at (hnd : ∀ c, o.op ≠ .defer c) (r : Option Nat) (ρ : Operand → Value) : o.semAt r ρ = execOp ρ o := by
  cases r with
  | none => rfl
  | some k => exact Oper.semAt_some k _ _ hnd
theorem i_do (hF : ∀ f, F.fn f) (hA : Sd a n l) (hg : passes l ops o = true) (hdst : o.dst = some d) (hd : Nat.blt d n = true) (hnd : ∀ c, o.op ≠ .defer c) (he : Does P l o w v w')
    (hk : ∀ a', Sd a' n ((d, v) :: l) → a'.defers = a.defers → wpListIn F m P ops.toArray Q rest a' w') : wpListIn F m P ops.toArray Q (o :: rest) a w := by
  unfold wpListIn
  rw [if_pos (show Region.wanted o (yielded ops.toArray a.tmps) = true from hA.wanted hg)]
  refine ⟨fun f _ => hF f, ?_⟩
  rw [sem_at hnd, he a.eval (fun x u hx => hA.ev hx), Oper.uponIn_value, hdst]
  exact hk _ (hA.put hd v) rfl
theorem i_set (hF : ∀ f, F.fn f) (hA : Sd a n l) (hg : passes l ops o = true) (hdst : o.dst = none) (hnd : ∀ c, o.op ≠ .defer c) (he : Sets P l o w w')
    (hk : wpListIn F m P ops.toArray Q rest a w') : wpListIn F m P ops.toArray Q (o :: rest) a w := by
  unfold wpListIn
  rw [if_pos (show Region.wanted o (yielded ops.toArray a.tmps) = true from hA.wanted hg)]
  refine ⟨fun f _ => hF f, ?_⟩
  rw [sem_at hnd, he a.eval (fun x u hx => hA.ev hx), Oper.uponIn_skip, hdst]
  exact hk
theorem i_call (hF : ∀ f, F.fn f) (hd0 : F.depth = none) (hA : Sd a n l) (hg : passes l ops o = true) (hdst : o.dst = some d) (hd : Nat.blt d n = true) (hnd : ∀ c, o.op ≠ .defer c) {f : FuncId} {vs : List Value} (he : Enters P l o w f vs) {R : World → Prop} (hc : CallsIn F (m - 1) P f vs.toArray w fun e w' => e = .returned v ∧ R w')
    (hk : ∀ w', R w' → ∀ a', Sd a' n ((d, v) :: l) → a'.defers = a.defers → wpListIn F m P ops.toArray Q rest a' w') : wpListIn F m P ops.toArray Q (o :: rest) a w := by
  unfold wpListIn
  rw [if_pos (show Region.wanted o (yielded ops.toArray a.tmps) = true from hA.wanted hg)]
  refine ⟨fun f _ => hF f, ?_⟩
  rw [sem_at hnd, he a.eval (fun x u hx => hA.ev hx), Oper.uponIn_enter]
  refine ⟨(fun h => by rw [hd0] at h; cases h), hc.mono ?_⟩
  rintro _ w' ⟨rfl, h⟩
  rw [hdst]
  exact hk w' h _ (hA.put hd v) rfl
/-- A loop of so many rounds. -/
theorem i_loop {c : Code} (I : Nat → Act → World → Prop) (N : Nat) (h0 : I N a w) (round : ∀ k a w, I k a w → c.wpIn F m P (Exit.then (fun a' w' => ∃ j, k = j + 1 ∧ I j a' w') Q) a w) : (Code.loop c).wpIn F m P Q a w := by
  have key : ∀ k a w, I k a w → Code.roundsIn F m P c Q (k + 1) a w := by
    intro k
    induction k with
    | zero =>
      intro a w h
      refine wpIn_mono (round 0 a w h) (fun e a' w' hq => ?_)
      cases e with
      | normal => obtain ⟨j, hj, _⟩ := hq; omega
      | _ => exact hq
    | succ k ih =>
      intro a w h
      refine wpIn_mono (round (k + 1) a w h) (fun e a' w' hq => ?_)
      cases e with
      | normal =>
        obtain ⟨j, hj, hI⟩ := hq
        obtain rfl : k = j := by omega
        exact ih a' w' hI
      | _ => exact hq
  exact wpIn_loop_rounds (N + 1) (key N a w h0)
/-- A round of a loop is called. -/
theorem i_yield (hF : ∀ f, F.fn f) (hd0 : F.depth = none) (hA : Sd a n l) (hg : passes l ops o = true) (hdst : o.dst = some d) (hd : Nat.blt d n = true) (hnd : ∀ c, o.op ≠ .defer c) {k : Nat} {vs : List Value} (he : ∀ ρ : Operand → Value, (∀ x u, ev l x = some u → ρ x = u) → (execOp ρ o).run P w = (Instr.yield k vs.toArray).run P w) {R : Bool → World → Prop} (hy : YieldAt F (m - 1) P k vs.toArray w fun e w' => ∃ b, e = .returned (.bool b) ∧ R b w')
    (hk : ∀ b w', R b w' → ∀ a', Sd a' n ((d, .bool b) :: l) → a'.defers = a.defers → wpListIn F m P ops.toArray Q rest a' w') : wpListIn F m P ops.toArray Q (o :: rest) a w := by
  obtain ⟨fn, tmps, assign, body, h1, h2⟩ := hy
  unfold wpListIn
  rw [if_pos (show Region.wanted o (yielded ops.toArray a.tmps) = true from hA.wanted hg)]
  refine ⟨fun f _ => hF f, ?_⟩
  rw [sem_at hnd, he a.eval (fun x u hx => hA.ev hx), h1, Oper.uponIn_round]
  refine ⟨(fun h => by rw [hd0] at h; cases h), h2.mono ?_⟩
  rintro _ w' ⟨b, rfl, h⟩
  rw [hdst]
  exact hk b w' h _ (hA.put hd (.bool b)) rfl
theorem calls_yield {x : Operand} {k : Nat} {args : List Operand} {ts : Array TypeId} {vs : List Value} {dst : Option Tmp} {ty : TypeId} {pos : String} {after : Array Edge} {guard : Option (Nat × Bool)} (hx : ev l x = some (.func (.yield k) #[] #[])) (ha : evs l args = some vs) :
    ∀ ρ : Operand → Value, (∀ x u, ev l x = some u → ρ x = u) → (execOp ρ ⟨dst, .call ⟨.value x, args.toArray, ts⟩, ty, pos, after, guard⟩).run P w = (Instr.yield k vs.toArray).run P w := fun ρ h => by
  have e := evs_map h args vs ha
  simp [execOp, resolve, invoke, h x _ hx, Deferred.ofValue, e]
theorem Sd.sl (h : Sd a n l) (hd : a.defers = []) : Sl a n l := ⟨h.size, h.holds, hd⟩
theorem Sd.ev (h : Sd a n l) {x : Operand} {v : Value} (hx : Go.Proofs.Ytbdhfooeanbnlaa.ev l x = some v) : a.eval x = v := Sl.ev h hx
theorem Sd.keep (h : Sd a n l) (l' : List (Nat × Value)) (hs : AllIn l l') : Sd a n l' := Sl.keep h l' hs
theorem i_walk {f : FuncId} {fn : Func} {c : Code} {args : List Value} {Z : Ending → World → Prop} (hf : P.funcs[f]? = some fn) (hb : fn.body = some c) (hF : F.fn f) (hn : fn.ntmps = n) (hl : Nat.ble args.length n = true) (hs : (args.zipIdx.map fun p => (p.2, p.1)) = l) (hro : F.round = none)
    (h : ∀ Q : Exit → Act → World → Prop, (∀ a w, bodyPost P fn Z .ret a w → Q .ret a w) → (∀ a w, bodyPost P fn Z .ret a w → Q .normal a w) → ∀ a, Sd a n l → a.defers = [] → c.wpIn F m P Q a w) : CallsIn F m P f args.toArray w Z := by
  subst hs
  refine callsIn_of_wp hf hb hF (h _ (fun _ _ h => h) (fun _ _ h => h) _ ?_ rfl) hro
  rw [hn]
  exact Sl.enter (Nat.le_of_ble_eq_true hl)
theorem i_walkM {f : FuncId} {fn : Func} {c : Code} {args : List Value} {Z : Ending → World → Prop} (hf : P.funcs[f]? = some fn) (hb : fn.body = some c) (hF : F.fn f) (hn : fn.ntmps = n) (hl : Nat.ble args.length n = true) (hs : (args.zipIdx.map fun p => (p.2, p.1)) = l) (hro : F.round = none)
    (h : ∀ Q : Exit → Act → World → Prop, (∀ a w, bodyPostM F m P fn Z .ret a w → Q .ret a w) → ∀ a, Sd a n l → a.defers = [] → c.wpIn F m P Q a w) : CallsIn F m P f args.toArray w Z := by
  subst hs
  refine callsIn_of_wp_marks hf hb hF (h _ (fun _ _ h => h) _ ?_ rfl) hro
  rw [hn]
  exact Sl.enter (Nat.le_of_ble_eq_true hl)
theorem i_seq {x y : Code} (h : ∀ K : Act → World → Prop, (∀ a w, y.wpIn F m P Q a w → K a w) → x.wpIn F m P (Exit.then K Q) a w) : (Code.seq x y).wpIn F m P Q a w := wpIn_seq (h _ (fun _ _ h => h))
theorem i_new (hF : ∀ f, F.fn f) (hA : Sd a n l) (hM : Mg w0 w L) (hg : passes l ops o = true) (hdst : o.dst = some d) (hd : Nat.blt d n = true) (hnd : ∀ c, o.op ≠ .defer c) {vs : List Value} {t : TypeId} (val : Nat → Value) (he : Does P l o w (val w.heap.size) (w.alloc (.cells vs.toArray t))) (ht : t ≠ BY)
    (hk : ∀ g w', Mg w0 w' (.obj g (.cells vs.toArray t) :: L) → w.heap.size ≤ g → g < w'.heap.size → Below w.heap.size w w' → KeepsOthers w w' → ∀ a', Sd a' n ((d, val g) :: l) → a'.defers = a.defers → wpListIn F m P ops.toArray Q rest a' w') : wpListIn F m P ops.toArray Q (o :: rest) a w :=
  i_do hF hA hg hdst hd hnd he (hk _ _ (hM.addObj _ (quiet_cells ht)) (Nat.le_refl _) (by simp) ((Below.refl _ w).alloc (Nat.le_refl _) _) (KeepsOthers.alloc _ _))
end
theorem keeps_sets (g : Nat) : ∀ (cs : List Value) (w : World) (o : Nat), KeepsOthers w (w.setCells g o cs)
  | [], w, o => KeepsOthers.refl w
  | c :: cs, w, o => (KeepsOthers.setCell w ⟨g, o, none⟩ c).trans (keeps_sets g cs _ _)
theorem below_sets {B : Nat} (g : Nat) (hg : B ≤ g) : ∀ (cs : List Value) (w : World) (o : Nat), Below B w (w.setCells g o cs)
  | [], w, o => Below.refl _ w
  | c :: cs, w, o => ((Below.refl B w).setCell (p := ⟨g, o, none⟩) hg c).trans (below_sets g hg cs _ _)
/-- A block that holds no cells is turned: rows and blocks of cells stay. -/
theorem Mg.calmR {w0 w w' : World} {L : List Ck} {row : Option Nat} (h : Mg w0 w L) (hg : w.grownBy w' row) (hr : ∀ r, row = some r → w0.heap.size ≤ r ∧ ∃ o : Obj, w.heap[r]? = some o ∧ o.isCells = false) (hL : ∀ c ∈ L, (∃ g vs t, c = .obj g (.cells vs t)) ∨ ∃ e sz v n xs, c = .row e sz v n xs) : Mg w0 w' L := by
  have key : ∀ (g : Nat) (o : Obj), w.heap[g]? = some o → o.isCells = true → w'.heap[g]? = some o := fun g o ho hc => (hg.block g (Array.getElem?_eq_some_iff.1 ho).1 (fun e => by
    obtain ⟨_, o2, h2, h3⟩ := hr g e.symm
    rw [ho] at h2
    cases h2
    rw [hc] at h3
    cases h3)).trans ho
  refine ⟨h.bel.grown hg h.bel.size (fun k e => (hr k e).1), fun c hc => ?_, h.dis⟩
  rcases hL c hc with ⟨g, vs, t, rfl⟩ | ⟨e, sz, v, n, xs, rfl⟩
  · have h2 := h.all _ hc
    exact ⟨h2.1, key _ _ h2.2 rfl⟩
  · have h2 : w.ownsRow w0.heap.size e sz v n xs := h.all _ hc
    refine ⟨h2.1, ?_⟩
    rcases h2.2 with ⟨e1, e2⟩ | ⟨g, cap, cur, e1, hB, hc2, h3⟩
    · exact .inl ⟨e1, e2⟩
    · exact .inr ⟨g, cap, cur, e1, hB, key _ _ hc2 rfl, h3⟩
def encS (x : ByteArray) : Array Value := #[.string x]
theorem f_is1_strs : Is1 Try.prog 22 := ⟨⟨_, Try.underlying22, rfl⟩, by kernel_rfl⟩
theorem f_is1_str : Is1 Try.prog 9 := ⟨⟨_, Try.underlying9, rfl⟩, by kernel_rfl⟩
set_option maxRecDepth 100000 in
set_option maxHeartbeats 400000 in
theorem values_stops {wA w0 : World} {Bs : Nat} {so : Option Addr} {ca : Nat} {ts : List ByteArray} (hR : Rs wA so ts) (hb : Below wA.heap.size wA w0) (hBs : wA.cell? ⟨Bs, 0, none⟩ = some (.slice so ts.length ca)) (hl : ts.length ≤ 8796093021952) (n : Nat) :
    SeqStopsK Fence.wide n Try.prog 55 #[.pointer (some ⟨Bs, 0, none⟩)] encS (Below wA.heap.size) (fun ys => ys = ts) (fun _ => True) ts.length w0 := by
  intro l J Jx W hW hJ hJx hY h0
  have hF : ∀ f, Fence.wide.fn f := fun _ => trivial
  rw [List.append_toArray]
  refine i_walk (l := [(0, .func (.yield l) #[] #[]), (1, .pointer (some ⟨Bs, 0, none⟩))]) Try.func55 rfl trivial rfl rfl rfl rfl ?_
  intro Q hret hnorm a hA hdf
  have hbW : Below wA.heap.size wA W := hb.trans (hW.mono hb.size)
  have hc : W.cell? ⟨Bs, 0, none⟩ = some (.slice so ts.length ca) := (hbW.cell (p := ⟨Bs, 0, none⟩) (cell_ltE hBs)).trans hBs
  refine i_seq fun K1 hK1 => wpIn_region_lit ?_
  refine i_do (v := .slice so ts.length ca) hF hA rfl rfl rfl (by intro c h; cases h) (does_load rfl (run_load1 f_is1_strs hc)) fun a hA h2 => ?_
  refine i_do (v := .int .i64 (ts.length : Nat)) hF hA rfl rfl rfl (by intro c h; cases h) (does_len Try.underlying22 rfl) fun a hA h3 => ?_
  refine i_do (v := .int .i64 0) hF hA rfl rfl rfl (by intro c h; cases h) (does_move rfl) fun a hA h4 => ?_
  refine wpListIn_nil (hK1 _ _ (wpIn_block ?_))
  refine i_loop (fun k a W' => k ≤ ts.length ∧ Sd a 16 [(0, .func (.yield l) #[] #[]), (1, .pointer (some ⟨Bs, 0, none⟩)), (5, .slice so ts.length ca), (6, .int .i64 (ts.length : Nat)), (7, .int .i64 ((ts.length - k : Nat) : Int))] ∧ a.defers = [] ∧ Below wA.heap.size W W' ∧ J (ts.take (ts.length - k)) W') ts.length ⟨Nat.le_refl _, by rw [Nat.sub_self]; exact hA.keep _ ⟨rfl, rfl, rfl, rfl, rfl, trivial⟩, by rw [h4, h3, h2, hdf], Below.refl _ _, by rw [Nat.sub_self]; exact h0⟩ ?_
  rintro k a W' ⟨hk, hA, hd, hKp, hJp⟩
  refine i_seq fun K2 hK2 => wpIn_region_lit ?_
  refine i_do (v := .bool (decide (((ts.length - k : Nat) : Int) < (ts.length : Nat)))) hF hA rfl rfl rfl (by intro c h; cases h) (does_bin rfl rfl bin_lss) fun a hA h3 => ?_
  refine wpListIn_nil (hK2 _ _ (i_seq fun K3 hK3 => ?_))
  refine wpIn_cond_split (t := decide (((ts.length - k : Nat) : Int) < (ts.length : Nat))) (hA.ev rfl) (fun hq => ?_) (fun hq => ?_)
  · have hq' := of_decide_eq_true hq
    obtain ⟨b1, o1, s, hso, hcell, hit⟩ := hR.at_ (i := ts.length - k) (by omega)
    refine wpIn_skip (hK3 _ _ (i_seq fun K4 hK4 => wpIn_block (i_seq fun K5 hK5 => wpIn_region_lit ?_)))
    refine i_do (v := .pointer (some ⟨b1, o1 + (ts.length - k), none⟩)) hF hA rfl rfl rfl (by intro c h; cases h) (does_indexRow (k := ts.length - k) Try.underlying22 (by kernel_rfl) rfl rfl rfl hso (by omega)) fun a hA h4 => ?_
    refine i_do (v := .string s) hF hA rfl rfl rfl (by intro c h; cases h) (does_load rfl (run_load1 f_is1_str (((hbW.trans hKp).cell (p := ⟨b1, _, none⟩) (cell_ltE hcell)).trans hcell))) fun a hA h5 => ?_
    refine i_do (v := .string s) hF hA rfl rfl rfl (by intro c h; cases h) (does_assign rfl) fun a hA h6 => ?_
    refine wpListIn_nil (hK5 _ _ (i_seq fun K6 hK6 => wpIn_region_lit ?_))
    refine i_do (v := .func (.yield l) #[] #[]) hF hA rfl rfl rfl (by intro c h; cases h) (does_move rfl) fun a hA h7 => ?_
    refine i_do (v := .string s) hF hA rfl rfl rfl (by intro c h; cases h) (does_move rfl) fun a hA h8 => ?_
    have hlen : (ts.take (ts.length - k)).length < ts.length := by rw [List.length_take]; omega
    refine i_yield (k := l) (vs := [.string s]) (R := fun b W2 => (b = true ∧ J (ts.take (ts.length - k) ++ [s]) W2 ∧ Below wA.heap.size W' W2) ∨ (b = false ∧ Jx (ts.take (ts.length - k) ++ [s]) W2)) hF rfl hA rfl rfl rfl (by intro c h; cases h) (calls_yield rfl rfl) ?_ ?_
    · have := hY (ts.take (ts.length - k)) s W' hJp hlen
      obtain ⟨fn, tmps, assign, body, e1, e2⟩ := this
      refine ⟨fn, tmps, assign, body, e1, e2.mono ?_⟩
      rintro e W2 (⟨rfl, h1, h2⟩ | ⟨rfl, h1⟩)
      · exact ⟨true, rfl, .inl ⟨rfl, h1, h2⟩⟩
      · exact ⟨false, rfl, .inr ⟨rfl, h1⟩⟩
    · rintro b W2 hR2 a hA h10
      refine i_do (v := .bool (!b)) hF hA rfl rfl rfl (by intro c h; cases h) (does_un rfl un_not) fun a hA h11 => ?_
      refine wpListIn_nil (hK6 _ _ ?_)
      have hdd : a.defers = [] := by rw [h11, h10, h8, h7, h6, h5, h4, h3, hd]
      rcases hR2 with ⟨rfl, hJ2, hK2'⟩ | ⟨rfl, hJx2⟩
      · refine wpIn_cond_false (hA.ev rfl) (wpIn_skip (hK4 _ _ (wpIn_region_lit ?_)))
        refine i_do (v := .int .i64 ((ts.length - (k - 1) : Nat) : Int)) hF hA rfl rfl rfl (by intro c h; cases h) (does_bin rfl rfl (ar_add ((in_i64 (by omega) (by omega)).trans (by omega)))) fun a hA g2 => ?_
        refine i_do (v := .int .i64 ((ts.length - (k - 1) : Nat) : Int)) hF hA rfl rfl rfl (by intro c h; cases h) (does_move rfl) fun a hA g3 => ?_
        refine wpListIn_nil ?_
        refine ⟨k - 1, by omega, by omega, hA.keep _ ⟨rfl, rfl, rfl, rfl, rfl, trivial⟩, by rw [g3, g2, hdd], hKp.trans hK2', ?_⟩
        rw [show ts.length - (k - 1) = ts.length - k + 1 by omega, List.take_add_one, hit]
        exact hJ2
      · refine wpIn_cond_true (hA.ev rfl) (wpIn_ret ?_)
        refine hret _ _ ?_
        exact ends (rs := []) (vs := []) (v := .tuple #[]) (hA.sl hdd) rfl .nil rfl ⟨⟨_, rfl⟩, .inr ⟨_, trivial, hJx2⟩⟩
  · have hq' := of_decide_eq_false hq
    refine wpIn_exit ?_
    obtain rfl : k = 0 := by omega
    refine hnorm _ _ ?_
    rw [Nat.sub_zero, List.take_length] at hJp
    exact ends (rs := []) (vs := []) (v := .tuple #[]) (hA.sl (by rw [h3, hd])) rfl .nil rfl ⟨⟨_, rfl⟩, .inl ⟨ts, rfl, hJp⟩⟩
end Go.Proofs.Ytbdhfooeanbnlaa
