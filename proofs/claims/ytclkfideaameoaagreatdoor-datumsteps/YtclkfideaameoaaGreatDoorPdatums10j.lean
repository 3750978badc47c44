/- RdX TrC RdY RdZ ReA EqO Ov RsA ReB ReC -/
import Derived.Test.YtclkfideaameoaaGreatDoorPdatums10i
import Derived.Test.YtclkfideaameoaaGreatDoorPdatums10h
import Derived.KernelRfl
import Derived.Test.YtclkfideaameoaaGreatDoorPdatums10d
import Derived.Test.YtclkfideaameoaaGreatDoorRows
import Derived.Handed
import Derived.FnData
import Derived.LaidLaws
import Derived.Lib.LaidU8
set_option linter.unusedVariables false
set_option linter.unusedSimpArgs false
set_option maxHeartbeats 1000000
namespace Go.Proofs.YtclkfideaameoaaGreatDoor.G
open Go.RowKit
set_option maxRecDepth 100000

theorem qhb {g2 g3 g4 : Nat} : Sl { tmps := #[(pA g2 0), (pA g3 0), (pA g4 0)] ++ Array.replicate (Tryz.f19.ntmps - #[(pA g2 0), (pA g3 0), (pA g4 0)].size) undef, defers := [] } 18 [(0, pA g2 0), (1, pA g3 0), (2, pA g4 0)] := by
 have h := Sl.enter (args := [pA g2 0, pA g3 0, pA g4 0]) (m := 18) (Nat.le_of_ble_eq_true rfl)
 exact h
theorem zia {P : Program} {t : TypeId} {x : Operand} {c : Value} (h : P.underlying t = some (.interface (P.methodsAt t))) : ∀ w, (do eqGuard .eql t x (.const c) .nilIface .nilIface; binOp .eql t .nilIface .nilIface : Sem Value).run P w = .ok (bV true) w := fun w => by simp [go_sem, run_eql_nil_nil w t h]
theorem zuj (w : World) (v : Value) : (Instr.typeAssert (.iface 47 v) 20 47 true).run Tryz.prog w = .ok (.tuple #[v, bV true]) w := by kernel_rfl
theorem qqj {w : World} {l : List (Nat × Value)} {dst : Option Tmp} {ty : TypeId} {pos : String} {after : Array Edge} {guard : Option (Nat × Bool)} {x : Operand} {v : Value} (hx : ev l x = some (.iface 47 v)) : Does Tryz.prog l ⟨dst, .typeAssert x 20 47 true, ty, pos, after, guard⟩ w (.tuple #[v, bV true]) w := fun ρ h => by
 simp [execOp, h x _ hx, zuj w v]
theorem qwb {P : Program} {t : TypeId} {x y : Operand} {ty : TypeId} {q : Value} (h : P.underlying t = some (.interface (P.methodsAt t))) : ∀ w, (do eqGuard .eql t x y (.iface ty q) .nilIface; binOp .eql t (.iface ty q) .nilIface : Sem Value).run P w = .ok (bV false) w := fun w => by simp [go_sem, run_eql_held_nil w t ty q h]
theorem qnd {P : Program} {fn : Func} {tmps : Array Value} {w : World} (h : fn.results = #[]) : (results fn tmps).run P w = .ok (.tuple #[]) w := by
 unfold results
 simp [h]
theorem um {w : World} {g2 g3 g4 : Nat} : CallsD Tryz.prog 19 #[(pA g2 0), (pA g3 0), (pA g4 0)] .returning w fun e u' w' => (∃ v, e = .returned v) ∧ u' = .returning ∧ w' = w := by
 refine callsD_of_wpS Tryz.func19 rfl fun c₀ cs hu => ?_
 refine qlc (v := .nilIface) qhb rfl rfl rfl rfl rfl rfl (fun ρ w => rfl) (.inr ⟨by simp [recoverD, hu], rfl, rfl⟩) (zd rfl) ?_
 intro Q hret hnorm a A
 have M : Mg w w ([]) := Mg.start w
 refine wsk fun K1 hK1 => wsk fun K2 hK2 => wrl (sdm A λa A↦?_)
 refine sdo (v := bV true) A (qb rfl rfl (zia Tryz.underlying20)) λa A↦?_
 refine qa (hK2 _ _ (wp_cond_true (A.ev rfl) ?_))
 refine wp_ret (hret _ _ ?_)
 exact ⟨A.none_, .returning, by rw [← hu], _, qnd rfl, ⟨_, rfl⟩, rfl, rfl⟩
theorem zib {w0 w : World} {g2 g3 g4 : Nat} {v0 v1 v2 v3 v4 v5 v6 v7 v8 v9 v10 x3 x4 : Value} {T : List Ck} (hM0 : Mg w0 w (.obj g2 (.cells #[v0, v1, v2, v3, v4, v5, v6, v7, v8, v9, v10] 30) :: .obj g3 (.cells #[x3] 3) :: .obj g4 (.cells #[x4] 31) :: T)) : CallsD Tryz.prog 19 #[(pA g2 0), (pA g3 0), (pA g4 0)] (.panicking flt) w fun e u' w' => (∃ v, e = .returned v) ∧ settle u' = .returning ∧ Mg w0 w' (.obj g2 zC :: .obj g3 (.cells #[iV 0] 3) :: .obj g4 (.cells #[iV 5] 31) :: T) := by
 refine callsD_of_wpS Tryz.func19 rfl fun c₀ cs hu => ?_
 refine qlc (v := .iface 47 (.agg #[])) qhb rfl rfl rfl rfl rfl rfl (fun ρ w => rfl) (cs' := { c₀ with mode := .panicking [{ v := .iface 47 (.agg #[]), recovered := true }] } :: cs) (.inl (by simp [recoverD, hu, flt])) (zd rfl) ?_
 intro Q hret hnorm a A
 have M : Mg w0 w (.obj g2 (.cells #[v0, v1, v2, v3, v4, v5, v6, v7, v8, v9, v10] 30) :: .obj g3 (.cells #[x3] 3) :: .obj g4 (.cells #[x4] 31) :: T) := hM0
 refine wsk fun K1 hK1 => wsk fun K2 hK2 => wrl (sdm A λa A↦?_)
 refine sdo (v := bV false) A (qb rfl rfl (qwb Tryz.underlying20)) λa A↦?_
 refine qa (hK2 _ _ (wp_cond_false (A.ev rfl) ?_))
 refine wp_skip (hK1 _ _ (wsk fun K3 hK3 => wsk fun K4 hK4 => wrl (sdm A λa A↦?_)))
 refine sdo (v := .tuple #[.agg #[], bV true]) A (qqj rfl) λa A↦?_
 refine sdm A λa A↦?_
 iterate 2 refine sdo A (qh (vs := [.agg #[], bV true]) rfl rfl) λa A↦?_
 refine vq (vs := []) (t := 47) A M rfl rfl rfl pg (ql (z := .agg #[]) (by kernel_rfl) rfl) (by decide) ?_
 intro g5 w6 M a A
 refine zh (L' := (.obj g5 (.cells #[] 47) :: .obj g2 (.cells #[v0, v1, v2, v3, v4, v5, v6, v7, v8, v9, v10] 30) :: .obj g3 (.cells #[x3] 3) :: .obj g4 (.cells #[x4] 31) :: T)) A M rfl rfl (qy rfl rfl rfl (by kernel_rfl) M 0 rfl rfl rfl) 0 rfl rfl rfl ?_
 intro w7 M
 refine sda A λa A↦?_
 refine qa (hK4 _ _ (wsk fun K8 hK8 => wrl (sdm A λa A↦?_)))
 refine sdo (v := bV false) A (za rfl zk) λa A↦?_
 refine qa (hK8 _ _ (wp_cond_false (A.ev rfl) ?_))
 refine wp_skip (hK3 _ _ (wrl (sdo (v := .agg zD.toArray) A (qw rfl (fun w => by kernel_rfl)) λa A↦?_)))
 refine zh (L' := (.obj g5 (.cells #[] 47) :: .obj g2 zC :: .obj g3 (.cells #[x3] 3) :: .obj g4 (.cells #[x4] 31) :: T)) A M rfl rfl (qy rfl rfl rfl (by kernel_rfl) M 1 rfl rfl rfl) 1 rfl rfl rfl ?_
 intro w9 M
 refine zh (L' := (.obj g5 (.cells #[] 47) :: .obj g2 zC :: .obj g3 (.cells #[iV 0] 3) :: .obj g4 (.cells #[x4] 31) :: T)) A M rfl rfl (qy rfl rfl rfl (by kernel_rfl) M 2 rfl rfl rfl) 2 rfl rfl rfl ?_
 intro w10 M
 refine zh (L' := (.obj g5 (.cells #[] 47) :: .obj g2 zC :: .obj g3 (.cells #[iV 0] 3) :: .obj g4 (.cells #[iV 5] 31) :: T)) A M rfl rfl (qy rfl rfl rfl (by kernel_rfl) M 3 rfl rfl rfl) 3 rfl rfl rfl ?_
 intro w11 M
 refine qa (hnorm _ _ ?_)
 exact ⟨A.none_, _, rfl, _, qnd rfl, ⟨_, rfl⟩, rfl, M.sub (cn (.refl _))⟩
theorem Mg.here {w0 w : World} {L : List Ck} (h : Mg w0 w L) (k : Nat) {g : Nat} {cs : List Value} {t : TypeId} (hk : L[k]? = some (.obj g (.cells cs.toArray t))) : Here w g 0 cs := ⟨(Array.getElem?_eq_some_iff.1 (h.obj k hk)).1, fun j v hj => by rw [Nat.zero_add]; exact h.cell k hk j hj⟩
theorem zpc {w : World} {d : Nd} {ts : List Dt} (hrd : (Dt.mk d ts).rd w) : Calls Tryz.prog 15 #[.agg (d.cells ts.length).toArray] w fun e w' => e = .returned (bV (jr 1 20000 (Dt.mk d ts).tr).1) ∧ Below w.heap.size w w' := by
 have M : Mg w w ([]) := Mg.start w
 refine qs (l := [(0, .agg (d.cells ts.length).toArray)]) Tryz.func15 rfl Tryz.ntmps15 rfl rfl ?_
 intro Q hret hnorm hP a A
 refine wsk fun K1 hK1 => wrl (vq (vs := [iV d.k, iV d.n, bV d.y.q.b1, .slice d.y.o1 d.y.q.t1.length d.y.c1, .slice d.y.o2 d.y.q.q1.length d.y.c2, bV d.y.q.b2, .slice d.y.o3 d.y.q.t2.length d.y.c3, .slice d.y.o4 d.y.q.q2.length d.y.c4, .string d.s, .slice d.ro d.rl.length d.rc, .slice d.lo ts.length d.lc]) (t := 30) A M rfl rfl rfl pg (zg rfl rfl) (by decide) ?_)
 intro g2 w3 M a A
 refine sda A λa A↦?_
 refine qa (hK1 _ _ (wsk fun K4 hK4 => ?_))
 have hB1 := M.bel
 have hH1 := M.here 0 (cs := d.cells ts.length) rfl
 replace M : Mg w3 w3 [] := Mg.start w3
 refine wrl (vq (vs := [iV 0]) (t := 3) A M rfl rfl rfl pg (ql (z := iV 0) (by kernel_rfl) rfl) (by decide) ?_)
 intro g5 w6 M a A
 refine zh (L' := (.obj g5 (.cells #[iV 20000] 3) :: [])) A M rfl rfl (qy rfl rfl rfl (by kernel_rfl) M 0 rfl rfl rfl) 0 rfl rfl rfl ?_
 intro w7 M
 refine qa (hK4 _ _ (wsk fun K8 hK8 => wrl (sct A (ef rfl rfl) (qyg (Dt.mk d ts) (Dt.keep hB1 _ hrd) hH1 M (by omega) (by omega) (by omega) (by omega)) ?_)))
 rintro _ w10 ⟨rfl, hM9⟩
 replace M : Mg w3 w10 (.obj g5 (.cells #[iV ((jr 1 20000 (Dt.mk d ts).tr).2)] 3) :: []) := hM9
 refine ⟨_, rfl, ?_⟩
 intro a A
 refine sda A λa A↦?_
 refine qa (hK8 _ _ (wr1 hret A ?_))
 exact ⟨rfl, hB1.trans (M.bel.mono hB1.size)⟩
def frX (L : List UInt8) : Int × Nat × Tr :=
 match skp (2 * L.length + 1) L with
 | none => (5, 0, kb)
 | some a => if (L.drop a).isEmpty = true then (11, 0, kb) else
  match dat (2 * L.length + 1) (L.drop a) with
  | none => (5, 0, kb)
  | some r => if Lib.validD (L.take (a + r.2.1)) = true then (if r.2.2 = true then (4, 0, kb) else if (jr 1 20000 r.1).1 = true then (0, a + r.2.1, r.1) else (4, 0, kb)) else (5, 0, kb)
theorem zva {L : List UInt8} (h : skp (2 * L.length + 1) L = none) : frX L = (5, 0, kb) := by unfold frX; rw [h]
theorem zzc {L : List UInt8} {a : Nat} (h : skp (2 * L.length + 1) L = some a) (h2 : (L.drop a).isEmpty = true) : frX L = (11, 0, kb) := by unfold frX; rw [h]; exact if_pos h2
theorem jcj {L : List UInt8} {a : Nat} (h : skp (2 * L.length + 1) L = some a) (h2 : (L.drop a).isEmpty = false) (h3 : dat (2 * L.length + 1) (L.drop a) = none) : frX L = (5, 0, kb) := by
 unfold frX; rw [h]
 show ite _ _ _ = _
 rw [if_neg (by rw [h2]; decide), h3]
theorem jda {L : List UInt8} {a n : Nat} {t : Tr} {b : Bool} (h : skp (2 * L.length + 1) L = some a) (h2 : (L.drop a).isEmpty = false) (h3 : dat (2 * L.length + 1) (L.drop a) = some (t, n, b)) : frX L = if Lib.validD (L.take (a + n)) = true then (if b = true then (4, 0, kb) else if (jr 1 20000 t).1 = true then (0, a + n, t) else (4, 0, kb)) else (5, 0, kb) := by
 unfold frX; rw [h]
 show ite _ _ _ = _
 rw [if_neg (by rw [h2]; decide), h3]
theorem qeh {w : World} {g2 g3 g4 : Nat} : (invoke (.fn (.func 19) #[(pA g2 0), (pA g3 0), (pA g4 0)]) #[]).run Tryz.prog w = .ok (.enter 19 #[(pA g2 0), (pA g3 0), (pA g4 0)]) w := by simp [go_sem]
theorem zpd {w : World} {t : Dt} {b : Bool} (h : t.rd w) (hb : (jr 1 20000 t.tr).1 = b) : Calls Tryz.prog 15 #[.agg (t.d.cells t.ts.length).toArray] w fun e w' => e = .returned (bV b) ∧ Below w.heap.size w w' := by
 subst hb
 cases t
 exact zpc h
theorem zic : ∀ (d : Nat) (t : Array Value) (v : Value), (d ≠ 2 ∧ d ≠ 3 ∧ d ≠ 4) → results Tryz.f14 (t.setIfInBounds d v) = results Tryz.f14 t := fun d t v h => by
 unfold results
 rw [show Tryz.f14.results = #[.cell 2 30, .cell 3 3, .cell 4 31] from by kernel_rfl]
 simp [Array.getElem?_setIfInBounds, h.1, h.2.1, h.2.2]
theorem zid {w0 w : World} {L : List UInt8} {U Z : List Ck} (hN : Env w0) (hU : Cu U) (hZ : Ob Z) (hl : L.length ≤ 1000000000) (hM0 : Mg w0 w (U ++ Z)) : Calls Tryz.prog 14 #[.string (tx L)] w fun e w' => ∃ t F, e = .returned (.tuple #[.agg (t.d.cells t.ts.length).toArray, iV (((frX L).2.1 : Nat) : Int), iV (frX L).1]) ∧ (t.tr = (frX L).2.2 ∧ ((frX L).1 = 0 → 1 ≤ (frX L).2.1 ∧ (frX L).2.1 ≤ List.length L)) ∧ (Lv w0 (F ++ Z) t ∧ Ob F) ∧ Mg w0 w' (U ++ (F ++ Z)) := by
 have hT := hN.tb
 have hSk : SkC (2 * L.length + 1) := (qvj _).1
 have hDa : DaC (2 * L.length + 1) := (qvj _).2
 refine zpb zic (l := [(0, .string (tx L))]) Tryz.func14 rfl Tryz.ntmps14 rfl rfl ?_
 intro Q hret hpan hP a A
 have M : Mg w0 w ((U ++ Z)) := hM0
 refine wsk fun K1 hK1 => wrl (qqh (vs := zD) (t := 30) A M rfl rfl rfl pg (ql (z := .agg zD.toArray) (by kernel_rfl) rfl) (by decide) ?_)
 intro g2 w3 M a A
 refine qqh (vs := [iV 0]) (t := 3) A M rfl rfl rfl pg (ql (z := iV 0) (by kernel_rfl) rfl) (by decide) ?_
 intro g4 w5 M a A
 refine qqh (vs := [iV 0]) (t := 31) A M rfl rfl rfl pg (ql (z := iV 0) (by kernel_rfl) rfl) (by decide) ?_
 intro g6 w7 M a A
 refine qa (hK1 _ _ (wsk fun K8 hK8 => wrl (jh (v := .func (.func 19) #[] [pA g2 0, pA g4 0, pA g6 0].toArray) A rfl rfl rfl (qbf rfl) λa A↦?_)))
 refine zcf (d := { target := .fn (.func 19) #[(pA g2 0), (pA g4 0), (pA g6 0)], args := #[] }) A rfl rfl (fun ρ h => by simp [execOp, resolve, Deferred.ofValue, h (.tmp 6) _ rfl]) λa A↦?_
 have hX : ∀ (ch : List PanicEntry) (a : Act) (w1 : World) (m : Nat) (k : List (Nat × Value)), Sf [{ target := .fn (.func 19) #[(pA g2 0), (pA g4 0), (pA g6 0)], args := #[] }] a m k → (ch = flt ∧ m = 31 ∧ AllIn k [(2, (pA g2 0)), (3, (pA g4 0)), (4, (pA g6 0))] ∧ frX L = (5, 0, kb) ∧ ∃ v0 v1 v2 v3 v4 v5 v6 v7 v8 v9 v10 x3 x4 : Value, Mg w0 w1 (.obj g2 (.cells #[v0, v1, v2, v3, v4, v5, v6, v7, v8, v9, v10] 30) :: .obj g4 (.cells #[x3] 3) :: .obj g6 (.cells #[x4] 31) :: (U ++ Z))) → Q (.panic ch) a w1 := by
  rintro ch a w1 m k hA9 ⟨rfl, rfl, hin, hfr, v0, v1, v2, v3, v4, v5, v6, v7, v8, v9, v10, x3, x4, hM9⟩
  refine hpan _ _ _ (qwa (n := 31) (l := [(2, (pA g2 0)), (3, (pA g4 0)), (4, (pA g6 0))]) (hA9.keep _ hin) qeh (zib hM9) fun w2 h2 => ⟨_, ya (hA9.keep [(2, (pA g2 0)), (3, (pA g4 0)), (4, (pA g6 0))] hin) rfl (.cons (zp h2 xu rfl 0 rfl (cs := zD) rfl rfl) (.cons (xn h2 o93 rfl 1 rfl rfl) (.cons (xn h2 zkj rfl 2 rfl rfl) .nil))) rfl, ?_⟩)
  exact ⟨qdg, [], by rw [hfr]; rfl, ⟨by rw [hfr]; exact yq, fun k => absurd k (by rw [hfr]; decide)⟩, ⟨fun w _ => yt w, Ob.nil⟩, h2.sub (cn (cn (cn (.refl _))))⟩
 refine qa (hK8 _ _ (wsk fun K9 hK9 => wrl (jh A rfl rfl rfl (qn rfl) λa A↦?_)))
 refine jh (v := .agg #[.string ((tx L)), iV 0, bV false]) A rfl rfl rfl (qw rfl (fun w => by kernel_rfl)) λa A↦?_
 refine qqh (vs := [.string (⟨#[]⟩), iV 0, bV false]) (t := 50) A M rfl rfl rfl pg (ql (z := .agg #[.string (⟨#[]⟩), iV 0, bV false]) (by kernel_rfl) rfl) (by decide) ?_
 intro g10 w11 M a A
 refine xy (L' := (.obj g10 (.cells #[.string ((tx L)), iV 0, bV false] 50) :: .obj g6 (.cells #[iV 0] 31) :: .obj g4 (.cells #[iV 0] 3) :: .obj g2 zC :: (U ++ Z))) A M rfl rfl (qy rfl rfl rfl (by kernel_rfl) M 0 rfl rfl rfl) 0 rfl rfl rfl ?_
 intro w12 M
 refine qa (hK9 _ _ (wsk fun K13 hK13 => wrl ?_))
 replace M : Mg w0 w12 (.obj g6 (.cells #[iV 0] 31) :: .obj g10 (.cells #[.string ((tx L)), iV 0, bV false] 50) :: .obj g4 (.cells #[iV 0] 3) :: .obj g2 zC :: (U ++ Z)) := M.bring 1 rfl rfl
 replace M : Mg w0 w12 (.obj g4 (.cells #[iV 0] 3) :: .obj g6 (.cells #[iV 0] 31) :: .obj g10 (.cells #[.string ((tx L)), iV 0, bV false] 50) :: .obj g2 zC :: (U ++ Z)) := M.bring 2 rfl rfl
 replace M : Mg w0 w12 (.obj g2 zC :: .obj g4 (.cells #[iV 0] 3) :: .obj g6 (.cells #[iV 0] 31) :: .obj g10 (.cells #[.string ((tx L)), iV 0, bV false] 50) :: (U ++ Z)) := M.bring 3 rfl rfl
 replace M : Mg w0 w12 (.obj g10 (.cells #[.string ((tx L)), iV 0, bV false] 50) :: .obj g2 zC :: .obj g4 (.cells #[iV 0] 3) :: .obj g6 (.cells #[iV 0] 31) :: (U ++ Z)) := M.bring 3 rfl rfl
 refine qcf A rfl rfl rfl (ef rfl rfl) (hSk (p := 0) (U := (.obj g2 zC :: .obj g4 (.cells #[iV 0] 3) :: .obj g6 (.cells #[iV 0] 31) :: U)) (Z := Z) hN (Cu.cons rfl (Cu.cons rfl (Cu.cons rfl hU))) hZ (Nat.zero_le _) hl (by omega) M) ?_
 rintro _ w14 (⟨rfl, hp15⟩ | ⟨n1, rfl, ⟨hs1, hl1⟩, hM1⟩)
 ·
  exact .inl ⟨_, rfl, hX _ _ _ _ _ A (⟨rfl, rfl, ⟨rfl, rfl, rfl, trivial⟩, zva hp15.1, _, _, _, _, _, _, _, _, _, _, _, _, _, (hp15.2.elim fun q9 h9 => h9.elim fun l9 h9 => h9.sub (cn (cc (cc (cc (.refl _))))))⟩)⟩
 rw [Nat.zero_add] at hl1 hM1
 replace M : Mg w0 w14 (.obj g10 (rC L n1 false) :: .obj g2 zC :: .obj g4 (.cells #[iV 0] 3) :: .obj g6 (.cells #[iV 0] 31) :: (U ++ Z)) := hM1
 refine .inr ⟨_, rfl, ?_⟩
 intro a A
 refine qa (hK13 _ _ (wsk fun K16 hK16 => wsk fun K17 hK17 => wrl (ks A rfl rfl rfl (ef rfl rfl) (xh (p := n1) (L := L) (T := (.obj g2 zC :: .obj g4 (.cells #[iV 0] 3) :: .obj g6 (.cells #[iV 0] 31) :: (U ++ Z))) (by omega) M) ?_)))
 rintro _ w19 ⟨rfl, hM18⟩
 replace M : Mg w0 w19 (.obj g10 (rC L n1 false) :: .obj g2 zC :: .obj g4 (.cells #[iV 0] 3) :: .obj g6 (.cells #[iV 0] 31) :: (U ++ Z)) := hM18
 refine ⟨_, rfl, ?_⟩
 intro a A
 rcases tf ((L.drop n1).isEmpty) with hb20 | hb20
 ·
  refine jh (v := bV true) A rfl rfl rfl (qb rfl rfl (fun w => (qtd (a := L.drop n1) Tryz.underlying9 w).trans (by rw [hb20] <;> rfl))) λa A↦?_
  refine qa (hK17 _ _ (wp_cond_true (A.ev rfl) ?_))
  refine wsk fun K21 hK21 => wrl (jh (v := .agg zD.toArray) A rfl rfl rfl (qw rfl (fun w => by kernel_rfl)) λa A↦?_)
  refine xy (L' := (.obj g10 (rC L n1 false) :: .obj g2 zC :: .obj g4 (.cells #[iV 0] 3) :: .obj g6 (.cells #[iV 0] 31) :: (U ++ Z))) A M rfl rfl (qy rfl rfl rfl (by kernel_rfl) M 1 rfl rfl rfl) 1 rfl rfl rfl ?_
  intro w22 M
  refine xy (L' := (.obj g10 (rC L n1 false) :: .obj g2 zC :: .obj g4 (.cells #[iV 0] 3) :: .obj g6 (.cells #[iV 0] 31) :: (U ++ Z))) A M rfl rfl (qy rfl rfl rfl (by kernel_rfl) M 2 rfl rfl rfl) 2 rfl rfl rfl ?_
  intro w23 M
  refine xy (L' := (.obj g10 (rC L n1 false) :: .obj g2 zC :: .obj g4 (.cells #[iV 0] 3) :: .obj g6 (.cells #[iV 11] 31) :: (U ++ Z))) A M rfl rfl (qy rfl rfl rfl (by kernel_rfl) M 3 rfl rfl rfl) 3 rfl rfl rfl ?_
  intro w24 M
  refine qa (hK21 _ _ (wp_ret (hret _ _ (qeg A qeh um (ya A rfl (.cons (zp M xu rfl 1 rfl (cs := zD) rfl rfl) (.cons (xn M o93 rfl 2 rfl rfl) (.cons (xn M zkj rfl 3 rfl rfl) .nil))) rfl) ?_))))
  have hfr := zzc hs1 hb20
  exact ⟨qdg, [], by rw [hfr]; rfl, ⟨by rw [hfr]; exact yq, fun k => absurd k (by rw [hfr]; decide)⟩, ⟨fun w _ => yt w, Ob.nil⟩, M.sub (cn (cn (cn (cn (.refl _)))))⟩
 ·
  refine jh (v := bV false) A rfl rfl rfl (qb rfl rfl (fun w => (qtd (a := L.drop n1) Tryz.underlying9 w).trans (by rw [hb20] <;> rfl))) λa A↦?_
  refine qa (hK17 _ _ (wp_cond_false (A.ev rfl) ?_))
  refine wp_skip (hK16 _ _ (wsk fun K25 hK25 => wrl ?_))
  replace M : Mg w0 w19 (.obj g6 (.cells #[iV 0] 31) :: .obj g10 (rC L n1 false) :: .obj g2 zC :: .obj g4 (.cells #[iV 0] 3) :: (U ++ Z)) := M.bring 3 rfl rfl
  replace M : Mg w0 w19 (.obj g4 (.cells #[iV 0] 3) :: .obj g6 (.cells #[iV 0] 31) :: .obj g10 (rC L n1 false) :: .obj g2 zC :: (U ++ Z)) := M.bring 3 rfl rfl
  replace M : Mg w0 w19 (.obj g2 zC :: .obj g4 (.cells #[iV 0] 3) :: .obj g6 (.cells #[iV 0] 31) :: .obj g10 (rC L n1 false) :: (U ++ Z)) := M.bring 3 rfl rfl
  replace M : Mg w0 w19 (.obj g10 (rC L n1 false) :: .obj g2 zC :: .obj g4 (.cells #[iV 0] 3) :: .obj g6 (.cells #[iV 0] 31) :: (U ++ Z)) := M.bring 3 rfl rfl
  refine qcf A rfl rfl rfl (ef rfl rfl) (hDa (p := n1) (U := (.obj g2 zC :: .obj g4 (.cells #[iV 0] 3) :: .obj g6 (.cells #[iV 0] 31) :: U)) (Z := Z) hN (Cu.cons rfl (Cu.cons rfl (Cu.cons rfl hU))) hZ (by omega) hl (by omega) M) ?_
  rintro _ w26 (⟨rfl, hp27⟩ | ⟨t1, F1, n2, b2, rfl, ⟨hd1, hl2, hn1⟩, ⟨hL1, hO1⟩, hM2⟩)
  ·
   exact .inl ⟨_, rfl, hX _ _ _ _ _ A (⟨rfl, rfl, ⟨rfl, rfl, rfl, trivial⟩, jcj hs1 hb20 hp27.1, _, _, _, _, _, _, _, _, _, _, _, _, _, (hp27.2.elim fun q9 h9 => h9.elim fun l9 h9 => h9.sub (cn (cc (cc (cc (.refl _))))))⟩)⟩
  have hgo := jda hs1 hb20 hd1
  replace M : Mg w0 w26 (.obj g10 (rC L (n1 + n2) ((false || b2))) :: .obj g2 zC :: .obj g4 (.cells #[iV 0] 3) :: .obj g6 (.cells #[iV 0] 31) :: (U ++ (F1 ++ Z))) := hM2
  refine .inr ⟨_, rfl, ?_⟩
  intro a A
  refine xy (L' := (.obj g10 (rC L (n1 + n2) ((false || b2))) :: .obj g2 (.cells (t1.d.cells t1.ts.length).toArray 30) :: .obj g4 (.cells #[iV 0] 3) :: .obj g6 (.cells #[iV 0] 31) :: (U ++ (F1 ++ Z)))) A M rfl rfl (qy rfl rfl rfl (by kernel_rfl) M 1 rfl rfl rfl) 1 rfl rfl rfl ?_
  intro w28 M
  refine qa (hK25 _ _ (wsk fun K29 hK29 => wrl (jh A rfl rfl rfl (qn rfl) λa A↦?_)))
  refine jh (v := pA g10 1) A rfl rfl rfl (qe yi rfl rfl) λa A↦?_
  refine jh A rfl rfl rfl (zj M o93 rfl 0 rfl rfl) λa A↦?_
  refine jh (v := .string ((tx (L.take (n1 + n2))))) A rfl rfl rfl (qca (s := L) (p := n1 + n2) Tryz.underlying9 rfl rfl rfl (by omega)) λa A↦?_
  rcases tf (Lib.validD (L.take (n1 + n2))) with hb31 | hb31
  ·
   refine ks A rfl rfl rfl (ef rfl rfl) (qic (l := L.take (n1 + n2)) (by rw [List.length_take]; omega) (hT.below M.bel) hb31) ?_
   rintro _ w33 ⟨rfl, hb32⟩
   replace M := M.call hb32
   refine ⟨_, rfl, ?_⟩
   intro a A
   refine ks A rfl rfl rfl (ef rfl rfl) (vl) ?_
   rintro _ w35 ⟨rfl, hb34⟩
   replace M := M.call hb34
   refine ⟨_, rfl, ?_⟩
   intro a A
   refine qa (hK29 _ _ (wsk fun K36 hK36 => wsk fun K37 hK37 => wrl (jh (v := pA g10 2) A rfl rfl rfl (qe qog rfl rfl) λa A↦?_)))
   rcases tf ((false || b2)) with hb38 | hb38
   ·
    rw [hb38] at M
    refine jh (v := bV true) A rfl rfl rfl (zj M o94 rfl 0 rfl rfl) λa A↦?_
    refine jh A rfl rfl rfl (qn rfl) λa A↦?_
    iterate 3 refine zhj A rfl rfl rfl λa A↦?_
    refine jh (v := bV true) A rfl rfl rfl (zs rfl rfl rfl rfl) λa A↦?_
    refine qa (hK37 _ _ (wp_cond_true (A.ev rfl) ?_))
    refine wsk fun K39 hK39 => wrl (jh (v := .agg zD.toArray) A rfl rfl rfl (qw rfl (fun w => by kernel_rfl)) λa A↦?_)
    refine xy (L' := (.obj g10 (rC L (n1 + n2) true) :: .obj g2 zC :: .obj g4 (.cells #[iV 0] 3) :: .obj g6 (.cells #[iV 0] 31) :: (U ++ (F1 ++ Z)))) A M rfl rfl (qy rfl rfl rfl (by kernel_rfl) M 1 rfl rfl rfl) 1 rfl rfl rfl ?_
    intro w40 M
    refine xy (L' := (.obj g10 (rC L (n1 + n2) true) :: .obj g2 zC :: .obj g4 (.cells #[iV 0] 3) :: .obj g6 (.cells #[iV 0] 31) :: (U ++ (F1 ++ Z)))) A M rfl rfl (qy rfl rfl rfl (by kernel_rfl) M 2 rfl rfl rfl) 2 rfl rfl rfl ?_
    intro w41 M
    refine xy (L' := (.obj g10 (rC L (n1 + n2) true) :: .obj g2 zC :: .obj g4 (.cells #[iV 0] 3) :: .obj g6 (.cells #[iV 4] 31) :: (U ++ (F1 ++ Z)))) A M rfl rfl (qy rfl rfl rfl (by kernel_rfl) M 3 rfl rfl rfl) 3 rfl rfl rfl ?_
    intro w42 M
    refine qa (hK39 _ _ (wp_ret (hret _ _ (qeg A qeh um (ya A rfl (.cons (zp M xu rfl 1 rfl (cs := zD) rfl rfl) (.cons (xn M o93 rfl 2 rfl rfl) (.cons (xn M zkj rfl 3 rfl rfl) .nil))) rfl) ?_))))
    rw [if_pos hb31, if_pos (show b2 = true from hb38)] at hgo
    exact ⟨qdg, F1, by rw [hgo]; rfl, ⟨by rw [hgo]; exact yq, fun k => absurd k (by rw [hgo]; decide)⟩, ⟨fun w _ => yt w, hO1⟩, M.sub (cn (cn (cn (cn (.refl _)))))⟩
   ·
    rw [hb38] at M
    refine jh (v := bV false) A rfl rfl rfl (zj M o94 rfl 0 rfl rfl) λa A↦?_
    refine jh A rfl rfl rfl (qn rfl) λa A↦?_
    refine jh A rfl rfl rfl (vb M xu rfl 1 rfl (cs := [iV t1.d.k, iV t1.d.n, bV t1.d.y.q.b1, .slice t1.d.y.o1 t1.d.y.q.t1.length t1.d.y.c1, .slice t1.d.y.o2 t1.d.y.q.q1.length t1.d.y.c2, bV t1.d.y.q.b2, .slice t1.d.y.o3 t1.d.y.q.t2.length t1.d.y.c3, .slice t1.d.y.o4 t1.d.y.q.q2.length t1.d.y.c4, .string t1.d.s, .slice t1.d.ro t1.d.rl.length t1.d.rc, .slice t1.d.lo t1.ts.length t1.d.lc]) rfl rfl) λa A↦?_
    rcases tf ((jr 1 20000 t1.tr).1) with hb44 | hb44
    ·
     refine ks A rfl rfl rfl (ef rfl rfl) (zpd (hL1 _ (M.sub (cn (cn (cn (cn (List.sublist_append_right _ _))))))) hb44) ?_
     rintro _ w46 ⟨rfl, hb45⟩
     replace M := M.call hb45
     refine ⟨_, rfl, ?_⟩
     intro a A
     refine jh (v := bV false) A rfl rfl rfl (za rfl zk) λa A↦?_
     refine jh (v := bV false) A rfl rfl rfl (zs rfl rfl rfl rfl) λa A↦?_
     refine qa (hK37 _ _ (wp_cond_false (A.ev rfl) ?_))
     refine wp_skip (hK36 _ _ (wsk fun K47 hK47 => jg (S := fun w1 => Mg w0 w1 (.obj g10 (rC L (n1 + n2) false) :: .obj g2 (.cells (t1.d.cells t1.ts.length).toArray 30) :: [])) (by kernel_rfl) ?_))
     replace M := M.drew
     refine qqi A 0 rfl rfl rfl rfl hP (M.sub (cc (cc (cn (cn ns))))) (λ_ M↦vb M xu rfl 1 rfl (cs := [iV t1.d.k, iV t1.d.n, bV t1.d.y.q.b1, .slice t1.d.y.o1 t1.d.y.q.t1.length t1.d.y.c1, .slice t1.d.y.o2 t1.d.y.q.q1.length t1.d.y.c2, bV t1.d.y.q.b2, .slice t1.d.y.o3 t1.d.y.q.t2.length t1.d.y.c3, .slice t1.d.y.o4 t1.d.y.q.q2.length t1.d.y.c4, .string t1.d.s, .slice t1.d.ro t1.d.rl.length t1.d.rc, .slice t1.d.lo t1.ts.length t1.d.lc]) rfl rfl) ?_ (by decide)
     intro a A
     refine qqi (v := pA g10 1) A 1 rfl rfl rfl rfl hP (M.sub (cc (cc (cn (cn ns))))) (λ_ M↦qe yi rfl rfl) ?_ (by decide)
     intro a A
     refine qqi A 2 rfl rfl rfl rfl hP (M.sub (cc (cc (cn (cn ns))))) (λ_ M↦zj M o93 rfl 0 rfl rfl) ?_ (by decide)
     intro a A
     refine zi (by kernel_rfl) (qlb (L' := (.obj g10 (rC L (n1 + n2) false) :: .obj g2 (.cells (t1.d.cells t1.ts.length).toArray 30) :: .obj g4 (.cells #[iV 0] 3) :: .obj g6 (.cells #[iV 0] 31) :: (U ++ (F1 ++ Z)))) A M 3 rfl rfl rfl (qy rfl rfl rfl (by kernel_rfl) M 1 rfl rfl rfl) 1 rfl rfl rfl ?_)
     intro w48 M
     refine ⟨(M.sub (cc (cc (cn (cn ns))))), ?_⟩
     refine zi (by kernel_rfl) (qlb (L' := (.obj g10 (rC L (n1 + n2) false) :: .obj g2 (.cells (t1.d.cells t1.ts.length).toArray 30) :: .obj g4 (.cells #[iV (((n1 + n2 : Nat) : Int))] 3) :: .obj g6 (.cells #[iV 0] 31) :: (U ++ (F1 ++ Z)))) A M 4 rfl rfl rfl (qy rfl rfl rfl (by kernel_rfl) M 2 rfl rfl rfl) 2 rfl rfl rfl ?_)
     intro w49 M
     refine ⟨(M.sub (cc (cc (cn (cn ns))))), ?_⟩
     refine zi (by kernel_rfl) (qlb (L' := (.obj g10 (rC L (n1 + n2) false) :: .obj g2 (.cells (t1.d.cells t1.ts.length).toArray 30) :: .obj g4 (.cells #[iV (((n1 + n2 : Nat) : Int))] 3) :: .obj g6 (.cells #[iV 0] 31) :: (U ++ (F1 ++ Z)))) A M 5 rfl rfl rfl (qy rfl rfl rfl (by kernel_rfl) M 3 rfl rfl rfl) 3 rfl rfl rfl ?_)
     intro w50 M
     refine ⟨(M.sub (cc (cc (cn (cn ns))))), ?_⟩
     refine zq (by kernel_rfl) ?_
     refine hK47 _ _ (wp_ret (hret _ _ (qeg A qeh um (ya A rfl (.cons (zp M xu rfl 1 rfl (cs := [iV t1.d.k, iV t1.d.n, bV t1.d.y.q.b1, .slice t1.d.y.o1 t1.d.y.q.t1.length t1.d.y.c1, .slice t1.d.y.o2 t1.d.y.q.q1.length t1.d.y.c2, bV t1.d.y.q.b2, .slice t1.d.y.o3 t1.d.y.q.t2.length t1.d.y.c3, .slice t1.d.y.o4 t1.d.y.q.q2.length t1.d.y.c4, .string t1.d.s, .slice t1.d.ro t1.d.rl.length t1.d.rc, .slice t1.d.lo t1.ts.length t1.d.lc]) rfl rfl) (.cons (xn M o93 rfl 2 rfl rfl) (.cons (xn M zkj rfl 3 rfl rfl) .nil))) rfl) ?_)))
     rw [if_pos hb31, if_neg (by rw [show b2 = false from hb38]; decide), if_pos hb44] at hgo
     exact ⟨t1, F1, by rw [hgo]; rfl, ⟨by rw [hgo], fun _ => by rw [hgo]; show 1 ≤ n1 + n2 ∧ n1 + n2 ≤ L.length; omega⟩, ⟨hL1, hO1⟩, M.sub (cn (cn (cn (cn (.refl _)))))⟩
    ·
     refine ks A rfl rfl rfl (ef rfl rfl) (zpd (hL1 _ (M.sub (cn (cn (cn (cn (List.sublist_append_right _ _))))))) hb44) ?_
     rintro _ w52 ⟨rfl, hb51⟩
     replace M := M.call hb51
     refine ⟨_, rfl, ?_⟩
     intro a A
     refine jh (v := bV true) A rfl rfl rfl (za rfl zk) λa A↦?_
     refine jh (v := bV true) A rfl rfl rfl (zs rfl rfl rfl rfl) λa A↦?_
     refine qa (hK37 _ _ (wp_cond_true (A.ev rfl) ?_))
     refine wsk fun K53 hK53 => wrl (jh (v := .agg zD.toArray) A rfl rfl rfl (qw rfl (fun w => by kernel_rfl)) λa A↦?_)
     refine xy (L' := (.obj g10 (rC L (n1 + n2) false) :: .obj g2 zC :: .obj g4 (.cells #[iV 0] 3) :: .obj g6 (.cells #[iV 0] 31) :: (U ++ (F1 ++ Z)))) A M rfl rfl (qy rfl rfl rfl (by kernel_rfl) M 1 rfl rfl rfl) 1 rfl rfl rfl ?_
     intro w54 M
     refine xy (L' := (.obj g10 (rC L (n1 + n2) false) :: .obj g2 zC :: .obj g4 (.cells #[iV 0] 3) :: .obj g6 (.cells #[iV 0] 31) :: (U ++ (F1 ++ Z)))) A M rfl rfl (qy rfl rfl rfl (by kernel_rfl) M 2 rfl rfl rfl) 2 rfl rfl rfl ?_
     intro w55 M
     refine xy (L' := (.obj g10 (rC L (n1 + n2) false) :: .obj g2 zC :: .obj g4 (.cells #[iV 0] 3) :: .obj g6 (.cells #[iV 4] 31) :: (U ++ (F1 ++ Z)))) A M rfl rfl (qy rfl rfl rfl (by kernel_rfl) M 3 rfl rfl rfl) 3 rfl rfl rfl ?_
     intro w56 M
     refine qa (hK53 _ _ (wp_ret (hret _ _ (qeg A qeh um (ya A rfl (.cons (zp M xu rfl 1 rfl (cs := zD) rfl rfl) (.cons (xn M o93 rfl 2 rfl rfl) (.cons (xn M zkj rfl 3 rfl rfl) .nil))) rfl) ?_))))
     rw [if_pos hb31, if_neg (by rw [show b2 = false from hb38]; decide), if_neg (by rw [hb44]; decide)] at hgo
     exact ⟨qdg, F1, by rw [hgo]; rfl, ⟨by rw [hgo]; exact yq, fun k => absurd k (by rw [hgo]; decide)⟩, ⟨fun w _ => yt w, hO1⟩, M.sub (cn (cn (cn (cn (.refl _)))))⟩
  ·
   refine ks A rfl rfl rfl (ef rfl rfl) (qic (l := L.take (n1 + n2)) (by rw [List.length_take]; omega) (hT.below M.bel) hb31) ?_
   rintro _ w58 ⟨rfl, hb57⟩
   replace M := M.call hb57
   refine ⟨_, rfl, ?_⟩
   intro a A
   replace M : Mg w0 w58 (.obj g6 (.cells #[iV 0] 31) :: .obj g10 (rC L (n1 + n2) ((false || b2))) :: .obj g2 (.cells (t1.d.cells t1.ts.length).toArray 30) :: .obj g4 (.cells #[iV 0] 3) :: (U ++ (F1 ++ Z))) := M.bring 3 rfl rfl
   replace M : Mg w0 w58 (.obj g4 (.cells #[iV 0] 3) :: .obj g6 (.cells #[iV 0] 31) :: .obj g10 (rC L (n1 + n2) ((false || b2))) :: .obj g2 (.cells (t1.d.cells t1.ts.length).toArray 30) :: (U ++ (F1 ++ Z))) := M.bring 3 rfl rfl
   replace M : Mg w0 w58 (.obj g2 (.cells (t1.d.cells t1.ts.length).toArray 30) :: .obj g4 (.cells #[iV 0] 3) :: .obj g6 (.cells #[iV 0] 31) :: .obj g10 (rC L (n1 + n2) ((false || b2))) :: (U ++ (F1 ++ Z))) := M.bring 3 rfl rfl
   replace M : Mg w0 w58 (.obj g10 (rC L (n1 + n2) ((false || b2))) :: .obj g2 (.cells (t1.d.cells t1.ts.length).toArray 30) :: .obj g4 (.cells #[iV 0] 3) :: .obj g6 (.cells #[iV 0] 31) :: (U ++ (F1 ++ Z))) := M.bring 3 rfl rfl
   refine qcf A rfl rfl rfl (ef rfl rfl) (xp) ?_
   rintro _ w60 ⟨rfl, hp61⟩
   exact .inl ⟨_, rfl, hX _ _ _ _ _ A (⟨rfl, rfl, ⟨rfl, rfl, rfl, trivial⟩, by rw [hgo, if_neg (by rw [hb31]; decide)], _, _, _, _, _, _, _, _, _, _, _, _, _, ((M.call hp61).sub (.cons _ (.cons_cons _ (.cons_cons _ (.cons_cons _ zof)))))⟩)⟩
def rdX (L : List UInt8) : Int × Nat × Tr := if 65536 < L.length then (18, 0, kb) else frX L
theorem zfc {L : List UInt8} (h : 65536 < L.length) : rdX L = (18, 0, kb) := if_pos h
theorem zpe {L : List UInt8} (h : (rdX L).1 = 0) : L.length ≤ 65536 := by
 by_cases k : 65536 < L.length
 ·
  rw [zfc k] at h; cases h
 ·
  omega
theorem jdb {L : List UInt8} (h : ¬ 65536 < L.length) : rdX L = frX L := if_neg h
theorem read_any {w0 w : World} {L : List UInt8} {U Z : List Ck} (hN : Env w0) (hU : Cu U) (hZ : Ob Z) (hl : L.length ≤ 9223372036854775807) (hM0 : Mg w0 w (U ++ Z)) : Calls Tryz.prog 7 #[.string (tx L)] w fun e w' => ∃ t F, e = .returned (.tuple #[.agg (t.d.cells t.ts.length).toArray, iV (((rdX L).2.1 : Nat) : Int), iV (rdX L).1]) ∧ (t.tr = (rdX L).2.2 ∧ ((rdX L).1 = 0 → 1 ≤ (rdX L).2.1 ∧ (rdX L).2.1 ≤ List.length L)) ∧ (Lv w0 (F ++ Z) t ∧ Ob F) ∧ Mg w0 w' (U ++ (F ++ Z)) := by
 have M : Mg w0 w ((U ++ Z)) := hM0
 refine qs (l := [(0, .string ((tx L)))]) Tryz.func7 rfl Tryz.ntmps7 rfl rfl ?_
 intro Q hret hnorm hP a A
 refine wsk fun K1 hK1 => wrl (vq (vs := zD) (t := 30) A M rfl rfl rfl pg (ql (z := .agg zD.toArray) (by kernel_rfl) rfl) (by decide) ?_)
 intro g2 w3 M a A
 iterate 2 refine sda A λa A↦?_
 refine qa (hK1 _ _ (wsk fun K4 hK4 => wsk fun K5 hK5 => wrl (sdm A λa A↦?_)))
 refine sdo (v := iV (((L.length : Nat) : Int))) A (jy (s := L) Tryz.underlying9 rfl) λa A↦?_
 rcases tf (decide (65536 < ((L.length : Nat) : Int))) with hb6 | hb6
 ·
  have hb6' := of_decide_eq_true hb6
  refine sdc A zv hb6 λa A↦?_
  refine qa (hK5 _ _ (ct A ?_))
  refine wsk fun K7 hK7 => wrl (sdo (v := .agg zD.toArray) A (qw rfl (fun w => by kernel_rfl)) λa A↦?_)
  refine zh (L' := (.obj g2 zC :: (U ++ Z))) A M rfl rfl (qy rfl rfl rfl (by kernel_rfl) M 0 rfl rfl rfl) 0 rfl rfl rfl ?_
  intro w8 M
  iterate 2 refine sda A λa A↦?_
  refine qa (hK7 _ _ (wp_ret (hret _ _ (en3 A rfl (zp M xu rfl 0 rfl (cs := zD) rfl rfl) (qf rfl) (qf rfl) ?_))))
  have he := zfc (L := L) (by omega)
  exact ⟨qdg, [], by rw [he]; rfl, ⟨by rw [he]; exact yq, fun k => absurd k (by rw [he]; decide)⟩, ⟨fun w _ => yt w, Ob.nil⟩, M.sub (cn (.refl _))⟩
 ·
  have hb6' := of_decide_eq_false hb6
  refine sdc A zv hb6 λa A↦?_
  refine qa (hK5 _ _ (cf A ?_))
  refine wp_skip (hK4 _ _ (wsk fun K9 hK9 => wrl (sdm A λa A↦?_)))
  refine sct A (ef rfl rfl) (zid (U := (.obj g2 zC :: U)) (Z := Z) hN (Cu.cons rfl hU) hZ (by omega) M) ?_
  rintro _ w10 ⟨t1, F1, rfl, ⟨htr1, hle1⟩, ⟨hL1, hO1⟩, hM1⟩
  replace M : Mg w0 w10 (.obj g2 zC :: (U ++ (F1 ++ Z))) := hM1
  refine ⟨_, rfl, ?_⟩
  intro a A
  iterate 3 refine sdo A (qh (vs := [.agg (t1.d.cells t1.ts.length).toArray, iV ((((frX L).2.1 : Nat) : Int)), iV ((frX L).1)]) rfl rfl) λa A↦?_
  refine zh (L' := (.obj g2 (.cells (t1.d.cells t1.ts.length).toArray 30) :: (U ++ (F1 ++ Z)))) A M rfl rfl (qy rfl rfl rfl (by kernel_rfl) M 0 rfl rfl rfl) 0 rfl rfl rfl ?_
  intro w11 M
  iterate 2 refine sda A λa A↦?_
  refine qa (hK9 _ _ (wp_ret (hret _ _ (en3 A rfl (zp M xu rfl 0 rfl (cs := [iV t1.d.k, iV t1.d.n, bV t1.d.y.q.b1, .slice t1.d.y.o1 t1.d.y.q.t1.length t1.d.y.c1, .slice t1.d.y.o2 t1.d.y.q.q1.length t1.d.y.c2, bV t1.d.y.q.b2, .slice t1.d.y.o3 t1.d.y.q.t2.length t1.d.y.c3, .slice t1.d.y.o4 t1.d.y.q.q2.length t1.d.y.c4, .string t1.d.s, .slice t1.d.ro t1.d.rl.length t1.d.rc, .slice t1.d.lo t1.ts.length t1.d.lc]) rfl rfl) (qf rfl) (qf rfl) ?_))))
  have he := jdb (L := L) (by omega)
  exact ⟨t1, F1, by rw [he] <;> rfl, ⟨by rw [he]; exact htr1, by rw [he]; exact hle1⟩, ⟨hL1, hO1⟩, M.sub (cn (.refl _))⟩
def alX : Nat → List UInt8 → Nat → List Tr → List Tr × Nat × Int
 | 0, _, _, _ => ([], 0, 1)
 | f + 1, L, q, acc => if (rdX (L.drop q)).1 = 0 then alX f L (q + (rdX (L.drop q)).2.1) (acc ++ [(rdX (L.drop q)).2.2]) else if (rdX (L.drop q)).1 = 11 then (acc, 0, 0) else ([], q, (rdX (L.drop q)).1)
theorem zwb {f q n : Nat} {L : List UInt8} {acc : List Tr} {t : Tr} (h : rdX (L.drop q) = (0, n, t)) : alX (f + 1) L q acc = alX f L (q + n) (acc ++ [t]) := by rw [alX, h]; exact if_pos rfl
theorem zpf {f q n : Nat} {L : List UInt8} {acc : List Tr} {t : Tr} (h : rdX (L.drop q) = (11, n, t)) : alX (f + 1) L q acc = (acc, 0, 0) := by rw [alX, h]; rfl
theorem zpg {L : List UInt8} : ∀ (f q : Nat) (acc ls : List Tr) (n : Nat), alX f L q acc = (ls, n, 0) → acc <+: ls
 | 0, q, acc, ls, n, h => by rw [alX] at h; cases h
 | f + 1, q, acc, ls, n, h => by
  rw [alX] at h
  by_cases h0 : (rdX (L.drop q)).1 = 0
  ·
   rw [if_pos h0] at h
   exact (List.prefix_append acc _).trans (zpg f _ _ _ _ h)
  ·
   rw [if_neg h0] at h
   by_cases h1 : (rdX (L.drop q)).1 = 11
   ·
    rw [if_pos h1] at h
    cases h
    exact List.prefix_rfl
   ·
    rw [if_neg h1] at h
    exact absurd (congrArg (fun x => x.2.2) h) h0
theorem zph {f q n : Nat} {L : List UInt8} {acc : List Tr} {t : Tr} {e : Int} (h : rdX (L.drop q) = (e, n, t)) (h0 : e ≠ 0) (h1 : e ≠ 11) : alX (f + 1) L q acc = ([], q, e) := by rw [alX, h]; show ite _ _ _ = _; rw [if_neg h0]; exact if_neg h1
theorem zvb {w0 w : World} {L : List UInt8} {U Z : List Ck} (hN : Env w0) (hUb : Cu U) (hZ : Ob Z) (hl : L.length ≤ 9223372036854775807) (hM0 : Mg w0 w (U ++ Z)) : Calls Tryz.prog 11 #[.string (tx L)] w fun e w' => ∃ so ca ts U1 F n er, e = .returned (.tuple #[.slice so (List.length ts) ca, iV ((n : Nat) : Int), iV er]) ∧ (alX (L.length + 1) L 0 [] = (List.map Dt.tr ts, n, er) ∧ ts.length ≤ L.length) ∧ (IR 30 so ca ts U1 ∧ (∀ t ∈ ts, Lv w0 (F ++ Z) t) ∧ Ob F) ∧ Mg w0 w' ((U1 ++ U) ++ (F ++ Z)) := by
 have M : Mg w0 w ((U ++ Z)) := hM0
 refine qs (l := [(0, .string ((tx L)))]) Tryz.func11 rfl Tryz.ntmps11 rfl rfl ?_
 intro Q hret hnorm hP a A
 refine wsk fun K1 hK1 => wrl ?_
 iterate 3 refine sda A λa A↦?_
 refine qa (hK1 _ _ (wp_block (zy (fun m_ a w1 => ∃ (q : Nat) (f : Nat) (so : Option Addr) (ca : Nat) (ts : List Dt) (U1 : List Ck) (F : List Ck), m_ = 1 + (L.length - q) ∧ (q ≤ L.length ∧ L.length - q < f ∧ ts.length ≤ q ∧ (q = 0 ∨ L.length ≤ 65536) ∧ IR 30 so ca ts U1 ∧ (∀ t ∈ ts, Lv w0 (F ++ Z) t) ∧ Ob F ∧ alX (L.length + 1) L 0 [] = alX f L q (ts.map Dt.tr)) ∧ Sl a 31 [(0, .string ((tx L))), (2, .slice so ts.length ca), (3, iV (((q : Nat) : Int))), (4, iV 0)] ∧ Mg w0 w1 (((U1 ++ U) ++ (F ++ Z)))) _ ⟨0, L.length + 1, none, 0, [], [], [], rfl, ⟨Nat.zero_le _, by omega, Nat.le_refl _, .inl rfl, IR.start _, (fun t h => by cases h), Ob.nil, rfl⟩, A.keep _ ⟨rfl, rfl, rfl, rfl, trivial⟩, M⟩ ?_)))
 clear M A
 rintro m_ a w2 ⟨q, f, so, ca, ts, U1, F, rfl, hinv4, A, M⟩ K3 hK3
 obtain ⟨hq0, hf0, hsl, hqs, hI, hts, hF, hi⟩ := hinv4
 obtain ⟨f, rfl⟩ : ∃ f1, f = f1 + 1 := ⟨f - 1, by omega⟩
 refine wp_block (wsk fun K5 hK5 => wrl ?_)
 iterate 2 refine sdm A λa A↦?_
 refine sdo (v := .string ((tx (L.drop q)))) A (xg (s := L) (p := q) Tryz.underlying9 rfl rfl rfl (by omega)) λa A↦?_
 obtain ⟨e1, n1, T1, hr1⟩ : ∃ e n t, rdX (L.drop q) = (e, n, t) := ⟨_, _, _, rfl⟩
 refine sct A (ef rfl rfl) ((by have h := read_any (L := L.drop q) (U := ((U1 ++ U))) (Z := (F ++ Z)) hN (Cu.app hI.cu hUb) (Ob.app hF hZ) (by rw [List.length_drop]; omega) M; rw [hr1] at h; exact h)) ?_
 rintro _ w6 ⟨t1, F1, rfl, ⟨htr1, hle1⟩, ⟨hL1, hO1⟩, hM1⟩
 replace htr1 : t1.tr = T1 := htr1
 replace hle1 : e1 = 0 → 1 ≤ n1 ∧ n1 ≤ L.length - q := fun k => by have h := hle1 k; rw [List.length_drop] at h; exact h
 have hsm : e1 = 0 → L.length - q ≤ 65536 := fun k => by have h := zpe (L := L.drop q) (by rw [hr1]; exact k); rw [List.length_drop] at h; exact h
 replace M : Mg w0 w6 (((U1 ++ U) ++ (F1 ++ (F ++ Z)))) := hM1
 refine ⟨_, rfl, ?_⟩
 intro a A
 refine sdm A λa A↦?_
 iterate 3 refine sdo A (qh (vs := [.agg (t1.d.cells t1.ts.length).toArray, iV (((n1 : Nat) : Int)), iV e1]) rfl rfl) λa A↦?_
 refine vq (vs := zD) (t := 30) A M rfl rfl rfl pg (ql (z := .agg zD.toArray) (by kernel_rfl) rfl) (by decide) ?_
 intro g7 w8 M a A
 refine zh (L' := (.obj g7 (.cells (t1.d.cells t1.ts.length).toArray 30) :: ((U1 ++ U) ++ (F1 ++ (F ++ Z))))) A M rfl rfl (qy rfl rfl rfl (by kernel_rfl) M 0 rfl rfl rfl) 0 rfl rfl rfl ?_
 intro w9 M
 iterate 2 refine sda A λa A↦?_
 refine qa (hK5 _ _ (wsk fun K10 hK10 => wrl (sdm A λa A↦?_)))
 refine qa (hK10 _ _ (wp_block (wsk fun K11 hK11 => wrl ?_)))
 rcases tf ((e1 == 0)) with hb12 | hb12
 ·
  have hb12' := eq_of_beq hb12
  refine sdc A qj hb12 λa A↦?_
  refine sda A λa A↦?_
  refine qa (hK11 _ _ (ct A ?_))
  refine wsk fun K13 hK13 => wrl (sdm A λa A↦?_)
  refine sdo A (vb M xu rfl 0 rfl (cs := [iV t1.d.k, iV t1.d.n, bV t1.d.y.q.b1, .slice t1.d.y.o1 t1.d.y.q.t1.length t1.d.y.c1, .slice t1.d.y.o2 t1.d.y.q.q1.length t1.d.y.c2, bV t1.d.y.q.b2, .slice t1.d.y.o3 t1.d.y.q.t2.length t1.d.y.c3, .slice t1.d.y.o4 t1.d.y.q.q2.length t1.d.y.c4, .string t1.d.s, .slice t1.d.ro t1.d.rl.length t1.d.rc, .slice t1.d.lo t1.ts.length t1.d.lc]) rfl rfl) λa A↦?_
  refine qod (e := 30) (sz := 11) (m := 1) (vs := t1.cells) A M rfl rfl rfl (jt rfl (by kernel_rfl)) rfl rfl (.inl (by decide)) ?_
  intro g14 w15 M a A
  have hL9 : L.length ≤ 65536 := by have h := hsm (eq_of_beq hb12); omega
  replace M : Mg w0 w15 (.row 30 11 (.slice (aO g14) 1 1) 1 t1.cells :: .obj g7 (.cells (t1.d.cells t1.ts.length).toArray 30) :: (U1 ++ (U ++ (F1 ++ (F ++ Z))))) := by rw [List.append_assoc] at M; exact M
  refine qzf (e := 30) (m := (ts ++ [t1]).length) (ts := ts ++ [t1]) (c := .obj g7 (.cells (t1.d.cells t1.ts.length).toArray 30)) (X := (U ++ (F1 ++ (F ++ Z)))) A rfl rfl rfl (qze (z := .agg zD.toArray) (by_ := 192) Tryz.underlying28 (by kernel_rfl) rfl rfl rfl hI M (zr (by simp) (vt hUb.ob.nob (Ob.app hO1 (Ob.app hF hZ)).nob)) rfl rfl (by omega)) ?_
  intro so16 ca17 U18 w19 hI20 M a A
  replace M : Mg w0 w19 (.obj g7 (.cells (t1.d.cells t1.ts.length).toArray 30) :: ((U18 ++ U) ++ (F1 ++ (F ++ Z)))) := by rw [← List.append_assoc] at M; exact M
  refine sda A λa A↦?_
  refine qa (hK13 _ _ (wrl ?_))
  iterate 2 refine sdm A λa A↦?_
  have hnx := hle1 (eq_of_beq hb12)
  refine sdo (v := iV (((q + n1 : Nat) : Int))) A (qb rfl rfl (ar_add ((in_i64 (by omega) (by omega)).trans (by omega)))) λa A↦?_
  refine sda A λa A↦?_
  refine qa ?_
  have he0 : e1 = 0 := eq_of_beq hb12
  have hn1 := hle1 he0
  subst he0
  have hta : ∀ x ∈ ts ++ [t1], Lv w0 ((F1 ++ F) ++ Z) x := by rw [List.append_assoc]; exact zcd hts hL1
  replace M : Mg w0 w19 ((U18 ++ U) ++ ((F1 ++ F) ++ Z)) := by rw [List.append_assoc F1 F Z]; exact M.sub (cn (.refl _))
  refine hK3 _ _ _ (by omega) ⟨q + n1, f, so16, ca17, ts ++ [t1], U18, F1 ++ F, rfl, ⟨by omega, by omega, by rw [List.length_append, List.length_singleton]; omega, .inr hL9, hI20, hta, Ob.app hO1 hF, by rw [hi, zwb hr1, List.map_append, List.map_singleton, htr1]⟩, A.keep _ ⟨rfl, rfl, rfl, rfl, trivial⟩, M⟩
 ·
  have hb12' := ne_of_beq_false hb12
  refine sdc A qj hb12 λa A↦?_
  refine sda A λa A↦?_
  refine qa (hK11 _ _ (cf A ?_))
  refine wsk fun K21 hK21 => wrl ?_
  rcases tf ((e1 == 11)) with hb22 | hb22
  ·
   have hb22' := eq_of_beq hb22
   refine sdc A qj hb22 λa A↦?_
   refine sda A λa A↦?_
   refine qa (hK21 _ _ (ct A ?_))
   refine wsk fun K23 hK23 => wrl (sdm A λa A↦?_)
   iterate 3 refine sda A λa A↦?_
   refine qa (hK23 _ _ (wp_ret (hret _ _ (en3 A rfl (qf rfl) (qf rfl) (qf rfl) ?_))))
   have he := eq_of_beq hb22
   subst he
   exact ⟨so, ca, ts, U1, F1 ++ F, 0, 0, rfl, ⟨by rw [hi, zpf hr1], by omega⟩, ⟨hI, fun x hx => by rw [List.append_assoc]; exact (hts x hx).app F1, Ob.app hO1 hF⟩, by
    have h9 : Mg w0 _ ((U1 ++ U) ++ (F1 ++ (F ++ Z))) := M.sub (cn (.refl _))
    rw [List.append_assoc F1 F Z]
    exact h9⟩
  ·
   have hb22' := ne_of_beq_false hb22
   refine sdc A qj hb22 λa A↦?_
   refine sda A λa A↦?_
   refine qa (hK21 _ _ (cf A ?_))
   refine wsk fun K24 hK24 => wrl ?_
   iterate 2 refine sdm A λa A↦?_
   iterate 3 refine sda A λa A↦?_
   refine qa (hK24 _ _ (wp_ret (hret _ _ (en3 A rfl (qf rfl) (qf rfl) (qf rfl) ?_))))
   exact ⟨none, 0, [], [], F1 ++ F, q, e1, rfl, ⟨by rw [hi, zph hr1 (ne_of_beq_false hb12) (ne_of_beq_false hb22)]; rfl, Nat.zero_le _⟩, ⟨IR.start _, (fun x hx => by cases hx), Ob.app hO1 hF⟩, by
    have h9 : Mg w0 _ ((U1 ++ U) ++ (F1 ++ (F ++ Z))) := M.sub (cn (.refl _))
    rw [List.append_assoc F1 F Z]
    exact h9.sub (.append (List.sublist_append_right U1 U) (.refl _))⟩
def AW : List UInt8 := [32, 40, 97, 32, 46, 32, 35, 116, 41, 120]
def AWT : Tr := .mk 8 0 Q6.zero ⟨#[]⟩ [] [lfT 6 0 (tx [97]), lfT 2 1 ⟨#[]⟩]
set_option maxRecDepth 100000 in
theorem zzd : rdX AW = (0, 9, AWT) := by kernel_rfl
theorem zpi {w : World} (hN : Env w) : Calls Tryz.prog 7 #[.string (tx AW)] w fun e w' => ∃ t : Dt, e = .returned (.tuple #[.agg (t.d.cells t.ts.length).toArray, iV 9, iV 0]) ∧ (t.tr = AWT ∧ t.rd w') ∧ Below w.heap.size w w' := by
 refine (read_any (L := AW) (U := []) (Z := []) hN Cu.nil Ob.nil (by decide) (Mg.start w)).mono ?_
 rintro e w' ⟨t, F, rfl, ⟨h1, _⟩, ⟨hL, _⟩, M⟩
 rw [zzd] at h1 ⊢
 exact ⟨t, rfl, ⟨h1, hL _ M⟩, M.bel⟩
theorem zwc (t : Dt) : t.tr.ts = t.ts.map Dt.tr := by cases t; rw [Dt.tr_mk]; rfl
theorem jef (t : Dt) : t.tr.s = t.d.s := by cases t; rw [Dt.tr_mk]; rfl
theorem jeg (t : Dt) : t.tr.n = t.d.n := by cases t; rw [Dt.tr_mk]; rfl
theorem zpj {t u : Dt} {i : Nat} {x : Tr} (h : t.ts[i]? = some u) (hx : t.tr.ts[i]? = some x) : u.tr = x := by
 rw [zwc, List.getElem?_map, h] at hx
 exact Option.some.inj hx
theorem zie {w : World} (hN : Env w) : Calls Tryz.prog 8 #[] w fun e w' => e = .returned (bV true) ∧ Below w.heap.size w w' := by
 have M : Mg w w ([]) := Mg.start w
 refine qs (l := []) Tryz.func8 rfl Tryz.ntmps8 rfl rfl ?_
 intro Q hret hnorm hP a A
 refine wsk fun K1 hK1 => wrl (sda A λa A↦?_)
 refine qa (hK1 _ _ (wsk fun K2 hK2 => wrl (sct A (ef rfl rfl) (zpi hN) ?_)))
 rintro _ w3 ⟨t1, rfl, ⟨htr1, hr1⟩, hB1⟩
 have hk8 : t1.d.k = 8 := by rw [← jed, htr1]; rfl
 have hln : t1.ts.length = 2 := by rw [← List.length_map (f := Dt.tr), ← zwc, htr1]; rfl
 obtain ⟨ta, bta, ota, ita, mta, rta_, lta, Hta⟩ := zsc hr1 (i := 0) (by omega)
 obtain ⟨tb, btb, otb, itb, mtb, rtb_, ltb, Htb⟩ := zsc hr1 (i := 1) (by omega)
 have hsq : decide (ta.d.s = ⟨#[97]⟩) = true := decide_eq_true (by rw [← jef, zpj ita (by rw [htr1]; rfl)]; rfl)
 have hnq : tb.d.n = 1 := by rw [← jeg, zpj itb (by rw [htr1]; rfl)]; rfl
 replace M : Mg w3 w3 ([]) := Mg.start w3
 refine ⟨_, rfl, ?_⟩
 intro a A
 refine sdm A λa A↦?_
 iterate 3 refine sdo A (qh (vs := [.agg (t1.d.cells t1.ts.length).toArray, iV 9, iV 0]) rfl rfl) λa A↦?_
 refine vq (vs := zD) (t := 30) A M rfl rfl rfl pg (ql (z := .agg zD.toArray) (by kernel_rfl) rfl) (by decide) ?_
 intro g4 w5 M a A
 refine zh (L' := (.obj g4 (.cells (t1.d.cells t1.ts.length).toArray 30) :: [])) A M rfl rfl (qy rfl rfl rfl (by kernel_rfl) M 0 rfl rfl rfl) 0 rfl rfl rfl ?_
 intro w6 M
 iterate 2 refine sda A λa A↦?_
 refine qa (hK2 _ _ (wsk fun K7 hK7 => wrl (sdm A λa A↦?_)))
 refine sdo (v := bV true) A dbK λa A↦?_
 iterate 2 refine sdm A λa A↦?_
 refine sdo (v := bV true) A dbK λa A↦?_
 refine sdk (v := bV true) A λa A↦?_
 refine sdm A λa A↦?_
 refine sdo (v := pA g4 0) A (qe qof rfl rfl) λa A↦?_
 refine sdo A (zj M o93 rfl 0 rfl rfl) λa A↦?_
 refine sdo (v := bV true) A (qb rfl rfl (fun w => (qj w).trans (by rw [show ((t1.d.k == 8)) = true from (beq_iff_eq.2 hk8)]))) λa A↦?_
 refine sdk (v := bV true) A λa A↦?_
 refine sdm A λa A↦?_
 refine sdo (v := pA g4 10) A (qe kl rfl rfl) λa A↦?_
 refine sdo A (zj M qhc rfl 0 rfl rfl) λa A↦?_
 refine sdo A (zl Tryz.underlying28 rfl) λa A↦?_
 refine sdo (v := bV true) A (qb rfl rfl (fun w => (qj w).trans (by rw [show ((((t1.ts.length : Nat) : Int) == 2)) = true from (beq_iff_eq.2 (by omega))]))) λa A↦?_
 refine sdk (v := bV true) A λa A↦?_
 refine sdm A λa A↦?_
 refine sdo (v := pA g4 10) A (qe kl rfl rfl) λa A↦?_
 refine sdo A (zj M qhc rfl 0 rfl rfl) λa A↦?_
 refine sdo (v := pA bta (ota + 0 * 11)) A (jv (k := 0) Tryz.underlying28 (by kernel_rfl) rfl rfl rfl lta (by omega)) λa A↦?_
 refine sdo (v := pA bta (ota + 0 * 11 + 8)) A (qe qyf rfl rfl) λa A↦?_
 refine sdo A (uf (j := 8) M Hta o99 rfl rfl rfl) λa A↦?_
 refine sdo (v := bV true) A (qb rfl rfl (fun w => (qrj Tryz.underlying9 w).trans (by rw [hsq] <;> rfl))) λa A↦?_
 refine sdk (v := bV true) A λa A↦?_
 refine sdm A λa A↦?_
 refine sdo (v := pA g4 10) A (qe kl rfl rfl) λa A↦?_
 refine sdo A (zj M qhc rfl 0 rfl rfl) λa A↦?_
 refine sdo (v := pA btb (otb + 1 * 11)) A (jv (k := 1) Tryz.underlying28 (by kernel_rfl) rfl rfl rfl ltb (by omega)) λa A↦?_
 refine sdo (v := pA btb (otb + 1 * 11 + 1)) A (qe qye rfl rfl) λa A↦?_
 refine sdo A (uf (j := 1) M Htb o93 rfl rfl rfl) λa A↦?_
 refine sdo (v := bV true) A (qb rfl rfl (fun w => (qj w).trans (by rw [show ((tb.d.n == 1)) = true from (beq_iff_eq.2 hnq)]))) λa A↦?_
 refine sdk (v := bV true) A λa A↦?_
 refine sda A λa A↦?_
 refine qa (hK7 _ _ (wr1 hret A ?_))
 exact ⟨rfl, hB1.trans (M.bel.mono hB1.size)⟩
end Go.Proofs.YtclkfideaameoaaGreatDoor.G
namespace Go.Proofs.YtclkfideaameoaaGreatDoor
open Go.RowKit
set_option maxRecDepth 100000
theorem EqO_fld_26_0 : FieldAt Tryz.prog 26 0 0 := ⟨_, _, Tryz.underlying26, rfl, rfl, by kernel_rfl⟩
theorem EqO_fld_26_1 : FieldAt Tryz.prog 26 1 3 := ⟨_, _, Tryz.underlying26, rfl, rfl, by kernel_rfl⟩
theorem EqO_isS_24 : IsS Tryz.prog 24 3 := ⟨⟨_, Tryz.underlying24⟩, by kernel_rfl⟩
theorem zcg {w : World} {p q : Q6} {a1 a2 a3 a4 : Option Addr} {ac1 ac2 ac3 ac4 : Nat} (ha : Nm w p a1 ac1 a2 ac2 a3 ac3 a4 ac4) (hl : LenQ p) {u1 u2 u3 u4 : Option Addr} {uc1 uc2 uc3 uc4 : Nat} (hu : Nm w q u1 uc1 u2 uc2 u3 uc3 u4 uc4) (hm : LenQ q) {r : Bool} (hr : (vy p.b1 p.t1 p.q1 q.b1 q.t1 q.q1 && vy p.b2 p.t2 p.q2 q.b2 q.t2 q.q2) = r) : Calls Tryz.prog 18 #[qdb p a1 ac1 a2 ac2 a3 ac3 a4 ac4, qdb q u1 uc1 u2 uc2 u3 uc3 u4 uc4] w fun e w' => e = .returned (bV r) ∧ Below w.heap.size w w' := by
 have S : St w w [] [(u4, q.q2), (u3, q.t2), (u2, q.q1), (u1, q.t1), (a4, p.q2), (a3, p.t2), (a2, p.q1), (a1, p.t1)] [] := ((((((((St.start w).addR ha.s1.rd).addR ha.s2.rd).addR ha.s3.rd).addR ha.s4.rd).addR hu.s1.rd).addR hu.s2.rd).addR hu.s3.rd).addR hu.s4.rd
 refine qs (l := [(0, .agg #[bV p.b1, .slice a1 p.t1.length ac1, .slice a2 p.q1.length ac2, bV p.b2, .slice a3 p.t2.length ac3, .slice a4 p.q2.length ac4]), (1, .agg #[bV q.b1, .slice u1 q.t1.length uc1, .slice u2 q.q1.length uc2, bV q.b2, .slice u3 q.t2.length uc3, .slice u4 q.q2.length uc4])]) Tryz.func18 rfl Tryz.ntmps18 rfl rfl ?_
 intro Q hret hnorm hP a A
 refine wsk fun K1 hK1 => wrl (qz A S rfl rfl rfl pg (zg rfl rfl) rfl ?_)
 intro g2 w3 S a A
 refine qz A S rfl rfl rfl pg (zg rfl rfl) rfl ?_
 intro g4 w5 S a A
 refine sda A λa A↦?_
 refine qa (hK1 _ _ (wsk fun K6 hK6 => wrl (sdo (v := pA g2 0) A (qe EqO_fld_26_0 rfl rfl) λa A↦?_)))
 refine sdo A (qk S EqO_isS_24 rfl 1 rfl (cs := [bV p.b1, .slice a1 p.t1.length ac1, .slice a2 p.q1.length ac2]) rfl rfl) λa A↦?_
 refine sdo (v := pA g4 0) A (qe EqO_fld_26_0 rfl rfl) λa A↦?_
 refine sdo A (qk S EqO_isS_24 rfl 0 rfl (cs := [bV q.b1, .slice u1 q.t1.length uc1, .slice u2 q.q1.length uc2]) rfl rfl) λa A↦?_
 rcases tf (vy p.b1 p.t1 p.q1 q.b1 q.t1 q.q1) with hb7 | hb7
 ·
  refine sct A (ef rfl rfl) (yf ⟨(S.rd 7 rfl), ha.s1.nil, ha.s1.cap⟩ ⟨(S.rd 6 rfl), ha.s2.nil, ha.s2.cap⟩ ⟨(S.rd 3 rfl), hu.s1.nil, hu.s1.cap⟩ ⟨(S.rd 2 rfl), hu.s2.nil, hu.s2.cap⟩ hl.l1 hl.l2 hm.l1 hm.l2 hb7) ?_
  rintro _ w9 ⟨rfl, hb8⟩
  replace S := S.call hb8
  refine ⟨_, rfl, ?_⟩
  intro a A
  refine sdm A λa A↦?_
  refine sdo (v := pA g2 3) A (qe EqO_fld_26_1 rfl rfl) λa A↦?_
  refine sdo A (qk S EqO_isS_24 rfl 1 rfl (cs := [bV p.b2, .slice a3 p.t2.length ac3, .slice a4 p.q2.length ac4]) rfl rfl) λa A↦?_
  refine sdo (v := pA g4 3) A (qe EqO_fld_26_1 rfl rfl) λa A↦?_
  refine sdo A (qk S EqO_isS_24 rfl 0 rfl (cs := [bV q.b2, .slice u3 q.t2.length uc3, .slice u4 q.q2.length uc4]) rfl rfl) λa A↦?_
  rcases tf (vy p.b2 p.t2 p.q2 q.b2 q.t2 q.q2) with hb10 | hb10
  ·
   refine sct A (ef rfl rfl) (yf ⟨(S.rd 5 rfl), ha.s3.nil, ha.s3.cap⟩ ⟨(S.rd 4 rfl), ha.s4.nil, ha.s4.cap⟩ ⟨(S.rd 1 rfl), hu.s3.nil, hu.s3.cap⟩ ⟨(S.rd 0 rfl), hu.s4.nil, hu.s4.cap⟩ hl.l3 hl.l4 hm.l3 hm.l4 hb10) ?_
   rintro _ w12 ⟨rfl, hb11⟩
   replace S := S.call hb11
   refine ⟨_, rfl, ?_⟩
   intro a A
   refine sdk (v := bV true) A λa A↦?_
   refine sda A λa A↦?_
   refine qa (hK6 _ _ (wr1 hret A ?_))
   subst hr
   exact ⟨by rw [hb7, hb10]; try rfl, S.bel⟩
  ·
   refine sct A (ef rfl rfl) (yf ⟨(S.rd 5 rfl), ha.s3.nil, ha.s3.cap⟩ ⟨(S.rd 4 rfl), ha.s4.nil, ha.s4.cap⟩ ⟨(S.rd 1 rfl), hu.s3.nil, hu.s3.cap⟩ ⟨(S.rd 0 rfl), hu.s4.nil, hu.s4.cap⟩ hl.l3 hl.l4 hm.l3 hm.l4 hb10) ?_
   rintro _ w14 ⟨rfl, hb13⟩
   replace S := S.call hb13
   refine ⟨_, rfl, ?_⟩
   intro a A
   refine sdk (v := bV false) A λa A↦?_
   refine sda A λa A↦?_
   refine qa (hK6 _ _ (wr1 hret A ?_))
   subst hr
   exact ⟨by rw [hb7, hb10]; try rfl, S.bel⟩
 ·
  refine sct A (ef rfl rfl) (yf ⟨(S.rd 7 rfl), ha.s1.nil, ha.s1.cap⟩ ⟨(S.rd 6 rfl), ha.s2.nil, ha.s2.cap⟩ ⟨(S.rd 3 rfl), hu.s1.nil, hu.s1.cap⟩ ⟨(S.rd 2 rfl), hu.s2.nil, hu.s2.cap⟩ hl.l1 hl.l2 hm.l1 hm.l2 hb7) ?_
  rintro _ w16 ⟨rfl, hb15⟩
  replace S := S.call hb15
  refine ⟨_, rfl, ?_⟩
  intro a A
  refine sdm A λa A↦?_
  iterate 5 refine qi A rfl rfl rfl λa A↦?_
  refine sdk (v := bV false) A λa A↦?_
  refine sda A λa A↦?_
  refine qa (hK6 _ _ (wr1 hret A ?_))
  subst hr
  exact ⟨by rw [hb7]; try rfl, S.bel⟩

end Go.Proofs.YtclkfideaameoaaGreatDoor
namespace Go.Proofs.YtclkfideaameoaaGreatDoor.G
open Go.RowKit
mutual
def yz : Tr → Tr → Bool
  | .mk k n q s rl ts, u => (decide (k = u.k) && (decide (n = u.n) && (decide (s = u.s) && (decide (rl = u.rl) && (vy q.b1 q.t1 q.q1 u.q.b1 u.q.t1 u.q.q1 && vy q.b2 q.t2 q.q2 u.q.b2 u.q.t2 u.q.q2))))) && (decide (ts.length = u.ts.length) && ko ts u.ts)
def ko : List Tr → List Tr → Bool
  | [], _ => true
  | _ :: _, [] => true
  | t :: ts, u :: us => yz t u && ko ts us
end
theorem zif {b b' : Bool} {t q t' q' : List Nat} : vy b t q b' t' q' = true ↔ b = b' ∧ t = t' ∧ q = q' := by
  unfold vy
  simp
theorem zqa (k n : Int) (q : Q6) (s : ByteArray) (rl : List UInt8) (ts : List Tr) (k' n' : Int) (q' : Q6) (s' : ByteArray) (rl' : List UInt8) (ts' : List Tr) : yz (.mk k n q s rl ts) (.mk k' n' q' s' rl' ts') = true ↔ k = k' ∧ n = n' ∧ q = q' ∧ s = s' ∧ rl = rl' ∧ ts.length = ts'.length ∧ ko ts ts' = true := by
  rw [yz]
  show ((decide (k = k') && (decide (n = n') && (decide (s = s') && (decide (rl = rl') && (vy q.b1 q.t1 q.q1 q'.b1 q'.t1 q'.q1 && vy q.b2 q.t2 q.q2 q'.b2 q'.t2 q'.q2))))) && (decide (ts.length = ts'.length) && ko ts ts')) = true ↔ _
  simp only [Bool.and_eq_true, decide_eq_true_eq, zif]
  constructor
  · rintro ⟨⟨a, b, c, d, ⟨e1, e2, e3⟩, f1, f2, f3⟩, g, h⟩
    refine ⟨a, b, ?_, c, d, g, h⟩
    cases q; cases q'
    simp_all
  · rintro ⟨a, b, c, d, e, f, g⟩
    subst c
    exact ⟨⟨a, b, d, e, ⟨rfl, rfl, rfl⟩, rfl, rfl, rfl⟩, f, g⟩
theorem qwc {ts : List Tr} (h : ∀ t ∈ ts, ∀ u, yz t u = true ↔ t = u) : ∀ us : List Tr, ts.length = us.length → (ko ts us = true ↔ ts = us) := by
  induction ts with
  | nil =>
    intro us hl
    cases us with
    | nil => simp [ko]
    | cons u us => simp at hl
  | cons t ts ih =>
    intro us hl
    cases us with
    | nil => simp at hl
    | cons u us =>
      rw [ko, Bool.and_eq_true, h t List.mem_cons_self u, ih (fun x hx => h x (List.mem_cons_of_mem _ hx)) us (by simpa using hl)]
      simp
theorem zqb : ∀ t u : Tr, yz t u = true ↔ t = u := by
  refine Tr.indT fun k n q s rl ts ih u => ?_
  obtain ⟨k', n', q', s', rl', ts'⟩ := u
  rw [zqa]
  constructor
  · rintro ⟨a, b, c, d, e, f, g⟩
    rw [a, b, c, d, e, (qwc ih ts' f).1 g]
  · intro h
    cases h
    exact ⟨rfl, rfl, rfl, rfl, rfl, rfl, (qwc ih ts rfl).2 rfl⟩
theorem qwd {ts us : List Dt} {i : Nat} {t u : Dt} (hi : ts[i]? = some t) (hj : us[i]? = some u) : ko ((ts.map Dt.tr).drop i) ((us.map Dt.tr).drop i) = (yz t.tr u.tr && ko ((ts.map Dt.tr).drop (i + 1)) ((us.map Dt.tr).drop (i + 1))) := by
  rw [yp hi, yp hj, ko]
theorem zig {ts us : List Dt} {i : Nat} (h : ¬ i < ts.length) : ko ((ts.map Dt.tr).drop i) ((us.map Dt.tr).drop i) = true := by
  rw [qfe h, ko]
theorem qwe (p r : Dt) : yz p.tr r.tr = ((decide (p.d.k = r.d.k) && (decide (p.d.n = r.d.n) && (decide (p.d.s = r.d.s) && (decide (p.d.rl = r.d.rl) && (vy p.d.y.q.b1 p.d.y.q.t1 p.d.y.q.q1 r.d.y.q.b1 r.d.y.q.t1 r.d.y.q.q1 && vy p.d.y.q.b2 p.d.y.q.t2 p.d.y.q.q2 r.d.y.q.b2 r.d.y.q.t2 r.d.y.q.q2))))) && (decide (p.ts.length = r.ts.length) && ko (p.ts.map Dt.tr) (r.ts.map Dt.tr))) := by
  rw [Dt.tr_eta p, Dt.tr_eta r, yz, List.length_map]
  show _ = (_ && (decide (p.ts.length = r.ts.length) && _))
  rw [show (Tr.mk r.d.k r.d.n r.d.y.q r.d.s r.d.rl (r.ts.map Dt.tr)).ts.length = r.ts.length from List.length_map _]
  rfl
def SQ2 (p r : Dt) : Bool := vy p.d.y.q.b1 p.d.y.q.t1 p.d.y.q.q1 r.d.y.q.b1 r.d.y.q.t1 r.d.y.q.q1 && vy p.d.y.q.b2 p.d.y.q.t2 p.d.y.q.q2 r.d.y.q.b2 r.d.y.q.t2 r.d.y.q.q2
theorem un {p r : Dt} (h : p.d.k ≠ r.d.k ∨ p.d.n ≠ r.d.n ∨ p.d.s ≠ r.d.s ∨ p.d.rl ≠ r.d.rl ∨ p.ts.length ≠ r.ts.length ∨ SQ2 p r = false) : yz p.tr r.tr = false := by
  rw [qwe]
  unfold SQ2 at h
  rcases h with h | h | h | h | h | h <;> simp [h]
theorem zqc {p r : Dt} (h1 : p.d.k = r.d.k) (h2 : p.d.n = r.d.n) (h3 : p.d.s = r.d.s) (h4 : p.d.rl = r.d.rl) (h5 : p.ts.length = r.ts.length) (h6 : SQ2 p r = true) : yz p.tr r.tr = ko (p.ts.map Dt.tr) (r.ts.map Dt.tr) := by
  rw [qwe]
  unfold SQ2 at h6
  rw [decide_eq_true h1, decide_eq_true h2, decide_eq_true h3, decide_eq_true h4, decide_eq_true h5, h6]
  simp
theorem zih {a b : List UInt8} (hl : a.length = b.length) (h : ∀ j, j < a.length → a.getD j 0 = b.getD j 0) : a = b := by
  apply List.ext_getElem hl
  intro j h1 h2
  have := h j h1
  rwa [show a.getD j 0 = a[j] from by simp [List.getD, List.getElem?_eq_getElem h1], show b.getD j 0 = b[j] from by simp [List.getD, List.getElem?_eq_getElem h2]] at this
theorem jdc {a b : List UInt8} {i : Nat} (h : (((a.getD i 0).toNat : Nat) : Int) ≠ (((b.getD i 0).toNat : Nat) : Int)) : a ≠ b := fun e => h (by rw [e])
theorem jdd {a b : UInt8} (h : ((a.toNat : Nat) : Int) = ((b.toNat : Nat) : Int)) : a = b := UInt8.toNat_inj.1 (by omega)
set_option maxRecDepth 100000
theorem zfd {w : World} {so : Option Addr} {l : List UInt8} {i : Nat} (h : Rb w so l) (hi : i < l.length) : ∃ b off, so = some ⟨b, off, none⟩ ∧ b < w.heap.size ∧ ∀ j, j < l.length → w.cell? ⟨b, off + j, none⟩ = some (.int .u8 (((l.getD j 0).toNat : Nat) : Int)) :=
 h.pos (fun k => by rw [k] at hi; exact absurd hi (Nat.not_lt_zero _))
theorem qld {w : World} {t u : Dt} (ht : t.rd w) (hu : u.rd w) {b : Bool} (h : SQ2 t u = b) : Calls Tryz.prog 18 #[t.d.y.val, u.d.y.val] w fun e w' => e = .returned (bV b) ∧ Below w.heap.size w w' := zcg (Dt.okT ht).1.num (Dt.okT ht).1.len (Dt.okT hu).1.num (Dt.okT hu).1.len h
def RSames (n : Nat) : Prop := ∀ {w : World} {t u : Dt}, t.tr.bulk < n → t.rd w → u.rd w → Calls Tryz.prog 12 #[.agg (t.d.cells t.ts.length).toArray, .agg (u.d.cells u.ts.length).toArray] w fun e w' => e = .returned (bV (yz t.tr u.tr)) ∧ Below w.heap.size w w'
theorem qwf {n : Nat} (ih : RSames n) : RSames (n + 1) := by
 intro w t u hn ht hu
 have hlt := (Dt.okT ht).2
 have hrt : t.d.rl.length ≤ 9223372036854775807 := Nat.le_trans (Dt.okT ht).1.rcap (Dt.okT ht).1.rmax
 have M : Mg w w ([]) := Mg.start w
 refine qs (l := [(0, .agg (t.d.cells t.ts.length).toArray), (1, .agg (u.d.cells u.ts.length).toArray)]) Tryz.func12 rfl Tryz.ntmps12 rfl rfl ?_
 intro Q hret hnorm hP a A
 refine wsk fun K1 hK1 => wrl (vq (vs := [iV t.d.k, iV t.d.n, bV t.d.y.q.b1, .slice t.d.y.o1 t.d.y.q.t1.length t.d.y.c1, .slice t.d.y.o2 t.d.y.q.q1.length t.d.y.c2, bV t.d.y.q.b2, .slice t.d.y.o3 t.d.y.q.t2.length t.d.y.c3, .slice t.d.y.o4 t.d.y.q.q2.length t.d.y.c4, .string t.d.s, .slice t.d.ro t.d.rl.length t.d.rc, .slice t.d.lo t.ts.length t.d.lc]) (t := 30) A M rfl rfl rfl pg (zg rfl rfl) (by decide) ?_)
 intro g2 w3 M a A
 refine vq (vs := [iV u.d.k, iV u.d.n, bV u.d.y.q.b1, .slice u.d.y.o1 u.d.y.q.t1.length u.d.y.c1, .slice u.d.y.o2 u.d.y.q.q1.length u.d.y.c2, bV u.d.y.q.b2, .slice u.d.y.o3 u.d.y.q.t2.length u.d.y.c3, .slice u.d.y.o4 u.d.y.q.q2.length u.d.y.c4, .string u.d.s, .slice u.d.ro u.d.rl.length u.d.rc, .slice u.d.lo u.ts.length u.d.lc]) (t := 30) A M rfl rfl rfl pg (zg rfl rfl) (by decide) ?_
 intro g4 w5 M a A
 refine sda A λa A↦?_
 refine qa (hK1 _ _ (wsk fun K6 hK6 => wsk fun K7 hK7 => wrl (sdo (v := pA g2 0) A (qe qof rfl rfl) λa A↦?_)))
 refine sdo A (zj M o93 rfl 1 rfl rfl) λa A↦?_
 refine sdo (v := pA g4 0) A (qe qof rfl rfl) λa A↦?_
 refine sdo A (zj M o93 rfl 0 rfl rfl) λa A↦?_
 rcases tf ((t.d.k != u.d.k)) with hb8 | hb8
 ·
  have hb8' := bne_iff_ne.1 hb8
  refine sdc A zn hb8 λa A↦?_
  refine sdm A λa A↦?_
  iterate 5 refine qi A rfl rfl rfl λa A↦?_
  refine sdk (v := bV true) A λa A↦?_
  refine sdm A λa A↦?_
  iterate 5 refine qi A rfl rfl rfl λa A↦?_
  refine sdk (v := bV true) A λa A↦?_
  refine sdm A λa A↦?_
  iterate 7 refine qi A rfl rfl rfl λa A↦?_
  refine sdk (v := bV true) A λa A↦?_
  refine sdm A λa A↦?_
  iterate 7 refine qi A rfl rfl rfl λa A↦?_
  refine sdk (v := bV true) A λa A↦?_
  refine sdm A λa A↦?_
  iterate 6 refine qi A rfl rfl rfl λa A↦?_
  refine sdk (v := bV true) A λa A↦?_
  refine qa (hK7 _ _ (ct A ?_))
  refine wsk fun K9 hK9 => wrl (sda A λa A↦?_)
  refine qa (hK9 _ _ (wr1 hret A ?_))
  exact ⟨by rw [un (.inl hb8')], M.bel⟩
 ·
  have hb8' := bne_eq_false_iff_eq.1 hb8
  refine sdc A zn hb8 λa A↦?_
  refine sdm A λa A↦?_
  refine sdo (v := pA g2 1) A (qe qye rfl rfl) λa A↦?_
  refine sdo A (zj M o93 rfl 1 rfl rfl) λa A↦?_
  refine sdo (v := pA g4 1) A (qe qye rfl rfl) λa A↦?_
  refine sdo A (zj M o93 rfl 0 rfl rfl) λa A↦?_
  rcases tf ((t.d.n != u.d.n)) with hb10 | hb10
  ·
   have hb10' := bne_iff_ne.1 hb10
   refine sdc A zn hb10 λa A↦?_
   refine sdk (v := bV true) A λa A↦?_
   refine sdm A λa A↦?_
   iterate 5 refine qi A rfl rfl rfl λa A↦?_
   refine sdk (v := bV true) A λa A↦?_
   refine sdm A λa A↦?_
   iterate 7 refine qi A rfl rfl rfl λa A↦?_
   refine sdk (v := bV true) A λa A↦?_
   refine sdm A λa A↦?_
   iterate 7 refine qi A rfl rfl rfl λa A↦?_
   refine sdk (v := bV true) A λa A↦?_
   refine sdm A λa A↦?_
   iterate 6 refine qi A rfl rfl rfl λa A↦?_
   refine sdk (v := bV true) A λa A↦?_
   refine qa (hK7 _ _ (ct A ?_))
   refine wsk fun K11 hK11 => wrl (sda A λa A↦?_)
   refine qa (hK11 _ _ (wr1 hret A ?_))
   exact ⟨by rw [un (.inr (.inl hb10'))], M.bel⟩
  ·
   have hb10' := bne_eq_false_iff_eq.1 hb10
   refine sdc A zn hb10 λa A↦?_
   refine sdk (v := bV false) A λa A↦?_
   refine sdm A λa A↦?_
   refine sdo (v := pA g2 8) A (qe qyf rfl rfl) λa A↦?_
   refine sdo A (zj M o99 rfl 1 rfl rfl) λa A↦?_
   refine sdo (v := pA g4 8) A (qe qyf rfl rfl) λa A↦?_
   refine sdo A (zj M o99 rfl 0 rfl rfl) λa A↦?_
   rcases tf (decide (t.d.s = u.d.s)) with hb12 | hb12
   ·
    have hb12' := of_decide_eq_true hb12
    refine sdo (v := bV false) A (qb rfl rfl (fun w => (qsa Tryz.underlying9 w).trans (by rw [hb12] <;> rfl))) λa A↦?_
    refine sdk (v := bV false) A λa A↦?_
    refine sdm A λa A↦?_
    refine sdo (v := pA g2 9) A (qe qje rfl rfl) λa A↦?_
    refine sdo A (zj M qlh rfl 1 rfl rfl) λa A↦?_
    refine sdo A (zl Tryz.underlying27 rfl) λa A↦?_
    refine sdo (v := pA g4 9) A (qe qje rfl rfl) λa A↦?_
    refine sdo A (zj M qlh rfl 0 rfl rfl) λa A↦?_
    refine sdo A (zl Tryz.underlying27 rfl) λa A↦?_
    rcases tf ((((t.d.rl.length : Nat) : Int) != ((u.d.rl.length : Nat) : Int))) with hb13 | hb13
    ·
     have hb13' := bne_iff_ne.1 hb13
     refine sdc A zn hb13 λa A↦?_
     refine sdk (v := bV true) A λa A↦?_
     refine sdm A λa A↦?_
     iterate 7 refine qi A rfl rfl rfl λa A↦?_
     refine sdk (v := bV true) A λa A↦?_
     refine sdm A λa A↦?_
     iterate 6 refine qi A rfl rfl rfl λa A↦?_
     refine sdk (v := bV true) A λa A↦?_
     refine qa (hK7 _ _ (ct A ?_))
     refine wsk fun K14 hK14 => wrl (sda A λa A↦?_)
     refine qa (hK14 _ _ (wr1 hret A ?_))
     exact ⟨by rw [un (.inr (.inr (.inr (.inl (fun e => hb13' (by rw [e]))))))], M.bel⟩
    ·
     have hb13' := bne_eq_false_iff_eq.1 hb13
     refine sdc A zn hb13 λa A↦?_
     refine sdk (v := bV false) A λa A↦?_
     refine sdm A λa A↦?_
     refine sdo (v := pA g2 10) A (qe kl rfl rfl) λa A↦?_
     refine sdo A (zj M qhc rfl 1 rfl rfl) λa A↦?_
     refine sdo A (zl Tryz.underlying28 rfl) λa A↦?_
     refine sdo (v := pA g4 10) A (qe kl rfl rfl) λa A↦?_
     refine sdo A (zj M qhc rfl 0 rfl rfl) λa A↦?_
     refine sdo A (zl Tryz.underlying28 rfl) λa A↦?_
     rcases tf ((((t.ts.length : Nat) : Int) != ((u.ts.length : Nat) : Int))) with hb15 | hb15
     ·
      have hb15' := bne_iff_ne.1 hb15
      refine sdc A zn hb15 λa A↦?_
      refine sdk (v := bV true) A λa A↦?_
      refine sdm A λa A↦?_
      iterate 6 refine qi A rfl rfl rfl λa A↦?_
      refine sdk (v := bV true) A λa A↦?_
      refine qa (hK7 _ _ (ct A ?_))
      refine wsk fun K16 hK16 => wrl (sda A λa A↦?_)
      refine qa (hK16 _ _ (wr1 hret A ?_))
      exact ⟨by rw [un (.inr (.inr (.inr (.inr (.inl (fun e => hb15' (by rw [e])))))))], M.bel⟩
     ·
      have hb15' := bne_eq_false_iff_eq.1 hb15
      refine sdc A zn hb15 λa A↦?_
      refine sdk (v := bV false) A λa A↦?_
      refine sdm A λa A↦?_
      refine sdo (v := pA g2 2) A (qe qyd rfl rfl) λa A↦?_
      refine sdo A (vb M zrh rfl 1 rfl (cs := [bV t.d.y.q.b1, .slice t.d.y.o1 t.d.y.q.t1.length t.d.y.c1, .slice t.d.y.o2 t.d.y.q.q1.length t.d.y.c2, bV t.d.y.q.b2, .slice t.d.y.o3 t.d.y.q.t2.length t.d.y.c3, .slice t.d.y.o4 t.d.y.q.q2.length t.d.y.c4]) rfl rfl) λa A↦?_
      refine sdo (v := pA g4 2) A (qe qyd rfl rfl) λa A↦?_
      refine sdo A (vb M zrh rfl 0 rfl (cs := [bV u.d.y.q.b1, .slice u.d.y.o1 u.d.y.q.t1.length u.d.y.c1, .slice u.d.y.o2 u.d.y.q.q1.length u.d.y.c2, bV u.d.y.q.b2, .slice u.d.y.o3 u.d.y.q.t2.length u.d.y.c3, .slice u.d.y.o4 u.d.y.q.q2.length u.d.y.c4]) rfl rfl) λa A↦?_
      rcases tf (SQ2 t u) with hb17 | hb17
      ·
       refine gcl A M (ef rfl rfl) (qld (Dt.keep M.bel _ ht) (Dt.keep M.bel _ hu) hb17) fun w19 hb18 M a A => ?_
       refine sdo (v := bV false) A (za rfl zk) λa A↦?_
       refine sdk (v := bV false) A λa A↦?_
       refine qa (hK7 _ _ (cf A ?_))
       refine wp_skip (hK6 _ _ (wsk fun K20 hK20 => wsk fun K21 hK21 => wrl (sda A λa A↦?_)))
       refine qa (hK21 _ _ (wp_block (zy (fun m_ a w1 => ∃ (i : Nat), m_ = 1 + (t.d.rl.length - i) ∧ (i ≤ t.d.rl.length ∧ ∀ j, j < i → t.d.rl.getD j 0 = u.d.rl.getD j 0) ∧ Sl a 89 [(0, .agg (t.d.cells t.ts.length).toArray), (1, .agg (u.d.cells u.ts.length).toArray), (2, pA g2 0), (3, pA g4 0), (5, iV (((i : Nat) : Int))), (7, pA g2 0), (8, iV t.d.k), (9, pA g4 0), (10, iV u.d.k), (11, bV false), (12, bV false), (13, pA g2 1), (14, iV t.d.n), (15, pA g4 1), (16, iV u.d.n), (17, bV false), (18, bV false), (19, bV false), (20, pA g2 8), (21, .string t.d.s), (22, pA g4 8), (23, .string u.d.s), (24, bV false), (25, bV false), (26, bV false), (27, pA g2 9), (28, .slice t.d.ro t.d.rl.length t.d.rc), (29, iV (((t.d.rl.length : Nat) : Int))), (30, pA g4 9), (31, .slice u.d.ro u.d.rl.length u.d.rc), (32, iV (((u.d.rl.length : Nat) : Int))), (33, bV false), (34, bV false), (35, bV false), (36, pA g2 10), (37, .slice t.d.lo t.ts.length t.d.lc), (38, iV (((t.ts.length : Nat) : Int))), (39, pA g4 10), (40, .slice u.d.lo u.ts.length u.d.lc), (41, iV (((u.ts.length : Nat) : Int))), (42, bV false), (43, bV false), (44, bV false), (45, pA g2 2), (46, .agg #[bV t.d.y.q.b1, .slice t.d.y.o1 t.d.y.q.t1.length t.d.y.c1, .slice t.d.y.o2 t.d.y.q.q1.length t.d.y.c2, bV t.d.y.q.b2, .slice t.d.y.o3 t.d.y.q.t2.length t.d.y.c3, .slice t.d.y.o4 t.d.y.q.q2.length t.d.y.c4]), (47, pA g4 2), (48, .agg #[bV u.d.y.q.b1, .slice u.d.y.o1 u.d.y.q.t1.length u.d.y.c1, .slice u.d.y.o2 u.d.y.q.q1.length u.d.y.c2, bV u.d.y.q.b2, .slice u.d.y.o3 u.d.y.q.t2.length u.d.y.c3, .slice u.d.y.o4 u.d.y.q.q2.length u.d.y.c4]), (49, bV true), (50, bV false), (51, bV false)] ∧ Mg w w1 (.obj g4 (.cells (u.d.cells u.ts.length).toArray 30) :: .obj g2 (.cells (t.d.cells t.ts.length).toArray 30) :: [])) _ ⟨0, rfl, ⟨Nat.zero_le _, fun j hj => absurd hj (Nat.not_lt_zero _)⟩, A.keep _ (by repeat' constructor), M⟩ ?_)))
       clear M A
       rintro m_ a w22 ⟨i, rfl, hinv24, A, M⟩ K23 hK23
       obtain ⟨hi0, hin8⟩ := hinv24
       refine wsk fun K25 hK25 => wsk fun K26 hK26 => wrl (sdm A λa A↦?_)
       refine sdo (v := pA g2 9) A (qe qje rfl rfl) λa A↦?_
       refine sdo A (zj M qlh rfl 1 rfl rfl) λa A↦?_
       refine sdo A (zl Tryz.underlying27 rfl) λa A↦?_
       rcases tf (decide (((i : Nat) : Int) < ((t.d.rl.length : Nat) : Int))) with hb27 | hb27
       ·
        have hb27' := of_decide_eq_true hb27
        refine sdc A jb hb27 λa A↦?_
        refine qa (hK26 _ _ (ct A ?_))
        refine wp_skip (hK25 _ _ (wsk fun K28 hK28 => wp_block (wsk fun K29 hK29 => jg (S := fun w1 => Mg w w1 (.obj g4 (.cells (u.d.cells u.ts.length).toArray 30) :: .obj g2 (.cells (t.d.cells t.ts.length).toArray 30) :: [])) (by kernel_rfl) ?_)))
        replace M := M.drew
        refine atk (v := pA g2 9) A 0 rfl hP (M.sub (cc (cc ns))) (λ_ M↦qe qje rfl rfl) λa A↦?_
        refine atk A 1 rfl hP (M.sub (cc (cc ns))) (λ_ M↦zj M qlh rfl 1 rfl rfl) λa A↦?_
        refine atk A 2 rfl hP (M.sub (cc (cc ns))) (λ_ M↦qn rfl) λa A↦?_
        obtain ⟨bt, ot, ht1, ht2, ht3⟩ := zfd (i := i) (Dt.okT ht).1.raw (by omega)
        refine atk (v := pA bt (ot + i)) A 3 rfl hP (M.sub (cc (cc ns))) (λ_ M↦zx (k := i) Tryz.underlying27 (by kernel_rfl) rfl rfl rfl ht1 (by omega)) λa A↦?_
        refine atk A 4 rfl hP (M.sub (cc (cc ns))) (λ_ M↦zdd M ht2 (ht3 i (by omega)) o95 rfl) λa A↦?_
        refine atk (v := pA g4 9) A 5 rfl hP (M.sub (cc (cc ns))) (λ_ M↦qe qje rfl rfl) λa A↦?_
        refine atk A 6 rfl hP (M.sub (cc (cc ns))) (λ_ M↦zj M qlh rfl 0 rfl rfl) λa A↦?_
        refine atk A 7 rfl hP (M.sub (cc (cc ns))) (λ_ M↦qn rfl) λa A↦?_
        obtain ⟨bu, ou, hu1, hu2, hu3⟩ := zfd (i := i) (Dt.okT hu).1.raw (by omega)
        refine atk (v := pA bu (ou + i)) A 8 rfl hP (M.sub (cc (cc ns))) (λ_ M↦zx (k := i) Tryz.underlying27 (by kernel_rfl) rfl rfl rfl hu1 (by omega)) λa A↦?_
        refine atk A 9 rfl hP (M.sub (cc (cc ns))) (λ_ M↦zdd M hu2 (hu3 i (by omega)) o95 rfl) λa A↦?_
        rcases tf (((((t.d.rl.getD i 0).toNat : Nat) : Int) != (((u.d.rl.getD i 0).toNat : Nat) : Int))) with hb30 | hb30
        ·
         have hb30' := bne_iff_ne.1 hb30
         refine atk (v := bV true) A 10 rfl hP (M.sub (cc (cc ns))) (λ_ M↦qb rfl rfl (fun w => (zn w).trans (by rw [hb30]))) λa A↦?_
         refine zq (by kernel_rfl) ?_
         refine hK29 _ _ (ct A ?_)
         refine wsk fun K31 hK31 => wrl (sda A λa A↦?_)
         refine qa (hK31 _ _ (wr1 hret A ?_))
         exact ⟨by rw [un (.inr (.inr (.inr (.inl (jdc hb30')))))], M.bel⟩
        ·
         have hb30' := bne_eq_false_iff_eq.1 hb30
         refine atk (v := bV false) A 10 rfl hP (M.sub (cc (cc ns))) (λ_ M↦qb rfl rfl (fun w => (zn w).trans (by rw [hb30]))) λa A↦?_
         refine zq (by kernel_rfl) ?_
         refine hK29 _ _ (cf A ?_)
         refine wp_skip (hK28 _ _ (wrl (sdm A λa A↦?_)))
         refine sdo (v := iV (((i + 1 : Nat) : Int))) A (qb rfl rfl (fun w => (ye (ux (by omega) (by omega)) w).trans (by rw [show (((i : Nat) : Int) + 1 : Int) = ((i + 1 : Nat) : Int) from by omega]))) λa A↦?_
         refine sda A λa A↦?_
         refine qa ?_
         refine hK23 _ _ _ (by omega) ⟨i + 1, rfl, ⟨by omega, fun j hj => if h9 : j < i then hin8 j h9 else by have h8 : j = i := (by omega); subst h8; exact jdd hb30'⟩, A.keep _ (by repeat' constructor), M⟩
       ·
        have hb27' := of_decide_eq_false hb27
        refine sdc A jb hb27 λa A↦?_
        refine qa (hK26 _ _ (cf A ?_))
        refine wp_exit (hK20 _ _ (wsk fun K32 hK32 => wsk fun K33 hK33 => wrl (sda A λa A↦?_)))
        refine qa (hK33 _ _ (wp_block ?_))
        have hrl : t.d.rl = u.d.rl := zih (by omega) (fun j hj => hin8 j (by omega))
        have hsy := zqc hb8' hb10' hb12' hrl (by omega) hb17
        refine zy (fun m_ a w1 => ∃ (j : Nat), m_ = 1 + (t.ts.length - j) ∧ (j ≤ t.ts.length ∧ ko (t.ts.map Dt.tr) (u.ts.map Dt.tr) = ko ((t.ts.map Dt.tr).drop j) ((u.ts.map Dt.tr).drop j)) ∧ Sl a 89 [(0, .agg (t.d.cells t.ts.length).toArray), (1, .agg (u.d.cells u.ts.length).toArray), (2, pA g2 0), (3, pA g4 0), (5, iV (((i : Nat) : Int))), (6, iV (((j : Nat) : Int))), (7, pA g2 0), (8, iV t.d.k), (9, pA g4 0), (10, iV u.d.k), (11, bV false), (12, bV false), (13, pA g2 1), (14, iV t.d.n), (15, pA g4 1), (16, iV u.d.n), (17, bV false), (18, bV false), (19, bV false), (20, pA g2 8), (21, .string t.d.s), (22, pA g4 8), (23, .string u.d.s), (24, bV false), (25, bV false), (26, bV false), (27, pA g2 9), (28, .slice t.d.ro t.d.rl.length t.d.rc), (29, iV (((t.d.rl.length : Nat) : Int))), (30, pA g4 9), (31, .slice u.d.ro u.d.rl.length u.d.rc), (32, iV (((u.d.rl.length : Nat) : Int))), (33, bV false), (34, bV false), (35, bV false), (36, pA g2 10), (37, .slice t.d.lo t.ts.length t.d.lc), (38, iV (((t.ts.length : Nat) : Int))), (39, pA g4 10), (40, .slice u.d.lo u.ts.length u.d.lc), (41, iV (((u.ts.length : Nat) : Int))), (42, bV false), (43, bV false), (44, bV false), (45, pA g2 2), (46, .agg #[bV t.d.y.q.b1, .slice t.d.y.o1 t.d.y.q.t1.length t.d.y.c1, .slice t.d.y.o2 t.d.y.q.q1.length t.d.y.c2, bV t.d.y.q.b2, .slice t.d.y.o3 t.d.y.q.t2.length t.d.y.c3, .slice t.d.y.o4 t.d.y.q.q2.length t.d.y.c4]), (47, pA g4 2), (48, .agg #[bV u.d.y.q.b1, .slice u.d.y.o1 u.d.y.q.t1.length u.d.y.c1, .slice u.d.y.o2 u.d.y.q.q1.length u.d.y.c2, bV u.d.y.q.b2, .slice u.d.y.o3 u.d.y.q.t2.length u.d.y.c3, .slice u.d.y.o4 u.d.y.q.q2.length u.d.y.c4]), (49, bV true), (50, bV false), (51, bV false), (52, iV (((i : Nat) : Int))), (53, pA g2 9), (54, .slice t.d.ro t.d.rl.length t.d.rc), (55, iV (((t.d.rl.length : Nat) : Int))), (56, bV false)] ∧ Mg w w1 (.obj g4 (.cells (u.d.cells u.ts.length).toArray 30) :: .obj g2 (.cells (t.d.cells t.ts.length).toArray 30) :: [])) _ ⟨0, rfl, ⟨Nat.zero_le _, rfl⟩, A.keep _ (by repeat' constructor), M⟩ ?_
        clear M A
        rintro m_ a w34 ⟨j, rfl, hinv36, A, M⟩ K35 hK35
        obtain ⟨hi1, hin9⟩ := hinv36
        refine wsk fun K37 hK37 => wsk fun K38 hK38 => wrl (sdm A λa A↦?_)
        refine sdo (v := pA g2 10) A (qe kl rfl rfl) λa A↦?_
        refine sdo A (zj M qhc rfl 1 rfl rfl) λa A↦?_
        refine sdo A (zl Tryz.underlying28 rfl) λa A↦?_
        rcases tf (decide (((j : Nat) : Int) < ((t.ts.length : Nat) : Int))) with hb39 | hb39
        ·
         have hb39' := of_decide_eq_true hb39
         refine sdc A jb hb39 λa A↦?_
         refine qa (hK38 _ _ (ct A ?_))
         refine wp_skip (hK37 _ _ (wsk fun K40 hK40 => wp_block (wsk fun K41 hK41 => ?_)))
         obtain ⟨t1, bt1, ot1, it1, mt1, rt1_, lt1, Ht1⟩ := zsc ht (i := j) (by omega)
         obtain ⟨u1, bu1, ou1, iu1, mu1, ru1_, lu1, Hu1⟩ := zsc hu (i := j) (by omega)
         refine jg (S := fun w1 => Mg w w1 (.obj g4 (.cells (u.d.cells u.ts.length).toArray 30) :: .obj g2 (.cells (t.d.cells t.ts.length).toArray 30) :: [])) (by kernel_rfl) ?_
         replace M := M.drew
         refine atk (v := pA g2 10) A 0 rfl hP (M.sub (cc (cc ns))) (λ_ M↦qe kl rfl rfl) λa A↦?_
         refine atk A 1 rfl hP (M.sub (cc (cc ns))) (λ_ M↦zj M qhc rfl 1 rfl rfl) λa A↦?_
         refine atk A 2 rfl hP (M.sub (cc (cc ns))) (λ_ M↦qn rfl) λa A↦?_
         refine atk (v := pA bt1 (ot1 + j * 11)) A 3 rfl hP (M.sub (cc (cc ns))) (λ_ M↦jv (k := j) Tryz.underlying28 (by kernel_rfl) rfl rfl rfl lt1 (by omega)) λa A↦?_
         refine atk A 4 rfl hP (M.sub (cc (cc ns))) (λ_ M↦qsb M Ht1 xu rfl rfl) λa A↦?_
         refine atk (v := pA g4 10) A 5 rfl hP (M.sub (cc (cc ns))) (λ_ M↦qe kl rfl rfl) λa A↦?_
         refine atk A 6 rfl hP (M.sub (cc (cc ns))) (λ_ M↦zj M qhc rfl 0 rfl rfl) λa A↦?_
         refine atk A 7 rfl hP (M.sub (cc (cc ns))) (λ_ M↦qn rfl) λa A↦?_
         refine atk (v := pA bu1 (ou1 + j * 11)) A 8 rfl hP (M.sub (cc (cc ns))) (λ_ M↦jv (k := j) Tryz.underlying28 (by kernel_rfl) rfl rfl rfl lu1 (by omega)) λa A↦?_
         refine atk A 9 rfl hP (M.sub (cc (cc ns))) (λ_ M↦qsb M Hu1 xu rfl rfl) λa A↦?_
         rcases tf (yz t1.tr u1.tr) with hb42 | hb42
         ·
          refine zi (by kernel_rfl) (jp A 10 rfl rfl rfl rfl (ef rfl rfl) ((hb42 ▸ ih (by have := zvh mt1; omega) (Dt.keep M.bel _ rt1_) (Dt.keep M.bel _ ru1_))) ?_)
          rintro _ w44 ⟨rfl, hb43⟩
          replace M := M.call hb43
          refine ⟨_, rfl, (M.sub (cc (cc ns))), ?_⟩
          intro a A
          refine atk (v := bV false) A 11 rfl hP (M.sub (cc (cc ns))) (λ_ M↦za rfl zk) λa A↦?_
          refine zq (by kernel_rfl) ?_
          refine hK41 _ _ (cf A ?_)
          refine wp_skip (hK40 _ _ (wrl (sdm A λa A↦?_)))
          refine sdo (v := iV (((j + 1 : Nat) : Int))) A (qb rfl rfl (fun w => (ye (ux (by omega) (by omega)) w).trans (by rw [show (((j : Nat) : Int) + 1 : Int) = ((j + 1 : Nat) : Int) from by omega]))) λa A↦?_
          refine sda A λa A↦?_
          refine qa ?_
          refine hK35 _ _ _ (by omega) ⟨j + 1, rfl, ⟨by omega, by rw [hin9, qwd it1 iu1, hb42, Bool.true_and]⟩, A.keep _ (by repeat' constructor), M⟩
         ·
          refine zi (by kernel_rfl) (jp A 10 rfl rfl rfl rfl (ef rfl rfl) ((hb42 ▸ ih (by have := zvh mt1; omega) (Dt.keep M.bel _ rt1_) (Dt.keep M.bel _ ru1_))) ?_)
          rintro _ w46 ⟨rfl, hb45⟩
          replace M := M.call hb45
          refine ⟨_, rfl, (M.sub (cc (cc ns))), ?_⟩
          intro a A
          refine atk (v := bV true) A 11 rfl hP (M.sub (cc (cc ns))) (λ_ M↦za rfl zk) λa A↦?_
          refine zq (by kernel_rfl) ?_
          refine hK41 _ _ (ct A ?_)
          refine wsk fun K47 hK47 => wrl (sda A λa A↦?_)
          refine qa (hK47 _ _ (wr1 hret A ?_))
          exact ⟨by rw [hsy, hin9, qwd it1 iu1, hb42]; rfl, M.bel⟩
        ·
         have hb39' := of_decide_eq_false hb39
         refine sdc A jb hb39 λa A↦?_
         refine qa (hK38 _ _ (cf A ?_))
         refine wp_exit (hK32 _ _ (wsk fun K48 hK48 => wrl (sda A λa A↦?_)))
         refine qa (hK48 _ _ (wr1 hret A ?_))
         exact ⟨by rw [hsy, hin9, zig (by omega)], M.bel⟩
      ·
       refine gcl A M (ef rfl rfl) (qld (Dt.keep M.bel _ ht) (Dt.keep M.bel _ hu) hb17) fun w50 hb49 M a A => ?_
       refine sdo (v := bV true) A (za rfl zk) λa A↦?_
       refine sdk (v := bV true) A λa A↦?_
       refine qa (hK7 _ _ (ct A ?_))
       refine wsk fun K51 hK51 => wrl (sda A λa A↦?_)
       refine qa (hK51 _ _ (wr1 hret A ?_))
       exact ⟨by rw [un (.inr (.inr (.inr (.inr (.inr hb17)))))], M.bel⟩
   ·
    have hb12' := of_decide_eq_false hb12
    refine sdo (v := bV true) A (qb rfl rfl (fun w => (qsa Tryz.underlying9 w).trans (by rw [hb12] <;> rfl))) λa A↦?_
    refine sdk (v := bV true) A λa A↦?_
    refine sdm A λa A↦?_
    iterate 7 refine qi A rfl rfl rfl λa A↦?_
    refine sdk (v := bV true) A λa A↦?_
    refine sdm A λa A↦?_
    iterate 7 refine qi A rfl rfl rfl λa A↦?_
    refine sdk (v := bV true) A λa A↦?_
    refine sdm A λa A↦?_
    iterate 6 refine qi A rfl rfl rfl λa A↦?_
    refine sdk (v := bV true) A λa A↦?_
    refine qa (hK7 _ _ (ct A ?_))
    refine wsk fun K52 hK52 => wrl (sda A λa A↦?_)
    refine qa (hK52 _ _ (wr1 hret A ?_))
    exact ⟨by rw [un (.inr (.inr (.inl hb12')))], M.bel⟩
theorem qle : ∀ n, RSames n
 | 0 => fun h => absurd h (Nat.not_lt_zero _)
 | n + 1 => qwf (qle n)
theorem zqd {w : World} {t u : Dt} {b : Bool} (ht : t.rd w) (hu : u.rd w) (h : yz t.tr u.tr = b) : Calls Tryz.prog 12 #[.agg (t.d.cells t.ts.length).toArray, .agg (u.d.cells u.ts.length).toArray] w fun e w' => e = .returned (bV b) ∧ Below w.heap.size w w' := h ▸ qle (t.tr.bulk + 1) (Nat.lt_succ_self _) ht hu
section
variable {P : Program} {md : Region.Mode} {ops : List Oper} {Q : Exit → Act → World → Prop} {S : World → Prop} {fuel : Nat} {listed : Array Bool} {a : Act} {w w' : World} {n : Nat} {l : List (Nat × Value)} {o : Oper} {v : Value}
theorem uq (A : Sl a n l) (i : Nat) (hi : ops[i]? = some o) (hg : ut l ops o = true) {d : Nat} (hdst : o.dst = some d) (hd : Nat.blt d n = true) (hP : ∀ c a d v w, Q (.panic c) (Act.put a d v) w → Q (.panic c) a w) (V : S w)
  (hk : ∀ a', Sl a' n ((d, undef) :: l) → wpAnyH P md ops.toArray Q S fuel (listed.setIfInBounds i true) a' w) (hs : Region.noSelect ops.toArray = true := by kernel_rfl) (hf : Region.free md ops.toArray listed i = true := by kernel_rfl) (hr : (Region.ready md ops.toArray listed).contains i = true := by kernel_rfl) : wpAnyH P md ops.toArray Q S (fuel + 1) listed a w :=
 by
 refine wpAnyH_take (i := i) (oi := o) (v := undef) (by simpa using hi) hs hf hr (fun c a w h => hP c a _ _ w h) (Or.inr ⟨A.unwantedU hg, rfl⟩) V ?_
 rw [hdst]
 exact hk _ (A.put hd undef)
end
theorem IR.here {e : TypeId} {so : Option Addr} {ca : Nat} {ts : List Dt} {U : List Ck} (h : IR e so ca ts U) (hne : ts ≠ []) : ∃ g, so = some ⟨g, 0, none⟩ ∧ ∀ {w0 w : World} {L : List Ck}, Mg w0 w L → (∀ c ∈ U, c ∈ L) → ∀ {i : Nat} {t : Dt}, ts[i]? = some t → Here w g (0 + i * 11) t.cells := by
 rcases h with ⟨_, _, k, _⟩ | ⟨g, cur, rfl, rfl, h1, h2, h3, h4, h5⟩
 ·
  exact absurd k hne
 ·
  refine ⟨g, rfl, fun {w0 w L} M hs {i t} hi => ?_⟩
  obtain ⟨b, o, e1, h6⟩ := IR.rt (.inr ⟨g, cur, rfl, rfl, h1, h2, h3, h4, h5⟩) M hs hne
  cases e1
  exact h6 i t hi
theorem zii {w : World} {L : List UInt8} (hN : Env w) (hl : L.length ≤ 140737488355328) : Calls Tryz.prog 4 #[.string (tx L)] w fun e w' => e = .returned (bV true) ∧ Below w.heap.size w w' := by
 have M : Mg w w ([]) := Mg.start w
 refine qs (l := [(0, .string ((tx L)))]) Tryz.func4 rfl Tryz.ntmps4 rfl rfl ?_
 intro Q hret hnorm hP a A
 refine wsk fun K1 hK1 => wrl (sda A λa A↦?_)
 refine qa (hK1 _ _ (wsk fun K2 hK2 => wrl (sdm A λa A↦?_)))
 refine sct A (ef rfl rfl) (zvb (U := []) (Z := []) hN Cu.nil Ob.nil (by omega) M) ?_
 rintro _ w3 ⟨so, ca, ts, U1, F, an, er, rfl, ⟨hal, hal2⟩, ⟨hI, hts0, hO⟩, hM1⟩
 have hts : ∀ t ∈ ts, Lv w F t := fun t ht => by have h := hts0 t ht; rw [List.append_nil] at h; exact h
 rw [List.append_nil, List.append_nil] at hM1
 replace M : Mg w w3 ((U1 ++ F)) := hM1
 refine ⟨_, rfl, ?_⟩
 intro a A
 refine sdm A λa A↦?_
 iterate 3 refine sdo A (qh (vs := [.slice so ts.length ca, iV (((an : Nat) : Int)), iV er]) rfl rfl) λa A↦?_
 iterate 3 refine sda A λa A↦?_
 refine qa (hK2 _ _ (wsk fun K4 hK4 => wrl (sda A λa A↦?_)))
 refine qa (hK4 _ _ (wsk fun K5 hK5 => wsk fun K6 hK6 => wrl (sda A λa A↦?_)))
 refine qa (hK6 _ _ (wp_block (zy (fun m_ a w1 => ∃ (q : Nat) (i : Nat) (f : Nat) (acc : List Tr), m_ = 1 + (L.length - q) ∧ (q ≤ L.length ∧ i ≤ q ∧ L.length - q < f ∧ acc.length = i ∧ alX f L q acc = (ts.map Dt.tr, an, er)) ∧ Sl a 108 [(0, .string ((tx L))), (3, .slice so ts.length ca), (4, iV (((an : Nat) : Int))), (5, iV er), (6, iV (((q : Nat) : Int))), (7, iV (((i : Nat) : Int))), (12, .tuple #[.slice so ts.length ca, iV (((an : Nat) : Int)), iV er]), (13, .string ((tx L))), (14, .tuple #[.slice so ts.length ca, iV (((an : Nat) : Int)), iV er]), (15, .slice so ts.length ca), (16, iV (((an : Nat) : Int))), (17, iV er)] ∧ Mg w w1 ((U1 ++ F))) _ ⟨0, 0, L.length + 1, [], rfl, ⟨Nat.zero_le _, Nat.le_refl _, by omega, rfl, hal⟩, A.keep _ (by repeat' constructor), M⟩ ?_)))
 clear M A
 rintro m_ a w7 ⟨q, i, f, acc, rfl, hinv9, A, M⟩ K8 hK8
 obtain ⟨hq0, hiq, hf0, hac, hi⟩ := hinv9
 obtain ⟨f, rfl⟩ : ∃ f1, f = f1 + 1 := ⟨f - 1, by omega⟩
 refine wsk fun K10 hK10 => wsk fun K11 hK11 => wrl (sct A (ef rfl rfl) (zie (hN.below M.bel)) ?_)
 rintro _ w13 ⟨rfl, hb12⟩
 replace M := M.call hb12
 refine ⟨_, rfl, ?_⟩
 intro a A
 iterate 3 refine sdm A λa A↦?_
 refine sdo (v := iV (((L.length : Nat) : Int))) A (jy (s := L) Tryz.underlying9 rfl) λa A↦?_
 refine sdo (v := bV true) A (qb rfl rfl (fun w => (ji w).trans (by rw [show (decide (((i : Nat) : Int) ≤ ((L.length : Nat) : Int))) = true from (decide_eq_true (by omega))]))) λa A↦?_
 refine sdk (v := bV true) A λa A↦?_
 refine qa (hK11 _ _ (ct A ?_))
 refine wp_skip (hK10 _ _ (wsk fun K14 hK14 => wp_block (wsk fun K15 hK15 => wrl ?_)))
 iterate 2 refine sdm A λa A↦?_
 refine sdo (v := .string ((tx (L.drop q)))) A (xg (s := L) (p := q) Tryz.underlying9 rfl rfl rfl (by omega)) λa A↦?_
 obtain ⟨e1, n1, T1, hr1⟩ : ∃ e n t, rdX (L.drop q) = (e, n, t) := ⟨_, _, _, rfl⟩
 refine sct A (ef rfl rfl) ((by have h := read_any (L := L.drop q) (U := (U1)) (Z := F) hN hI.cu hO (by rw [List.length_drop]; omega) M; rw [hr1] at h; exact h)) ?_
 rintro _ w16 ⟨t1, F1, rfl, ⟨htr0, hle0⟩, ⟨hL1, hO1⟩, hM1⟩
 have htr1 : t1.tr = T1 := htr0
 have hle1 : e1 = 0 → 1 ≤ n1 ∧ n1 ≤ L.length - q := fun k => by have h := hle0 k; rw [List.length_drop] at h; exact h
 have hE11 : e1 = 11 → er = 0 ∧ ts.length = i := fun k => by
  have h := hi
  rw [zpf (by rw [hr1, k])] at h
  injection h with h1 h2
  injection h2 with h2 h3
  exact ⟨h3.symm, by rw [← hac, h1, List.length_map]⟩
 have hEx : e1 ≠ 0 → e1 ≠ 11 → ts.length = 0 ∧ an = q ∧ er = e1 := fun k k2 => by
  have h := hi
  rw [zph hr1 k k2] at h
  injection h with h1 h2
  injection h2 with h2 h3
  exact ⟨by rw [← List.length_map (f := Dt.tr), ← h1]; rfl, h2.symm, h3.symm⟩
 have hE0 : e1 = 0 → alX f L (q + n1) (acc ++ [T1]) = (ts.map Dt.tr, an, er) := fun k => by rw [← hi, zwb (by rw [hr1, k])]
 have hPq : e1 = 0 → er = 0 → ∃ ti, ts[i]? = some ti ∧ ti.tr = T1 := fun k k2 => by
  have h := hE0 k
  rw [k2] at h
  obtain ⟨z, hz⟩ := zpg _ _ _ _ _ h
  have h9 : (ts.map Dt.tr)[i]? = some T1 := by rw [← hz, ← hac, List.append_assoc, List.getElem?_append_right (Nat.le_refl _), Nat.sub_self]; rfl
  rw [List.getElem?_map] at h9
  exact Option.map_eq_some_iff.1 h9
 replace M : Mg w w16 ((U1 ++ (F1 ++ F))) := hM1
 refine ⟨_, rfl, ?_⟩
 intro a A
 refine sdm A λa A↦?_
 iterate 3 refine sdo A (qh (vs := [.agg (t1.d.cells t1.ts.length).toArray, iV (((n1 : Nat) : Int)), iV e1]) rfl rfl) λa A↦?_
 refine vq (vs := zD) (t := 30) A M rfl rfl rfl pg (ql (z := .agg zD.toArray) (by kernel_rfl) rfl) (by decide) ?_
 intro g17 w18 M a A
 refine zh (L' := (.obj g17 (.cells (t1.d.cells t1.ts.length).toArray 30) :: (U1 ++ (F1 ++ F)))) A M rfl rfl (qy rfl rfl rfl (by kernel_rfl) M 0 rfl rfl rfl) 0 rfl rfl rfl ?_
 intro w19 M
 iterate 2 refine sda A λa A↦?_
 refine qa (hK15 _ _ (wsk fun K20 hK20 => wsk fun K21 hK21 => wrl (sdm A λa A↦?_)))
 rcases tf ((e1 != 0)) with hb22 | hb22
 ·
  have hb22' := bne_iff_ne.1 hb22
  refine sdc A zn hb22 λa A↦?_
  refine qa (hK21 _ _ (ct A ?_))
  refine wsk fun K23 hK23 => wrl (sdm A λa A↦?_)
  rcases tf ((e1 == 11)) with hb24 | hb24
  ·
   have hb24' := eq_of_beq hb24
   refine sdc A qj hb24 λa A↦?_
   iterate 2 refine sdm A λa A↦?_
   refine sdo (v := bV true) A (qb rfl rfl (fun w => (qj w).trans (by rw [show ((er == 0)) = true from (beq_iff_eq.2 (hE11 (eq_of_beq hb24)).1)]))) λa A↦?_
   refine sdk (v := bV true) A λa A↦?_
   iterate 3 refine sdm A λa A↦?_
   refine sdo A (zl Tryz.underlying28 rfl) λa A↦?_
   refine sdo (v := bV true) A (qb rfl rfl (fun w => (qj w).trans (by rw [show ((((i : Nat) : Int) == ((ts.length : Nat) : Int))) = true from (beq_iff_eq.2 (by have h9 := (hE11 (eq_of_beq hb24)).2; omega))]))) λa A↦?_
   refine sdk (v := bV true) A λa A↦?_
   refine sda A λa A↦?_
   refine qa (hK23 _ _ (wsk fun K25 hK25 => wrl ?_))
   iterate 2 refine sdm A λa A↦?_
   iterate 4 refine qi A rfl rfl rfl λa A↦?_
   iterate 7 refine va A rfl rfl rfl λa A↦?_
   iterate 2 refine qi A rfl rfl rfl λa A↦?_
   iterate 3 refine va A rfl rfl rfl λa A↦?_
   refine qi A rfl rfl rfl λa A↦?_
   refine sdk (v := bV true) A λa A↦?_
   refine sda A λa A↦?_
   refine qa (hK25 _ _ (wr1 hret A ?_))
   exact ⟨rfl, M.bel⟩
  ·
   have hb24' := ne_of_beq_false hb24
   refine sdc A qj hb24 λa A↦?_
   refine sdm A λa A↦?_
   iterate 2 refine qi A rfl rfl rfl λa A↦?_
   refine sdk (v := bV false) A λa A↦?_
   refine sdm A λa A↦?_
   iterate 4 refine qi A rfl rfl rfl λa A↦?_
   refine sdk (v := bV false) A λa A↦?_
   refine sda A λa A↦?_
   refine qa (hK23 _ _ (wsk fun K26 hK26 => wrl ?_))
   iterate 4 refine sdm A λa A↦?_
   refine sdo (v := bV true) A (qb rfl rfl (fun w => (qj w).trans (by rw [show ((e1 == er)) = true from (beq_iff_eq.2 (hEx (bne_iff_ne.1 hb22) (ne_of_beq_false hb24)).2.2.symm)]))) λa A↦?_
   iterate 2 refine sdm A λa A↦?_
   rcases tf ((e1 == 18)) with hb27 | hb27
   ·
    have hb27' := eq_of_beq hb27
    refine sdc A qj hb27 λa A↦?_
    refine sdm A λa A↦?_
    iterate 3 refine qi A rfl rfl rfl λa A↦?_
    iterate 2 refine sdk (v := bV true) A λa A↦?_
    iterate 2 refine sdm A λa A↦?_
    refine sdo A (zl Tryz.underlying28 rfl) λa A↦?_
    refine sdo (v := bV true) A (qb rfl rfl (fun w => (qj w).trans (by rw [show ((((ts.length : Nat) : Int) == 0)) = true from (beq_iff_eq.2 (by have h9 := (hEx (bne_iff_ne.1 hb22) (ne_of_beq_false hb24)).1; omega))]))) λa A↦?_
    iterate 2 refine sdk (v := bV true) A λa A↦?_
    refine sda A λa A↦?_
    refine qa (hK26 _ _ (wr1 hret A ?_))
    exact ⟨rfl, M.bel⟩
   ·
    have hb27' := ne_of_beq_false hb27
    refine sdc A qj hb27 λa A↦?_
    iterate 3 refine sdm A λa A↦?_
    refine sdo (v := bV true) A (qb rfl rfl (fun w => (qj w).trans (by rw [show ((((q : Nat) : Int) == ((an : Nat) : Int))) = true from (beq_iff_eq.2 (by have h9 := (hEx (bne_iff_ne.1 hb22) (ne_of_beq_false hb24)).2.1; omega))]))) λa A↦?_
    iterate 2 refine sdk (v := bV true) A λa A↦?_
    iterate 2 refine sdm A λa A↦?_
    refine sdo A (zl Tryz.underlying28 rfl) λa A↦?_
    refine sdo (v := bV true) A (qb rfl rfl (fun w => (qj w).trans (by rw [show ((((ts.length : Nat) : Int) == 0)) = true from (beq_iff_eq.2 (by have h9 := (hEx (bne_iff_ne.1 hb22) (ne_of_beq_false hb24)).1; omega))]))) λa A↦?_
    iterate 2 refine sdk (v := bV true) A λa A↦?_
    refine sda A λa A↦?_
    refine qa (hK26 _ _ (wr1 hret A ?_))
    exact ⟨rfl, M.bel⟩
 ·
  have hb22' := bne_eq_false_iff_eq.1 hb22
  refine sdc A zn hb22 λa A↦?_
  refine qa (hK21 _ _ (cf A ?_))
  refine wp_skip (hK20 _ _ (wsk fun K28 hK28 => wsk fun K29 hK29 => jg (S := fun w1 => Mg w w1 (.obj g17 (.cells (t1.d.cells t1.ts.length).toArray 30) :: (U1 ++ (F1 ++ F)))) (by kernel_rfl) ?_))
  replace M := M.drew
  refine atk A 0 rfl hP (M.sub (cc (List.Sublist.refl _))) (λ_ M↦qn rfl) λa A↦?_
  refine atk (v := bV false) A 1 rfl hP (M.sub (cc (List.Sublist.refl _))) (λ_ M↦qb rfl rfl (fun w => (jb w).trans (by rw [show (decide (((n1 : Nat) : Int) < 1)) = false from (decide_eq_false (by have h9 := hle1 (by simpa using hb22); omega))]))) λa A↦?_
  refine atk A 2 rfl hP (M.sub (cc (List.Sublist.refl _))) (λ_ M↦qn rfl) λa A↦?_
  refine atk A 3 rfl hP (M.sub (cc (List.Sublist.refl _))) (λ_ M↦qn rfl) λa A↦?_
  refine atk A 4 rfl hP (M.sub (cc (List.Sublist.refl _))) (λ_ M↦qn rfl) λa A↦?_
  refine atk (v := iV (((L.length : Nat) : Int))) A 5 rfl hP (M.sub (cc (List.Sublist.refl _))) (λ_ M↦jy (s := L) Tryz.underlying9 rfl) λa A↦?_
  refine atk A 6 rfl hP (M.sub (cc (List.Sublist.refl _))) (λ_ M↦qn rfl) λa A↦?_
  refine atk (v := iV (((L.length - q : Nat) : Int))) A 7 rfl hP (M.sub (cc (List.Sublist.refl _))) (λ_ M↦qb rfl rfl (ar_sub ((in_i64 (by omega) (by omega)).trans (by omega)))) λa A↦?_
  refine atk (v := bV false) A 8 rfl hP (M.sub (cc (List.Sublist.refl _))) (λ_ M↦qb rfl rfl (fun w => (zv w).trans (by rw [show (decide (((L.length - q : Nat) : Int) < ((n1 : Nat) : Int))) = false from (decide_eq_false (by have h9 := hle1 (by simpa using hb22); omega))]))) λa A↦?_
  refine atk (v := bV false) A 9 rfl hP (M.sub (cc (List.Sublist.refl _))) (λ_ M↦zs rfl rfl rfl rfl) λa A↦?_
  refine atk A 10 rfl hP (M.sub (cc (List.Sublist.refl _))) (λ_ M↦qn rfl) λa A↦?_
  refine atk A 11 rfl hP (M.sub (cc (List.Sublist.refl _))) (λ_ M↦qn rfl) λa A↦?_
  rcases tf ((er == 0)) with hb30 | hb30
  ·
   have hb30' := eq_of_beq hb30
   refine atk (v := bV true) A 12 rfl hP (M.sub (cc (List.Sublist.refl _))) (λ_ M↦qb rfl rfl (fun w => (qj w).trans (by rw [hb30]))) λa A↦?_
   refine atk A 13 rfl hP (M.sub (cc (List.Sublist.refl _))) (λ_ M↦qn rfl) λa A↦?_
   refine atk A 14 rfl hP (M.sub (cc (List.Sublist.refl _))) (λ_ M↦qn rfl) λa A↦?_
   refine atk A 15 rfl hP (M.sub (cc (List.Sublist.refl _))) (λ_ M↦qn rfl) λa A↦?_
   refine atk (v := iV (((ts.length : Nat) : Int))) A 16 rfl hP (M.sub (cc (List.Sublist.refl _))) (λ_ M↦zl Tryz.underlying28 rfl) λa A↦?_
   refine atk (v := bV false) A 17 rfl hP (M.sub (cc (List.Sublist.refl _))) (λ_ M↦qb rfl rfl (fun w => (je w).trans (by rw [show (decide (((ts.length : Nat) : Int) ≤ ((i : Nat) : Int))) = false from (decide_eq_false (by obtain ⟨ti, h9, _⟩ := hPq (by simpa using hb22) (eq_of_beq hb30); have := (List.getElem?_eq_some_iff.1 h9).1; omega))]))) ?_
   intro a A
   refine atk A 18 rfl hP (M.sub (cc (List.Sublist.refl _))) (λ_ M↦qn rfl) λa A↦?_
   refine atk A 19 rfl hP (M.sub (cc (List.Sublist.refl _))) (λ_ M↦vb M xu rfl 0 rfl (cs := [iV t1.d.k, iV t1.d.n, bV t1.d.y.q.b1, .slice t1.d.y.o1 t1.d.y.q.t1.length t1.d.y.c1, .slice t1.d.y.o2 t1.d.y.q.q1.length t1.d.y.c2, bV t1.d.y.q.b2, .slice t1.d.y.o3 t1.d.y.q.t2.length t1.d.y.c3, .slice t1.d.y.o4 t1.d.y.q.q2.length t1.d.y.c4, .string t1.d.s, .slice t1.d.ro t1.d.rl.length t1.d.rc, .slice t1.d.lo t1.ts.length t1.d.lc]) rfl rfl) λa A↦?_
   refine atk A 20 rfl hP (M.sub (cc (List.Sublist.refl _))) (λ_ M↦qn rfl) λa A↦?_
   refine atk A 21 rfl hP (M.sub (cc (List.Sublist.refl _))) (λ_ M↦qn rfl) λa A↦?_
   obtain ⟨ti, hti, htt⟩ := hPq (by simpa using hb22) (eq_of_beq hb30)
   obtain ⟨g9, hg9, hHere⟩ := hI.here (fun k => by rw [k] at hti; cases hti)
   refine atk (v := pA g9 (0 + i * 11)) A 22 rfl hP (M.sub (cc (List.Sublist.refl _))) (λ_ M↦jv (k := i) Tryz.underlying28 (by kernel_rfl) rfl rfl rfl hg9 ((List.getElem?_eq_some_iff.1 hti).1)) ?_
   intro a A
   refine atk A 23 rfl hP (M.sub (cc (List.Sublist.refl _))) (λ_ M↦jl rfl (xm xu _ rfl (fun j v hj => (hHere M (fun c hc => List.mem_cons_of_mem _ (List.mem_append_left _ hc)) hti).2 j v hj))) λa A↦?_
   refine zi (by kernel_rfl) (jp A 24 rfl rfl rfl rfl (ef rfl rfl) (zqd (hL1 _ (M.sub (cn (List.sublist_append_right _ _)))) ((hts ti (List.mem_of_getElem? hti)).app F1 _ (M.sub (cn (List.sublist_append_right _ _)))) ((zqb _ _).2 (htr1.trans htt.symm))) ?_)
   rintro _ w32 ⟨rfl, hb31⟩
   replace M := M.call hb31
   refine ⟨_, rfl, (M.sub (cc (List.Sublist.refl _))), ?_⟩
   intro a A
   refine atk (v := bV false) A 25 rfl hP (M.sub (cc (List.Sublist.refl _))) (λ_ M↦za rfl zk) λa A↦?_
   refine atk (v := bV false) A 26 rfl hP (M.sub (cc (List.Sublist.refl _))) (λ_ M↦zs rfl rfl rfl rfl) λa A↦?_
   refine atk (v := bV false) A 27 rfl hP (M.sub (cc (List.Sublist.refl _))) (λ_ M↦zs rfl rfl rfl rfl) λa A↦?_
   refine atk (v := bV false) A 28 rfl hP (M.sub (cc (List.Sublist.refl _))) (λ_ M↦zs rfl rfl rfl rfl) λa A↦?_
   refine zq (by kernel_rfl) ?_
   refine hK29 _ _ (cf A ?_)
   refine wp_skip (hK28 _ _ (wrl ?_))
   iterate 2 refine sdm A λa A↦?_
   have hnx := hle1 (by simpa using hb22)
   refine sdo (v := iV (((q + n1 : Nat) : Int))) A (qb rfl rfl (ar_add ((in_i64 (by omega) (by omega)).trans (by omega)))) λa A↦?_
   refine sda A λa A↦?_
   refine qa (hK14 _ _ (wrl (sdm A λa A↦?_)))
   have hnx := hle1 (by simpa using hb22)
   refine sdo (v := iV (((i + 1 : Nat) : Int))) A (qb rfl rfl (ar_add ((in_i64 (by omega) (by omega)).trans (by omega)))) λa A↦?_
   refine sda A λa A↦?_
   refine qa ?_
   have he0 : e1 = 0 := by simpa using hb22
   have hn9 := hle1 he0
   replace M : Mg w w32 (U1 ++ F) := (M.sub (cn (.refl _))).sub (.append (.refl _) (List.sublist_append_right _ _))
   refine hK8 _ _ _ (by omega) ⟨q + n1, i + 1, f, acc ++ [T1], rfl, ⟨by omega, by omega, by omega, by rw [List.length_append, hac]; rfl, hE0 he0⟩, A.keep _ (by repeat' constructor), M⟩
  ·
   have hb30' := ne_of_beq_false hb30
   refine atk (v := bV false) A 12 rfl hP (M.sub (cc (List.Sublist.refl _))) (λ_ M↦qb rfl rfl (fun w => (qj w).trans (by rw [hb30]))) λa A↦?_
   refine atk A 13 rfl hP (M.sub (cc (List.Sublist.refl _))) (λ_ M↦qn rfl) λa A↦?_
   refine vv A 14 rfl rfl rfl rfl hP (M.sub (cc (List.Sublist.refl _))) λa A↦?_
   refine vv A 15 rfl rfl rfl rfl hP (M.sub (cc (List.Sublist.refl _))) λa A↦?_
   refine vv A 16 rfl rfl rfl rfl hP (M.sub (cc (List.Sublist.refl _))) λa A↦?_
   refine vv A 17 rfl rfl rfl rfl hP (M.sub (cc (List.Sublist.refl _))) λa A↦?_
   refine vv A 18 rfl rfl rfl rfl hP (M.sub (cc (List.Sublist.refl _))) λa A↦?_
   refine uq A 19 rfl rfl rfl rfl hP (M.sub (cc (List.Sublist.refl _))) λa A↦?_
   refine uq A 20 rfl rfl rfl rfl hP (M.sub (cc (List.Sublist.refl _))) λa A↦?_
   refine uq A 21 rfl rfl rfl rfl hP (M.sub (cc (List.Sublist.refl _))) λa A↦?_
   refine uq A 22 rfl rfl rfl rfl hP (M.sub (cc (List.Sublist.refl _))) λa A↦?_
   refine uq A 23 rfl rfl rfl rfl hP (M.sub (cc (List.Sublist.refl _))) λa A↦?_
   refine uq A 24 rfl rfl rfl rfl hP (M.sub (cc (List.Sublist.refl _))) λa A↦?_
   refine uq A 25 rfl rfl rfl rfl hP (M.sub (cc (List.Sublist.refl _))) λa A↦?_
   refine vv A 26 rfl rfl rfl rfl hP (M.sub (cc (List.Sublist.refl _))) λa A↦?_
   refine atk (v := bV false) A 27 rfl hP (M.sub (cc (List.Sublist.refl _))) (λ_ M↦zs rfl rfl rfl rfl) λa A↦?_
   refine atk (v := bV false) A 28 rfl hP (M.sub (cc (List.Sublist.refl _))) (λ_ M↦zs rfl rfl rfl rfl) λa A↦?_
   refine zq (by kernel_rfl) ?_
   refine hK29 _ _ (cf A ?_)
   refine wp_skip (hK28 _ _ (wrl ?_))
   iterate 2 refine sdm A λa A↦?_
   have hnx := hle1 (by simpa using hb22)
   refine sdo (v := iV (((q + n1 : Nat) : Int))) A (qb rfl rfl (ar_add ((in_i64 (by omega) (by omega)).trans (by omega)))) λa A↦?_
   refine sda A λa A↦?_
   refine qa (hK14 _ _ (wrl (sdm A λa A↦?_)))
   have hnx := hle1 (by simpa using hb22)
   refine sdo (v := iV (((i + 1 : Nat) : Int))) A (qb rfl rfl (ar_add ((in_i64 (by omega) (by omega)).trans (by omega)))) λa A↦?_
   refine sda A λa A↦?_
   refine qa ?_
   have he0 : e1 = 0 := by simpa using hb22
   have hn9 := hle1 he0
   replace M : Mg w w19.drew (U1 ++ F) := (M.sub (cn (.refl _))).sub (.append (.refl _) (List.sublist_append_right _ _))
   refine hK8 _ _ _ (by omega) ⟨q + n1, i + 1, f, acc ++ [T1], rfl, ⟨by omega, by omega, by omega, by rw [List.length_append, hac]; rfl, hE0 he0⟩, A.keep _ (by repeat' constructor), M⟩
theorem qbi {W : World} {n nm : String} {d : DataW Unit} {g t : Nat} {ms : Array (String × TypeId)} (hg : Tryz.prog.globalNamed n = some g) (ht : (Tryz.prog.globals[g]?).map (·.type) = some t) (hi : Tryz.prog.underlying t = some (.interface ms)) (h : Lib.VarReads Tryz.prog W n (.iface nm d)) :
  ∃ ev : Value, W.cell? ⟨g, 0, none⟩ = some ev ∧ (ev = .nilIface ∨ ∃ te pe, ev = .iface te pe) := by
 obtain ⟨g', t', cs, fuel, p, h1, h2, h3, h4⟩ := h
 obtain rfl : g' = g := Option.some.inj (h1.symm.trans hg)
 obtain rfl : t' = t := Option.some.inj (h2.symm.trans ht)
 obtain ⟨_, u, v, hc, _⟩ := iface_of_trod hi h4
 refine ⟨.iface u v, ?_, .inr ⟨u, v, rfl⟩⟩
 rw [World.var?_cell h1 h3 0, ← Array.getElem?_toList, hc]
 rfl
theorem jde {W : World} (h : World.ShapedOpen Tryz.prog W) : ∃ m : Int, W.cell? ⟨Tryz.lays145_ren.g 1, 0, none⟩ = some (iV m) := by
 obtain ⟨ha, _⟩ := h
 obtain ⟨cs, h1, h2, h3⟩ := ha 2 #[iV 0] 3 (of_decide_eq_true (by kernel_rfl)) (by kernel_rfl)
 obtain ⟨ts, e1, _, e2⟩ := h3 (by kernel_rfl)
 have ets : ts = [3] := Option.some.inj (e1.symm.trans (by kernel_rfl))
 subst ets
 have h0 : 0 < cs.size := by rw [h2]; exact Nat.one_pos
 obtain ⟨u, hu, ho⟩ := e2 0 cs[0] (Array.getElem?_eq_getElem h0)
 obtain rfl : 3 = u := Option.some.inj hu
 have hc : W.cell? ⟨2, 0, none⟩ = some cs[0] := by
  simp only [World.cell?, h1]
  exact Array.getElem?_eq_getElem h0
 unfold Cell.ok at ho
 rw [Tryz.underlying3] at ho
 generalize cs[0] = v at hc ho
 cases v with
 | int k n =>
  obtain ⟨e, _⟩ := ho
  cases e
  exact ⟨n, hc⟩
 | _ => exact absurd ho id
theorem zze {W : World} (hT : Tb W) (hR : Lib.VarReads Tryz.prog W "strconv.ErrRange" Rows.laid_strconv_ErrRange) (S : Lib.VarReads Tryz.prog W "strconv.ErrSyntax" Rows.laid_strconv_ErrSyntax) (hO : World.ShapedOpen Tryz.prog W) : Env W :=
 ⟨hT, ⟨qbi (by kernel_rfl) (by kernel_rfl) Tryz.underlying85 S, qbi (by kernel_rfl) (by kernel_rfl) Tryz.underlying85 hR⟩, jde hO⟩
theorem zij {W : World} {s : ByteArray} (hE : Env W) (hs : s.size ≤ 140737488351232) : Calls Tryz.prog 4 #[.string s] W fun e w' => e = .returned (bV true) ∧ Below W.heap.size W w' := by
 have h := zii (L := s.data.toList) hE (by rw [Array.length_toList]; exact Nat.le_trans hs (by decide))
 have e : tx s.data.toList = s := zvc s
 rwa [e] at h
end Go.Proofs.YtclkfideaameoaaGreatDoor.G
