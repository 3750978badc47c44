/- Which lists are sound, and what the calls answer. Walks of the items of lists. Walks of lists that are joined, and of new lists. Walks of Of, Append, Tail and Reverse. Walks of the document's sameness and order of numbers. The same trees. The walk of the document's sameness of data. What joins say, of lists as they are. The walk of the law of joined lists. What a bound on the bulk of what is read gives. Transcoders that come in as arguments. Rows of bytes that come in as arguments; the first part of a row, and of a text. Data that come in as arguments. -/
import Derived.Test.YtbnjomifogjdfaaDoorPlistsj10d
import Derived.Test.YtbnjomifogjdfaaDoorPlistsj10a
import Derived.Test.YtbnjomifogjdfaaDoorRows
import Derived.Test.YtbnjomifogjdfaaDoorPlistsj10b
import Derived.Test.YtbnjomifogjdfaaDoorProg
import Derived.WalkKit
import Derived.ProofKit
import Derived.OpenShut
import Derived.ChangeOld
import Derived.Lib.SmallJoins
import Derived.Deep.Strs
import Derived.Deep.Slices
namespace Go.Proofs.YtbnjomifogjdfaaDoor.G
open Go.RowKit
set_option linter.unusedVariables false
set_option linter.unusedSimpArgs false
mutual
/-- How many nodes. -/
def nodesT : Tr → Nat
  | .mk _ _ _ _ _ ts => 1 + nodesL ts
def nodesL : List Tr → Nat
  | [] => 0
  | t :: ts => nodesT t + nodesL ts
end
mutual
/-- Not too deep. -/
def deepT (dp : Int) : Tr → Bool
  | .mk k _ _ _ _ ts => decide (dp ≤ 200) && deepL dp (decide (k = 8)) 0 ts
def deepL (dp : Int) (pr : Bool) (i : Nat) : List Tr → Bool
  | [] => true
  | t :: ts => deepT (if pr = true ∧ i = 1 then dp else dp + 1) t && deepL dp pr (i + 1) ts
end
def FitC (t : Tr) : Prop := ∀ dp left : Int, ((fitT dp left t).1 = true ↔ deepT dp t = true ∧ (nodesT t : Int) ≤ left) ∧ ((fitT dp left t).1 = true → (fitT dp left t).2 = left - nodesT t)
theorem fitC_list {dp : Int} {pr : Bool} : ∀ {ts : List Tr}, (∀ t ∈ ts, FitC t) → ∀ (i : Nat) (m : Int), 0 ≤ m → ((fitL dp pr i m ts).1 = true ↔ deepL dp pr i ts = true ∧ (nodesL ts : Int) ≤ m) ∧ ((fitL dp pr i m ts).1 = true → (fitL dp pr i m ts).2 = m - nodesL ts)
  | [], _, i, m, hm => by simp [fitL, deepL, nodesL, hm]
  | t :: ts, h, i, m, hm => by
    have h1 := h t List.mem_cons_self (if pr = true ∧ i = 1 then dp else dp + 1) m
    have hp := fit_pos t (if pr = true ∧ i = 1 then dp else dp + 1) m
    rw [fitL, deepL, nodesL]
    generalize (if pr = true ∧ i = 1 then dp else dp + 1) = D at h1 hp ⊢
    by_cases hc : (fitT D m t).1 = true
    · rw [if_pos hc]
      have h2 := fitC_list (dp := dp) (pr := pr) (fun x hx => h x (List.mem_cons_of_mem _ hx)) (i + 1) _ (hp hc)
      have h3 := h1.1.1 hc
      have h4 := h1.2 hc
      rw [h4] at h2 ⊢
      rw [Bool.and_eq_true, h3.1]
      refine ⟨⟨fun k => ?_, fun k => ?_⟩, fun k => ?_⟩
      · have := h2.1.1 k; exact ⟨⟨rfl, this.1⟩, by have := this.2; push_cast; omega⟩
      · exact h2.1.2 ⟨k.1.2, by have := k.2; push_cast at this; omega⟩
      · rw [h2.2 k]; push_cast; omega
    · rw [if_neg hc]
      refine ⟨⟨(fun k => by cases k), fun k => absurd (h1.1.2 ⟨?_, ?_⟩) hc⟩, (fun k => by cases k)⟩
      · have := k.1; rw [Bool.and_eq_true] at this; exact this.1
      · have := k.2; push_cast at this; omega
theorem fit_char : ∀ t : Tr, FitC t := by
  refine Tr.indT fun k n q s rl ts ih dp left => ?_
  rw [fitT, deepT, nodesT]
  by_cases hc : left - 1 < 0 ∨ 200 < dp
  · rw [if_pos hc]
    refine ⟨⟨(fun k => by cases k), fun k => ?_⟩, (fun k => by cases k)⟩
    have h1 := k.1
    have h2 := k.2
    rw [Bool.and_eq_true, decide_eq_true_eq] at h1
    push_cast at h2
    omega
  · rw [if_neg hc]
    have h2 := fitC_list (dp := dp) (pr := decide (k = 8)) ih 0 (left - 1) (by omega)
    rw [decide_eq_true (show dp ≤ 200 by omega), Bool.true_and]
    refine ⟨⟨fun k => ?_, fun k => ?_⟩, fun k => ?_⟩
    · have := h2.1.1 k; exact ⟨this.1, by have := this.2; push_cast; omega⟩
    · exact h2.1.2 ⟨k.1, by have := k.2; push_cast at this; omega⟩
    · rw [h2.2 k]; push_cast; omega
theorem nodes_link : ∀ (xs : List Tr) (z : Tr), nodesT (linkT xs z) = nodesL xs + xs.length + nodesT z
  | [], z => by simp [linkT, nodesL]
  | x :: xs, z => by rw [linkT, nodesT, nodesL, nodesL, nodesL, nodes_link xs z, nodesL, List.length_cons]; omega
theorem deep_link : ∀ (xs : List Tr) (z : Tr), deepT 1 (linkT xs z) = (xs.all (deepT 2) && deepT 1 z)
  | [], z => by simp [linkT]
  | x :: xs, z => by
    rw [linkT, deepT, deepL, deepL, deepL, List.all_cons]
    have : (if decide ((8 : Int) = 8) = true ∧ 0 = 1 then (1 : Int) else 1 + 1) = 2 := by decide
    rw [this]
    have : (if decide ((8 : Int) = 8) = true ∧ 0 + 1 = 1 then (1 : Int) else 1 + 1) = 1 := by decide
    rw [this, deep_link xs z]
    simp [Bool.and_assoc]
theorem all_link : ∀ (xs : List Tr) (z : Tr), allT shapeT (linkT xs z) = (xs.all (allT shapeT) && allT shapeT z)
  | [], z => by simp [linkT]
  | x :: xs, z => by
    rw [linkT, allT, allL, allL, allL, List.all_cons, all_link xs z]
    have : shapeT (.mk 8 0 Q6.zero ⟨#[]⟩ [] [x, linkT xs z]) = true := by rfl
    rw [this]
    simp [Bool.and_assoc]
theorem sound_char (t : Tr) : soundT shapeT t = true ↔ deepT 1 t = true ∧ nodesT t ≤ 20000 ∧ allT shapeT t = true := by
  unfold soundT
  rw [Bool.and_eq_true, (fit_char t 1 20000).1]
  constructor
  · rintro ⟨⟨h1, h2⟩, h3⟩; exact ⟨h1, by omega, h3⟩
  · rintro ⟨h1, h2, h3⟩; exact ⟨⟨h1, by omega⟩, h3⟩
theorem sound_link (xs : List Tr) (z : Tr) : soundT shapeT (linkT xs z) = true ↔ (xs.all (deepT 2) = true ∧ deepT 1 z = true) ∧ nodesL xs + xs.length + nodesT z ≤ 20000 ∧ xs.all (allT shapeT) = true ∧ allT shapeT z = true := by
  rw [sound_char, deep_link, nodes_link, all_link, Bool.and_eq_true, Bool.and_eq_true]
theorem long_unsound {xs : List Tr} {z : Tr} (h : 20000 < xs.length) : soundT shapeT (linkT xs z) = false := by
  apply Bool.eq_false_iff.2
  intro k
  have := ((sound_link xs z).1 k).2.1
  omega
/-! ### What the calls answer -/
def fitS (xs : List Tr) (z : Tr) : Tr × Int := if soundT shapeT (linkT xs z) = true then (linkT xs z, 0) else (zeroT, 4)
def ofS (xs : List Tr) : Tr := (fitS xs nilT).1
noncomputable def appS (L : List Tr) : Tr × Int :=
  if L.all (soundT shapeT) = false then (zeroT, 2) else if L = [] then (nilT, 0) else match joinS (L.take (L.length - 1)) with
    | none => (zeroT, 10)
    | some xs => fitS xs (L.getD (L.length - 1) nilT)
noncomputable def tailS (t : Tr) (n : Int) : Tr × Int :=
  if soundT shapeT t = false then (zeroT, 2) else match asList t with
    | none => (zeroT, 10)
    | some xs => if n < 0 ∨ (xs.length : Int) < n then (zeroT, 1) else (linkT (xs.drop n.toNat) nilT, 0)
noncomputable def revS (t : Tr) : Tr × Int :=
  if soundT shapeT t = false then (zeroT, 2) else match asList t with
    | none => (zeroT, 10)
    | some xs => (linkT xs.reverse nilT, 0)
theorem fitS_long {xs : List Tr} {z : Tr} (h : 20000 < xs.length) : fitS xs z = (zeroT, 4) := by unfold fitS; rw [if_neg (by rw [long_unsound h]; decide)]
theorem fitS_yes {xs : List Tr} {z : Tr} (h : soundT shapeT (linkT xs z) = true) : fitS xs z = (linkT xs z, 0) := by unfold fitS; rw [if_pos h]
theorem fitS_no {xs : List Tr} {z : Tr} (h : soundT shapeT (linkT xs z) = false) : fitS xs z = (zeroT, 4) := by unfold fitS; rw [if_neg (by rw [h]; decide)]
theorem all_map (ts : List Dt) : (ts.map Dt.tr).all (soundT shapeT) = ts.all fun t => soundT shapeT t.tr := by rw [List.all_map]; rfl
theorem appS_bad {ts : List Dt} (h : (ts.all fun t => soundT shapeT t.tr) = false) : appS (ts.map Dt.tr) = (zeroT, 2) := by unfold appS; rw [if_pos (by rw [all_map]; exact h)]
theorem appS_nil : appS [] = (nilT, 0) := by unfold appS; rw [if_neg (by simp), if_pos rfl]
theorem appS_none {ts : List Dt} (h : (ts.all fun t => soundT shapeT t.tr) = true) (hne : ts ≠ []) (hj : joinS ((ts.take (ts.length - 1)).map Dt.tr) = none) : appS (ts.map Dt.tr) = (zeroT, 10) := by
  unfold appS
  rw [if_neg (by rw [all_map, h]; decide), if_neg (by simpa using hne), List.length_map, ← List.map_take, hj]
theorem appS_some {ts : List Dt} {t : Dt} {xs : List Tr} (h : (ts.all fun t => soundT shapeT t.tr) = true) (ht : ts[ts.length - 1]? = some t) (hj : joinS ((ts.take (ts.length - 1)).map Dt.tr) = some xs) : appS (ts.map Dt.tr) = fitS xs t.tr := by
  have hne : ts ≠ [] := fun k => by subst k; simp at ht
  unfold appS
  rw [if_neg (by rw [all_map, h]; decide), if_neg (by simpa using hne), List.length_map, ← List.map_take, hj, List.getD_eq_getElem?_getD, List.getElem?_map, ht]
  rfl
theorem Rt.take {w : World} {so : Option Addr} {ts : List Dt} (h : Rt w so ts) (n : Nat) : Rt w so (ts.take n) := fun hne => by
  obtain ⟨b, o, e, h2⟩ := h (fun k => hne (by rw [k]; simp))
  refine ⟨b, o, e, fun i t hi => h2 i t ?_⟩
  rw [List.getElem?_take] at hi
  split at hi
  · exact hi
  · cases hi
theorem Rt.drop {w : World} {so : Option Addr} {ts : List Dt} (h : Rt w so ts) (cap n : Nat) (hc : ts.length ≤ cap) : Rt w (if cap = n then so else so.map (·.add (n * 11))) (ts.drop n) := fun hne => by
  have hlt : n < ts.length := by
    apply Classical.byContradiction
    intro k
    exact hne (List.drop_of_length_le (by omega))
  obtain ⟨b, o, e, h2⟩ := h (fun k => by rw [k] at hlt; simp at hlt)
  rw [if_neg (by omega), e]
  refine ⟨b, o + n * 11, by simp [addr_add], fun i t hi => ?_⟩
  rw [List.getElem?_drop] at hi
  have := h2 _ _ hi
  rwa [Nat.add_mul, ← Nat.add_assoc] at this
theorem asList_bulk {t : Tr} {xs : List Tr} (h : asList t = some xs) : Tr.bulks xs + xs.length + 1 = t.bulk := by
  rw [asList_some h, link_bulk]
  rfl
/-! ### The other way round -/
/-- So many from both ends are exchanged. -/
def RevI (ys zs : List Dt) (i : Nat) : Prop := zs.length = ys.length ∧ ∀ k, k < ys.length → zs[k]? = if k < i ∨ ys.length < k + 1 + i then ys[ys.length - 1 - k]? else ys[k]?
theorem revI_zero (ys : List Dt) : RevI ys ys 0 := ⟨rfl, fun k hk => by rw [if_neg (by omega)]⟩
theorem revI_end {ys zs : List Dt} {i : Nat} (h : RevI ys zs i) (hi : ys.length ≤ i + i + 1) : zs = ys.reverse := by
  apply List.ext_getElem?
  intro k
  by_cases hk : k < ys.length
  · rw [h.2 k hk, List.getElem?_reverse hk]
    by_cases hc : k < i ∨ ys.length < k + 1 + i
    · rw [if_pos hc]
    · rw [if_neg hc, show ys.length - 1 - k = k by omega]
  · rw [List.getElem?_eq_none (by rw [h.1]; omega), List.getElem?_eq_none (by rw [List.length_reverse]; omega)]
theorem revI_step {ys zs : List Dt} {i : Nat} {a b : Dt} (h : RevI ys zs i) (hi : i + i + 1 < ys.length) (ha : zs[i]? = some a) (hb : zs[ys.length - 1 - i]? = some b) : RevI ys ((zs.set i b).set (ys.length - 1 - i) a) (i + 1) := by
  refine ⟨by rw [List.length_set, List.length_set, h.1], fun k hk => ?_⟩
  have h1 := h.1
  rw [List.getElem?_set, List.getElem?_set, List.length_set]
  have ha2 := h.2 i (by omega)
  have hb2 := h.2 (ys.length - 1 - i) (by omega)
  rw [if_neg (by omega), ha] at ha2
  rw [if_neg (by omega), hb] at hb2
  by_cases e1 : ys.length - 1 - i = k
  · subst e1
    rw [if_pos rfl, if_pos (by omega), if_pos (by omega), ha2, show ys.length - 1 - (ys.length - 1 - i) = i by omega]
  · rw [if_neg e1]
    by_cases e2 : i = k
    · subst e2
      rw [if_pos rfl, if_pos (by omega), if_pos (by omega), hb2]
    · rw [if_neg e2, h.2 k hk]
      by_cases hc : k < i ∨ ys.length < k + 1 + i
      · rw [if_pos hc, if_pos (by omega)]
      · rw [if_neg hc, if_neg (by omega)]
end Go.Proofs.YtbnjomifogjdfaaDoor.G
namespace Go.Proofs.YtbnjomifogjdfaaDoor.G
open Go.RowKit
set_option linter.unusedVariables false
set_option linter.unusedSimpArgs false
set_option maxRecDepth 100000
theorem LiE_isS_31 : IsS Tryd.prog 31 11 := ⟨⟨_, Tryd.underlying31⟩, by kernel_rfl⟩
theorem allSound_b {w : World} {so : Option Addr} {ca : Nat} {ts : List Dt} (hR : Rt w so ts) (hD : ∀ t ∈ ts, t.rd w) (hl : ts.length ≤ 1000000000) (hT : Tabs8 w) {b : Bool} (h : (ts.all fun t => soundT shapeT t.tr) = b) : Calls Tryd.prog 12 #[.slice so ts.length ca] w fun e w' => e = .returned (.bool b) ∧ Below w.heap.size w w' := h ▸ allSound_any hR hD hl hT
theorem allSound_one {w : World} {so : Option Addr} {ca : Nat} {t : Dt} (hR : Rt w so [t]) (ht : t.rd w) (hT : Tabs8 w) {b : Bool} (h : soundT shapeT t.tr = b) : Calls Tryd.prog 12 #[.slice so 1 ca] w fun e w' => e = .returned (.bool b) ∧ Below w.heap.size w w' :=
  allSound_b (ts := [t]) hR (fun u hu => by rw [List.mem_singleton.1 hu]; exact ht) (by simp) hT (by rw [List.all_cons, List.all_nil, Bool.and_true]; exact h)
theorem itemsOf_or {w0 w : World} {t : Dt} (h0 : Below w0.heap.size w0 w) (ht0 : t.rd w0) {so : Option Addr} {ca : Nat} {ts : List Dt} (hR : Rt w so ts) (hD : ∀ t ∈ ts, t.rd w) (hl : ts.length ≤ 1000000000) (hb : t.tr.bulk ≤ 1000000000) (hT : Tabs8 w) : Calls Tryd.prog 14 #[.agg (t.d.cells t.ts.length).toArray, .slice so ts.length ca] w fun e w' => (∃ so' ca' ys, e = .returned (.tuple #[.slice so' (ys : List Dt).length ca', .int .i64 0]) ∧ ((soundT shapeT t.tr && (ts.all fun t => soundT shapeT t.tr)) = true ∧ asList t.tr = some (ys.map Dt.tr) ∧ (∀ x ∈ ys, x.rd w0) ∧ ys.length ≤ t.tr.bulk) ∧ Mg w w' [.row 31 11 (.slice so' ys.length ca') ys.length (cellsOf ys)]) ∨ (e = .returned (.tuple #[.slice none 0 0, .int .i64 10]) ∧ ((soundT shapeT t.tr && (ts.all fun t => soundT shapeT t.tr)) = true ∧ asList t.tr = none) ∧ Below w.heap.size w w') ∨ (e = .returned (.tuple #[.slice none 0 0, .int .i64 2]) ∧ (soundT shapeT t.tr && (ts.all fun t => soundT shapeT t.tr)) = false ∧ Below w.heap.size w w') := by
 have ht := Dt.keep h0 _ ht0
 have hM : Mg w w ([]) := Mg.start w
 refine walk_of (l := [(0, .agg (t.d.cells t.ts.length).toArray), (1, .slice so ts.length ca)]) Tryd.func14 rfl Tryd.ntmps14 rfl rfl ?_
 intro Q hret hnorm hP a hA
 refine wp_seq_k (fun K1 hK1 => ?_)
 refine wp_region_lit ?_
 refine s_new (vs := [.int .i64 t.d.k, .int .i64 t.d.n, .bool t.d.y.q.b1, .slice t.d.y.o1 t.d.y.q.t1.length t.d.y.c1, .slice t.d.y.o2 t.d.y.q.q1.length t.d.y.c2, .bool t.d.y.q.b2, .slice t.d.y.o3 t.d.y.q.t2.length t.d.y.c3, .slice t.d.y.o4 t.d.y.q.q2.length t.d.y.c4, .string t.d.s, .slice t.d.ro t.d.rl.length t.d.rc, .slice t.d.lo t.ts.length t.d.lc]) (t := 31) hA hM rfl rfl rfl (fun g => .pointer (some ⟨g, 0, none⟩)) (does_box rfl rfl) (by decide) ?_
 intro g2 w3 hM a hA
 refine seq_do hA rfl rfl rfl (does_assign rfl) ?_
 intro a hA
 refine seq_do hA rfl rfl rfl (does_assign rfl) ?_
 intro a hA
 refine seq_end ?_
 refine hK1 _ _ ?_
 refine wp_seq_k (fun K4 hK4 => ?_)
 refine wp_seq_k (fun K5 hK5 => ?_)
 refine wp_region_lit ?_
 refine seq_do hA rfl rfl rfl (m_loadS hM LiE_isS_31 rfl 0 rfl (cs := [.int .i64 t.d.k, .int .i64 t.d.n, .bool t.d.y.q.b1, .slice t.d.y.o1 t.d.y.q.t1.length t.d.y.c1, .slice t.d.y.o2 t.d.y.q.q1.length t.d.y.c2, .bool t.d.y.q.b2, .slice t.d.y.o3 t.d.y.q.t2.length t.d.y.c3, .slice t.d.y.o4 t.d.y.q.q2.length t.d.y.c4, .string t.d.s, .slice t.d.ro t.d.rl.length t.d.rc, .slice t.d.lo t.ts.length t.d.lc]) rfl rfl) ?_
 intro a hA
 refine s_litE (e := 31) (sz := 11) (m := 1) (vs := cellsOf [t]) hA hM rfl rfl rfl (does_buildSlice rfl (by kernel_rfl)) rfl rfl (.inl (by decide)) ?_
 intro g6 w7 hM a hA
 rcases Bool.eq_false_or_eq_true (soundT shapeT t.tr) with hb8 | hb8
 · refine seq_call hA rfl rfl rfl (enters_func rfl rfl (fun w => by kernel_rfl)) (allSound_one (rt_own (hM.has 0 rfl)).1 (Dt.keep hM.bel _ ht) (hT.below hM.bel) hb8) ?_
   rintro _ w10 ⟨rfl, hb9⟩
   replace hM := hM.call hb9
   refine ⟨_, rfl, ?_⟩
   intro a hA
   refine seq_do (v := .bool false) hA rfl rfl rfl (does_un rfl un_not) ?_
   intro a hA
   refine seq_do hA rfl rfl rfl (does_move rfl) ?_
   intro a hA
   refine seq_do hA rfl rfl rfl (does_move rfl) ?_
   intro a hA
   rcases Bool.eq_false_or_eq_true ((ts.all fun t => soundT shapeT t.tr)) with hb11 | hb11
   · refine seq_call hA rfl rfl rfl (enters_func rfl rfl (fun w => by kernel_rfl)) (allSound_b (hR.below hM.bel) (fun t ht => Dt.keep hM.bel _ (hD t ht)) hl (hT.below hM.bel) hb11) ?_
     rintro _ w13 ⟨rfl, hb12⟩
     replace hM := hM.call hb12
     refine ⟨_, rfl, ?_⟩
     intro a hA
     refine seq_do (v := .bool false) hA rfl rfl rfl (does_un rfl un_not) ?_
     intro a hA
     refine seq_do (v := .bool false) hA rfl rfl rfl (does_pick rfl rfl rfl rfl) ?_
     intro a hA
     refine seq_end ?_
     refine hK5 _ _ ?_
     refine wp_cond_false (hA.ev rfl) ?_
     refine wp_skip ?_
     refine hK4 _ _ ?_
     refine wp_seq_k (fun K14 hK14 => ?_)
     refine wp_region_lit ?_
     refine seq_do hA rfl rfl rfl (m_loadS hM LiE_isS_31 rfl 1 rfl (cs := [.int .i64 t.d.k, .int .i64 t.d.n, .bool t.d.y.q.b1, .slice t.d.y.o1 t.d.y.q.t1.length t.d.y.c1, .slice t.d.y.o2 t.d.y.q.q1.length t.d.y.c2, .bool t.d.y.q.b2, .slice t.d.y.o3 t.d.y.q.t2.length t.d.y.c3, .slice t.d.y.o4 t.d.y.q.q2.length t.d.y.c4, .string t.d.s, .slice t.d.ro t.d.rl.length t.d.rc, .slice t.d.lo t.ts.length t.d.lc]) rfl rfl) ?_
     intro a hA
     rcases Bool.eq_false_or_eq_true ((asList t.tr).isSome) with hb15 | hb15
     · refine seq_call hA rfl rfl rfl (enters_func rfl rfl (fun w => by kernel_rfl)) (unlinked_some (h0.trans (hM.bel.mono h0.size)) ht0 (sound_all hb8) hb hb15) ?_
       rintro _ w17 ⟨so7, ca7, ys, rfl, ⟨hy1, hy2, hy3⟩, hM7⟩
       replace hM : Mg w w17 (.row 31 11 (.slice so7 ys.length ca7) ys.length (cellsOf ys) :: .row 31 11 (.slice (some ⟨g6, 0, none⟩) 1 1) 1 (cellsOf [t]) :: .obj g2 (.cells (t.d.cells t.ts.length).toArray 31) :: []) := (hM.both hM7 (noBld_cons (by simp) (noBld_cons (by simp) (noBld_quiet quietL_nil))) (noBld_cons (by simp) (noBld_quiet quietL_nil)))
       refine ⟨_, rfl, ?_⟩
       intro a hA
       refine seq_do (v := .slice so7 ys.length ca7) hA rfl rfl rfl (does_extract (vs := [.slice so7 ys.length ca7, .int .i64 0]) rfl rfl) ?_
       intro a hA
       refine seq_do (v := .int .i64 0) hA rfl rfl rfl (does_extract (vs := [.slice so7 ys.length ca7, .int .i64 0]) rfl rfl) ?_
       intro a hA
       refine seq_do hA rfl rfl rfl (does_assign rfl) ?_
       intro a hA
       refine seq_do hA rfl rfl rfl (does_assign rfl) ?_
       intro a hA
       refine seq_end ?_
       refine hK14 _ _ ?_
       refine wp_ret ?_
       refine hret _ _ ?_
       refine ends (v := .tuple #[.slice so7 ys.length ca7, .int .i64 0]) hA rfl (.cons (res_tmp rfl) (.cons (res_tmp rfl) .nil)) rfl ?_
       replace hM : Mg w w17 (.row 31 11 (.slice so7 ys.length ca7) ys.length (cellsOf ys) :: []) := by
         have h9 := hM.sub (.cons_cons _ (.cons _ (.cons _ (.refl _))))
         exact h9
       exact .inl ⟨_, _, ys, rfl, ⟨(by rw [hb8, hb11]; rfl), hy1, hy2, hy3⟩, hM⟩
     · refine seq_call hA rfl rfl rfl (enters_func rfl rfl (fun w => by kernel_rfl)) (unlinked_none (h0.trans (hM.bel.mono h0.size)) ht0 (sound_all hb8) hb hb15) ?_
       rintro _ w19 ⟨rfl, hb18⟩
       replace hM := hM.call hb18
       refine ⟨_, rfl, ?_⟩
       intro a hA
       refine seq_do (v := .slice none 0 0) hA rfl rfl rfl (does_extract (vs := [.slice none 0 0, .int .i64 10]) rfl rfl) ?_
       intro a hA
       refine seq_do (v := .int .i64 10) hA rfl rfl rfl (does_extract (vs := [.slice none 0 0, .int .i64 10]) rfl rfl) ?_
       intro a hA
       refine seq_do hA rfl rfl rfl (does_assign rfl) ?_
       intro a hA
       refine seq_do hA rfl rfl rfl (does_assign rfl) ?_
       intro a hA
       refine seq_end ?_
       refine hK14 _ _ ?_
       refine wp_ret ?_
       refine hret _ _ ?_
       refine ends (v := .tuple #[.slice none 0 0, .int .i64 10]) hA rfl (.cons (res_tmp rfl) (.cons (res_tmp rfl) .nil)) rfl ?_
       exact .inr (.inl ⟨rfl, ⟨(by rw [hb8, hb11]; rfl), Option.isSome_eq_false_iff.1 hb15 |> Option.isNone_iff_eq_none.1⟩, hM.bel⟩)
   · refine seq_call hA rfl rfl rfl (enters_func rfl rfl (fun w => by kernel_rfl)) (allSound_b (hR.below hM.bel) (fun t ht => Dt.keep hM.bel _ (hD t ht)) hl (hT.below hM.bel) hb11) ?_
     rintro _ w21 ⟨rfl, hb20⟩
     replace hM := hM.call hb20
     refine ⟨_, rfl, ?_⟩
     intro a hA
     refine seq_do (v := .bool true) hA rfl rfl rfl (does_un rfl un_not) ?_
     intro a hA
     refine seq_do (v := .bool true) hA rfl rfl rfl (does_pick rfl rfl rfl rfl) ?_
     intro a hA
     refine seq_end ?_
     refine hK5 _ _ ?_
     refine wp_cond_true (hA.ev rfl) ?_
     refine wp_seq_k (fun K22 hK22 => ?_)
     refine wp_region_lit ?_
     refine seq_do hA rfl rfl rfl (does_assign rfl) ?_
     intro a hA
     refine seq_do hA rfl rfl rfl (does_assign rfl) ?_
     intro a hA
     refine seq_end ?_
     refine hK22 _ _ ?_
     refine wp_ret ?_
     refine hret _ _ ?_
     refine ends (v := .tuple #[.slice none 0 0, .int .i64 2]) hA rfl (.cons (res_tmp rfl) (.cons (res_tmp rfl) .nil)) rfl ?_
     exact .inr (.inr ⟨rfl, by rw [hb8, hb11]; rfl, hM.bel⟩)
 · refine seq_call hA rfl rfl rfl (enters_func rfl rfl (fun w => by kernel_rfl)) (allSound_one (rt_own (hM.has 0 rfl)).1 (Dt.keep hM.bel _ ht) (hT.below hM.bel) hb8) ?_
   rintro _ w24 ⟨rfl, hb23⟩
   replace hM := hM.call hb23
   refine ⟨_, rfl, ?_⟩
   intro a hA
   refine seq_do (v := .bool true) hA rfl rfl rfl (does_un rfl un_not) ?_
   intro a hA
   refine seq_do hA rfl rfl rfl (does_move rfl) ?_
   intro a hA
   refine seq_skip hA rfl rfl rfl ?_
   intro a hA
   refine seq_skip hA rfl rfl rfl ?_
   intro a hA
   refine seq_skip hA rfl rfl rfl ?_
   intro a hA
   refine seq_do (v := .bool true) hA rfl rfl rfl (does_pick rfl rfl rfl rfl) ?_
   intro a hA
   refine seq_end ?_
   refine hK5 _ _ ?_
   refine wp_cond_true (hA.ev rfl) ?_
   refine wp_seq_k (fun K25 hK25 => ?_)
   refine wp_region_lit ?_
   refine seq_do hA rfl rfl rfl (does_assign rfl) ?_
   intro a hA
   refine seq_do hA rfl rfl rfl (does_assign rfl) ?_
   intro a hA
   refine seq_end ?_
   refine hK25 _ _ ?_
   refine wp_ret ?_
   refine hret _ _ ?_
   refine ends (v := .tuple #[.slice none 0 0, .int .i64 2]) hA rfl (.cons (res_tmp rfl) (.cons (res_tmp rfl) .nil)) rfl ?_
   exact .inr (.inr ⟨rfl, by rw [hb8]; rfl, hM.bel⟩)
theorem items_some {w0 w : World} {t : Dt} (h0 : Below w0.heap.size w0 w) (ht : t.rd w0) (hb : t.tr.bulk ≤ 1000000000) (hT : Tabs8 w) (hs : soundT shapeT t.tr = true) (h : (asList t.tr).isSome = true) : Calls Tryd.prog 14 #[.agg (t.d.cells t.ts.length).toArray, .slice none 0 0] w fun e w' => ∃ so' ca' ys, e = .returned (.tuple #[.slice so' (ys : List Dt).length ca', .int .i64 0]) ∧ (asList t.tr = some (ys.map Dt.tr) ∧ (∀ x ∈ ys, x.rd w0) ∧ ys.length ≤ t.tr.bulk) ∧ Mg w w' [.row 31 11 (.slice so' ys.length ca') ys.length (cellsOf ys)] := by
  refine (itemsOf_or (ts := []) h0 ht (so := none) (ca := 0) (fun k => absurd rfl k) (fun t h => by cases h) (by decide) hb hT).mono ?_
  rintro e w' (⟨so', ca', ys, h1, h2, h3⟩ | ⟨_, h2, _⟩ | ⟨_, h2, _⟩)
  · exact ⟨so', ca', ys, h1, h2.2, h3⟩
  · rw [h2.2] at h; cases h
  · rw [hs] at h2; cases h2
theorem items_none {w0 w : World} {t : Dt} (h0 : Below w0.heap.size w0 w) (ht : t.rd w0) (hb : t.tr.bulk ≤ 1000000000) (hT : Tabs8 w) (hs : soundT shapeT t.tr = true) (h : (asList t.tr).isSome = false) : Calls Tryd.prog 14 #[.agg (t.d.cells t.ts.length).toArray, .slice none 0 0] w fun e w' => e = .returned (.tuple #[.slice none 0 0, .int .i64 10]) ∧ Below w.heap.size w w' := by
  refine (itemsOf_or (ts := []) h0 ht (so := none) (ca := 0) (fun k => absurd rfl k) (fun t h => by cases h) (by decide) hb hT).mono ?_
  rintro e w' (⟨so', ca', ys, h1, h2, h3⟩ | ⟨h1, h2, h3⟩ | ⟨_, h2, _⟩)
  · rw [h2.2.1] at h; cases h
  · exact ⟨h1, h3⟩
  · rw [hs] at h2; cases h2
theorem items_bad {w0 w : World} {t : Dt} (h0 : Below w0.heap.size w0 w) (ht : t.rd w0) (hb : t.tr.bulk ≤ 1000000000) (hT : Tabs8 w) (hs : soundT shapeT t.tr = false) : Calls Tryd.prog 14 #[.agg (t.d.cells t.ts.length).toArray, .slice none 0 0] w fun e w' => e = .returned (.tuple #[.slice none 0 0, .int .i64 2]) ∧ Below w.heap.size w w' := by
  refine (itemsOf_or (ts := []) h0 ht (so := none) (ca := 0) (fun k => absurd rfl k) (fun t h => by cases h) (by decide) hb hT).mono ?_
  rintro e w' (⟨so', ca', ys, h1, h2, h3⟩ | ⟨h1, h2, h3⟩ | ⟨h1, h2, h3⟩)
  · rw [hs] at h2; cases h2.1
  · rw [hs] at h2; cases h2.1
  · exact ⟨h1, h3⟩
end Go.Proofs.YtbnjomifogjdfaaDoor.G
namespace Go.Proofs.YtbnjomifogjdfaaDoor.G
open Go.RowKit
set_option linter.unusedVariables false
set_option linter.unusedSimpArgs false
set_option maxRecDepth 100000
theorem LiF_isS_31 : IsS Tryd.prog 31 11 := ⟨⟨_, Tryd.underlying31⟩, by kernel_rfl⟩
theorem joined_or {w : World} {so : Option Addr} {ca : Nat} {ts : List Dt} (hR : Rt w so ts) (hD : ∀ t ∈ ts, t.rd w) (hS : ∀ t ∈ ts, soundT shapeT t.tr = true) (hb : Tr.bulks (ts.map Dt.tr) ≤ 1000000000) : Calls Tryd.prog 13 #[.slice so ts.length ca] w fun e w' => (∃ so' ca' ys J, e = .returned (.tuple #[.slice so' (ys : List Dt).length ca', .int .i64 0]) ∧ (joinS (ts.map Dt.tr) = some J ∧ (ys.map Dt.tr = J ∨ (20000 < ys.length ∧ 20000 < J.length)) ∧ (∀ x ∈ ys, x.rd w) ∧ Tr.bulks (ys.map Dt.tr) ≤ Tr.bulks (ts.map Dt.tr)) ∧ Mg w w' [.row 31 11 (.slice so' ys.length ca') ys.length (cellsOf ys)]) ∨ (e = .returned (.tuple #[.slice none 0 0, .int .i64 10]) ∧ joinS (ts.map Dt.tr) = none ∧ Below w.heap.size w w') := by
 have hbl := bulks_len ts
 have hM : Mg w w ([]) := Mg.start w
 refine walk_of (l := [(0, .slice so ts.length ca)]) Tryd.func13 rfl Tryd.ntmps13 rfl rfl ?_
 intro Q hret hnorm hP a hA
 refine wp_seq_k (fun K1 hK1 => ?_)
 refine wp_region_lit ?_
 refine seq_do hA rfl rfl rfl (does_assign rfl) ?_
 intro a hA
 refine seq_do hA rfl rfl rfl (does_assign rfl) ?_
 intro a hA
 refine seq_end ?_
 refine hK1 _ _ ?_
 refine wp_seq_k (fun K2 hK2 => ?_)
 refine wp_region_lit ?_
 refine seq_do hA rfl rfl rfl (does_assign rfl) ?_
 intro a hA
 refine seq_end ?_
 refine hK2 _ _ ?_
 refine wp_seq_k (fun K3 hK3 => ?_)
 refine wp_seq_k (fun K4 hK4 => ?_)
 refine wp_region_lit ?_
 refine seq_do hA rfl rfl rfl (does_move rfl) ?_
 intro a hA
 refine seq_do (v := .int .i64 (((ts.length : Nat) : Int))) hA rfl rfl rfl (does_len Tryd.underlying22 rfl) ?_
 intro a hA
 refine seq_do hA rfl rfl rfl (does_move rfl) ?_
 intro a hA
 refine seq_end ?_
 refine hK4 _ _ ?_
 refine wp_block ?_
 replace hM := hM.nilRow (noBld_quiet quietL_nil) 31 11
 refine wp_loop_n (fun m_ a w1 => ∃ (i : Nat) (xs : List Dt) (so_ : Option Addr) (ca_ : Nat), m_ = 1 + (ts.length - i) ∧ (i ≤ ts.length ∧ (∀ x ∈ xs, x.rd w) ∧ Tr.bulks (xs.map Dt.tr) ≤ Tr.bulks ((ts.take i).map Dt.tr) ∧ ∃ J, joinS ((ts.take i).map Dt.tr) = some J ∧ (xs.map Dt.tr = J ∨ (20000 < xs.length ∧ 20000 < J.length))) ∧ Sl a 31 [(0, .slice so ts.length ca), (4, .slice so_ xs.length ca_), (9, .slice so ts.length ca), (10, .int .i64 (((ts.length : Nat) : Int))), (11, .int .i64 (((i : Nat) : Int)))] ∧ Mg w w1 (.row 31 11 (.slice so_ xs.length ca_) xs.length (cellsOf xs) :: [])) _ ⟨0, [], none, 0, rfl, ⟨Nat.zero_le _, (fun x h => by cases h), Nat.zero_le _, [], rfl, .inl rfl⟩, hA.keep _ ⟨rfl, rfl, rfl, rfl, rfl, trivial⟩, hM⟩ ?_
 clear hM hA
 rintro m_ a w5 ⟨i, xs, so_, ca_, rfl, hinv7, hA, hM⟩ K6 hK6
 obtain ⟨hi0, hxs, hbx, J, hJ, hor⟩ := hinv7
 have hxl := bulks_len xs
 refine wp_seq_k (fun K8 hK8 => ?_)
 refine wp_region_lit ?_
 rcases Bool.eq_false_or_eq_true (decide (((i : Nat) : Int) < ((ts.length : Nat) : Int))) with hb9 | hb9
 · have hb9' := of_decide_eq_true hb9
   refine seq_do (v := .bool true) hA rfl rfl rfl (does_bin rfl rfl (fun w => (bin_lss w).trans (by rw [hb9]))) ?_
   intro a hA
   refine seq_end ?_
   refine hK8 _ _ ?_
   refine wp_seq_k (fun K10 hK10 => ?_)
   refine wp_cond_true (hA.ev rfl) ?_
   refine wp_skip ?_
   refine hK10 _ _ ?_
   refine wp_seq_k (fun K11 hK11 => ?_)
   refine wp_block ?_
   refine wp_seq_k (fun K12 hK12 => ?_)
   obtain ⟨t1, bt1, ot1, it1, mt1, rt1_, lt1, Ht1⟩ := kidL hR hD (i := i) (by omega)
   have hbt := bulks_take it1
   have hbp := bulks_part (ts := ts) (i + 1)
   refine wp_region_lit ?_
   refine seq_do (v := .pointer (some ⟨bt1, ot1 + i * 11, none⟩)) hA rfl rfl rfl (does_indexD (k := i) Tryd.underlying22 (by kernel_rfl) rfl rfl rfl lt1 (by omega)) ?_
   intro a hA
   refine seq_do hA rfl rfl rfl (m_loadHS hM Ht1 LiF_isS_31 rfl rfl) ?_
   intro a hA
   refine s_new (vs := [.int .i64 0, .int .i64 0, .bool false, .slice none 0 0, .slice none 0 0, .bool false, .slice none 0 0, .slice none 0 0, .string (⟨#[]⟩), .slice none 0 0, .slice none 0 0]) (t := 31) hA hM rfl rfl rfl (fun g => .pointer (some ⟨g, 0, none⟩)) (does_alloc (z := .agg #[.int .i64 0, .int .i64 0, .bool false, .slice none 0 0, .slice none 0 0, .bool false, .slice none 0 0, .slice none 0 0, .string (⟨#[]⟩), .slice none 0 0, .slice none 0 0]) (by kernel_rfl) rfl) (by decide) ?_
   intro g13 w14 hM a hA
   refine s_store (us := [.int .i64 t1.d.k, .int .i64 t1.d.n, .bool t1.d.y.q.b1, .slice t1.d.y.o1 t1.d.y.q.t1.length t1.d.y.c1, .slice t1.d.y.o2 t1.d.y.q.q1.length t1.d.y.c2, .bool t1.d.y.q.b2, .slice t1.d.y.o3 t1.d.y.q.t2.length t1.d.y.c3, .slice t1.d.y.o4 t1.d.y.q.q2.length t1.d.y.c4, .string t1.d.s, .slice t1.d.ro t1.d.rl.length t1.d.rc, .slice t1.d.lo t1.ts.length t1.d.lc]) (L' := (.obj g13 (.cells (t1.d.cells t1.ts.length).toArray 31) :: .row 31 11 (.slice so_ xs.length ca_) xs.length (cellsOf xs) :: [])) hA hM rfl rfl (m_store rfl rfl rfl (by kernel_rfl) hM 0 rfl rfl rfl) 0 rfl rfl rfl ?_
   intro w15 hM
   refine seq_end ?_
   refine hK12 _ _ ?_
   refine wp_seq_k (fun K16 hK16 => ?_)
   refine wp_region_lit ?_
   refine seq_do hA rfl rfl rfl (m_loadS hM LiF_isS_31 rfl 0 rfl (cs := [.int .i64 t1.d.k, .int .i64 t1.d.n, .bool t1.d.y.q.b1, .slice t1.d.y.o1 t1.d.y.q.t1.length t1.d.y.c1, .slice t1.d.y.o2 t1.d.y.q.q1.length t1.d.y.c2, .bool t1.d.y.q.b2, .slice t1.d.y.o3 t1.d.y.q.t2.length t1.d.y.c3, .slice t1.d.y.o4 t1.d.y.q.q2.length t1.d.y.c4, .string t1.d.s, .slice t1.d.ro t1.d.rl.length t1.d.rc, .slice t1.d.lo t1.ts.length t1.d.lc]) rfl rfl) ?_
   intro a hA
   rcases Bool.eq_false_or_eq_true ((asList t1.tr).isSome) with hb17 | hb17
   · refine seq_call hA rfl rfl rfl (enters_func rfl rfl (fun w => by kernel_rfl)) (unlinked_some hM.bel rt1_ (sound_all (hS t1 mt1)) (by omega) hb17) ?_
     rintro _ w19 ⟨so7, ca7, ys, rfl, ⟨hy1, hy2, hy3⟩, hM7⟩
     replace hM : Mg w w19 (.row 31 11 (.slice so7 ys.length ca7) ys.length (cellsOf ys) :: .obj g13 (.cells (t1.d.cells t1.ts.length).toArray 31) :: .row 31 11 (.slice so_ xs.length ca_) xs.length (cellsOf xs) :: []) := (hM.both hM7 (noBld_cons (by simp) (noBld_cons (by simp) (noBld_quiet quietL_nil))) (noBld_cons (by simp) (noBld_quiet quietL_nil)))
     refine ⟨_, rfl, ?_⟩
     intro a hA
     refine seq_do hA rfl rfl rfl (does_move rfl) ?_
     intro a hA
     refine seq_do (v := .slice so7 ys.length ca7) hA rfl rfl rfl (does_extract (vs := [.slice so7 ys.length ca7, .int .i64 0]) rfl rfl) ?_
     intro a hA
     refine seq_do (v := .int .i64 0) hA rfl rfl rfl (does_extract (vs := [.slice so7 ys.length ca7, .int .i64 0]) rfl rfl) ?_
     intro a hA
     refine seq_do hA rfl rfl rfl (does_assign rfl) ?_
     intro a hA
     refine seq_do hA rfl rfl rfl (does_assign rfl) ?_
     intro a hA
     refine seq_end ?_
     refine hK16 _ _ ?_
     refine wp_seq_k (fun K20 hK20 => ?_)
     refine wp_seq_k (fun K21 hK21 => ?_)
     refine wp_region_lit ?_
     refine seq_do hA rfl rfl rfl (does_move rfl) ?_
     intro a hA
     refine seq_do (v := .bool false) hA rfl rfl rfl (does_bin rfl rfl (fun w => by kernel_rfl)) ?_
     intro a hA
     refine seq_end ?_
     refine hK21 _ _ ?_
     refine wp_cond_false (hA.ev rfl) ?_
     refine wp_skip ?_
     refine hK20 _ _ ?_
     refine wp_seq_k (fun K22 hK22 => ?_)
     refine wp_region_lit ?_
     refine seq_do hA rfl rfl rfl (does_move rfl) ?_
     intro a hA
     refine seq_do (v := .int .i64 (((xs.length : Nat) : Int))) hA rfl rfl rfl (does_len Tryd.underlying22 rfl) ?_
     intro a hA
     rcases Bool.eq_false_or_eq_true (decide (((xs.length : Nat) : Int) ≤ 20000)) with hb23 | hb23
     · have hb23' := of_decide_eq_true hb23
       refine seq_do (v := .bool true) hA rfl rfl rfl (does_bin rfl rfl (fun w => (bin_leq w).trans (by rw [hb23]))) ?_
       intro a hA
       refine seq_end ?_
       refine hK22 _ _ ?_
       refine wp_cond_true (hA.ev rfl) ?_
       refine wp_region_lit ?_
       refine seq_do hA rfl rfl rfl (does_move rfl) ?_
       intro a hA
       refine seq_do hA rfl rfl rfl (does_move rfl) ?_
       intro a hA
       refine s_appendE (e := 31) (sz := 11) (k := 2) (q := xs.length) (m := ys.length) (xs := cellsOf xs) (news := cellsOf ys) (L' := fun v24 => (.row 31 11 (.slice so7 ys.length ca7) ys.length (cellsOf ys) :: .obj g13 (.cells (t1.d.cells t1.ts.length).toArray 31) :: .row 31 11 (v24) (xs.length + ys.length) (cellsOf xs ++ cellsOf ys) :: [])) hA rfl rfl rfl (m_appX (z := .agg #[.int .i64 0, .int .i64 0, .bool false, .slice none 0 0, .slice none 0 0, .bool false, .slice none 0 0, .slice none 0 0, .string ⟨#[]⟩, .slice none 0 0, .slice none 0 0]) (sz := 11) (by_ := 192) Tryd.underlying22 (by kernel_rfl) rfl rfl rfl hM 2 rfl rfl rfl (cellsOf_len ys) (rc_own (hM.has 0 rfl)) (cellsOf_oneC ys) (by omega)) (fun _ => rfl) ?_
       intro v24 w25 hM a hA
       replace hM : Mg w w25 (.row 31 11 (.slice so7 ys.length ca7) ys.length (cellsOf ys) :: .obj g13 (.cells (t1.d.cells t1.ts.length).toArray 31) :: .row 31 11 (v24) ((xs ++ ys).length) (cellsOf (xs ++ ys)) :: []) := by
         rw [cellsOf_append, List.length_append]; exact hM
       obtain ⟨so26, ca27, rfl⟩ := owns_any (hM.has 2 rfl)
       refine seq_do hA rfl rfl rfl (does_assign rfl) ?_
       intro a hA
       refine seq_end ?_
       refine hK11 _ _ ?_
       refine wp_region_lit ?_
       refine seq_do (v := .int .i64 (((i + 1 : Nat) : Int))) hA rfl rfl rfl (does_bin rfl rfl (fun w => (bin_add (i64In (by omega) (by omega)) w).trans (by rw [show (((i : Nat) : Int) + 1 : Int) = ((i + 1 : Nat) : Int) from by omega]))) ?_
       intro a hA
       refine seq_do hA rfl rfl rfl (does_move rfl) ?_
       intro a hA
       refine seq_end ?_
       have hyb := asList_bulk hy1
       replace hM : Mg w w25 (.row 31 11 (.slice so26 ((xs ++ ys).length) ca27) ((xs ++ ys).length) (cellsOf (xs ++ ys)) :: []) := by
         have h9 := hM.sub (.cons _ (.cons _ (.cons_cons _ (.refl _))))
         exact h9
       refine hK6 _ _ _ (by omega) ⟨i + 1, xs ++ ys, so26, ca27, rfl, ⟨by omega, (fun x hx => (List.mem_append.1 hx).elim (hxs x) (hy2 x)), by rw [List.map_append, bulks_append]; omega, _, by rw [take_tr it1]; exact joinS_snoc hJ hy1, hor.elim (fun e => .inl (by rw [List.map_append, e])) (fun e => by omega)⟩, hA.keep _ ⟨rfl, rfl, rfl, rfl, rfl, trivial⟩, hM⟩
     · have hb23' := of_decide_eq_false hb23
       refine seq_do (v := .bool false) hA rfl rfl rfl (does_bin rfl rfl (fun w => (bin_leq w).trans (by rw [hb23]))) ?_
       intro a hA
       refine seq_end ?_
       refine hK22 _ _ ?_
       refine wp_cond_false (hA.ev rfl) ?_
       refine wp_skip ?_
       refine hK11 _ _ ?_
       refine wp_region_lit ?_
       refine seq_do (v := .int .i64 (((i + 1 : Nat) : Int))) hA rfl rfl rfl (does_bin rfl rfl (fun w => (bin_add (i64In (by omega) (by omega)) w).trans (by rw [show (((i : Nat) : Int) + 1 : Int) = ((i + 1 : Nat) : Int) from by omega]))) ?_
       intro a hA
       refine seq_do hA rfl rfl rfl (does_move rfl) ?_
       intro a hA
       refine seq_end ?_
       have hyb := asList_bulk hy1
       replace hM : Mg w w19 (.row 31 11 (.slice so_ xs.length ca_) xs.length (cellsOf xs) :: []) := by
         have h9 := hM.sub (.cons _ (.cons _ (.cons_cons _ (.refl _))))
         exact h9
       refine hK6 _ _ _ (by omega) ⟨i + 1, xs, so_, ca_, rfl, ⟨by omega, hxs, by omega, _, by rw [take_tr it1]; exact joinS_snoc hJ hy1, .inr ⟨by omega, by rw [List.length_append]; exact hor.elim (fun e => by rw [← e, List.length_map]; omega) (fun e => by omega)⟩⟩, hA.keep _ ⟨rfl, rfl, rfl, rfl, rfl, trivial⟩, hM⟩
   · refine seq_call hA rfl rfl rfl (enters_func rfl rfl (fun w => by kernel_rfl)) (unlinked_none hM.bel rt1_ (sound_all (hS t1 mt1)) (by omega) hb17) ?_
     rintro _ w29 ⟨rfl, hb28⟩
     replace hM := hM.call hb28
     refine ⟨_, rfl, ?_⟩
     intro a hA
     refine seq_do hA rfl rfl rfl (does_move rfl) ?_
     intro a hA
     refine seq_do (v := .slice none 0 0) hA rfl rfl rfl (does_extract (vs := [.slice none 0 0, .int .i64 10]) rfl rfl) ?_
     intro a hA
     refine seq_do (v := .int .i64 10) hA rfl rfl rfl (does_extract (vs := [.slice none 0 0, .int .i64 10]) rfl rfl) ?_
     intro a hA
     refine seq_do hA rfl rfl rfl (does_assign rfl) ?_
     intro a hA
     refine seq_do hA rfl rfl rfl (does_assign rfl) ?_
     intro a hA
     refine seq_end ?_
     refine hK16 _ _ ?_
     refine wp_seq_k (fun K30 hK30 => ?_)
     refine wp_seq_k (fun K31 hK31 => ?_)
     refine wp_region_lit ?_
     refine seq_do hA rfl rfl rfl (does_move rfl) ?_
     intro a hA
     refine seq_do (v := .bool true) hA rfl rfl rfl (does_bin rfl rfl (fun w => by kernel_rfl)) ?_
     intro a hA
     refine seq_end ?_
     refine hK31 _ _ ?_
     refine wp_cond_true (hA.ev rfl) ?_
     refine wp_seq_k (fun K32 hK32 => ?_)
     refine wp_region_lit ?_
     refine seq_do hA rfl rfl rfl (does_move rfl) ?_
     intro a hA
     refine seq_do hA rfl rfl rfl (does_assign rfl) ?_
     intro a hA
     refine seq_do hA rfl rfl rfl (does_assign rfl) ?_
     intro a hA
     refine seq_end ?_
     refine hK32 _ _ ?_
     refine wp_ret ?_
     refine hret _ _ ?_
     refine ends (v := .tuple #[.slice none 0 0, .int .i64 10]) hA rfl (.cons (res_tmp rfl) (.cons (res_tmp rfl) .nil)) rfl ?_
     exact .inr ⟨rfl, join_stop hJ it1 (Option.isSome_eq_false_iff.1 hb17 |> Option.isNone_iff_eq_none.1), hM.bel⟩
 · have hb9' := of_decide_eq_false hb9
   refine seq_do (v := .bool false) hA rfl rfl rfl (does_bin rfl rfl (fun w => (bin_lss w).trans (by rw [hb9]))) ?_
   intro a hA
   refine seq_end ?_
   refine hK8 _ _ ?_
   refine wp_seq_k (fun K33 hK33 => ?_)
   refine wp_cond_false (hA.ev rfl) ?_
   refine wp_exit ?_
   refine hK3 _ _ ?_
   refine wp_seq_k (fun K34 hK34 => ?_)
   refine wp_region_lit ?_
   refine seq_do hA rfl rfl rfl (does_move rfl) ?_
   intro a hA
   refine seq_do hA rfl rfl rfl (does_assign rfl) ?_
   intro a hA
   refine seq_do hA rfl rfl rfl (does_assign rfl) ?_
   intro a hA
   refine seq_end ?_
   refine hK34 _ _ ?_
   refine wp_ret ?_
   refine hret _ _ ?_
   refine ends (v := .tuple #[.slice so_ xs.length ca_, .int .i64 0]) hA rfl (.cons (res_tmp rfl) (.cons (res_tmp rfl) .nil)) rfl ?_
   replace hM : Mg w w5 (.row 31 11 (.slice so_ xs.length ca_) xs.length (cellsOf xs) :: []) := by
     have h9 := hM.sub (.cons_cons _ (.refl _))
     exact h9
   have e9 : ts.take i = ts := List.take_of_length_le (by omega)
   rw [e9] at hJ hbx
   exact .inl ⟨_, _, xs, J, rfl, ⟨hJ, hor, hxs, hbx⟩, hM⟩
theorem listOf_any {w : World} {so : Option Addr} {ca : Nat} {ts : List Dt} (hR : Rt w so ts) (hD : ∀ t ∈ ts, t.rd w) (hb : Tr.bulks (ts.map Dt.tr) ≤ 400000000) : Calls Tryd.prog 15 #[.slice so ts.length ca] w fun e w' => ∃ t2 : Dt, e = .returned (.agg (t2.d.cells t2.ts.length).toArray) ∧ (t2.rd w' ∧ t2.at_ (w.heap.size ≤ ·) ∧ t2.tr = linkT (ts.map Dt.tr) nilT) ∧ Below w.heap.size w w' := by
 have hbl := bulks_len ts
 have hnb : nilD.tr.bulk = 1 := by rw [nilD_tr]; rfl
 have hM : Mg w w ([]) := Mg.start w
 refine walk_of (l := [(0, .slice so ts.length ca)]) Tryd.func15 rfl Tryd.ntmps15 rfl rfl ?_
 intro Q hret hnorm hP a hA
 refine wp_seq_k (fun K1 hK1 => ?_)
 refine wp_region_lit ?_
 refine s_new (vs := [.int .i64 0, .int .i64 0, .bool false, .slice none 0 0, .slice none 0 0, .bool false, .slice none 0 0, .slice none 0 0, .string (⟨#[]⟩), .slice none 0 0, .slice none 0 0]) (t := 31) hA hM rfl rfl rfl (fun g => .pointer (some ⟨g, 0, none⟩)) (does_alloc (z := .agg #[.int .i64 0, .int .i64 0, .bool false, .slice none 0 0, .slice none 0 0, .bool false, .slice none 0 0, .slice none 0 0, .string (⟨#[]⟩), .slice none 0 0, .slice none 0 0]) (by kernel_rfl) rfl) (by decide) ?_
 intro g2 w3 hM a hA
 refine seq_end ?_
 refine hK1 _ _ ?_
 refine wp_seq_k (fun K4 hK4 => ?_)
 refine wp_region_lit ?_
 refine seq_do hA rfl rfl rfl (does_move rfl) ?_
 intro a hA
 refine seq_call hA rfl rfl rfl (enters_func rfl rfl (fun w => by kernel_rfl)) (end_any) ?_
 rintro _ w6 ⟨rfl, hb5⟩
 replace hM := hM.call hb5
 refine ⟨_, rfl, ?_⟩
 intro a hA
 have hlt7 := (Ck.lt (hM.has 0 rfl) g2 rfl).2
 have hzt3 := hM.bel.size
 refine seq_call hA rfl rfl rfl (enters_func rfl rfl (fun w => by kernel_rfl)) (linked_any (hR.below hM.bel) (fun t ht => Dt.keep hM.bel _ (hD t ht)) (nilD_rd _) (by omega)) ?_
 rintro _ w9 ⟨t3, rfl, ⟨hrt3, htt3⟩, hb8⟩
 replace hM := hM.call hb8
 refine ⟨_, rfl, ?_⟩
 intro a hA
 have hlt10 := (Ck.lt (hM.has 0 rfl) g2 rfl).2
 have hzt2 := hM.bel.size
 refine seq_call hA rfl rfl rfl (enters_func rfl rfl (fun w => by kernel_rfl)) (copies_all t3 hrt3 (by rw [htt3, link_bulk, List.length_map]; omega)) ?_
 rintro _ w12 ⟨t2, rfl, ⟨hrt2, hat2, htt2⟩, hb11⟩
 replace hM := hM.call hb11
 refine ⟨_, rfl, ?_⟩
 intro a hA
 refine s_storeD (us := [.int .i64 t2.d.k, .int .i64 t2.d.n, .bool t2.d.y.q.b1, .slice t2.d.y.o1 t2.d.y.q.t1.length t2.d.y.c1, .slice t2.d.y.o2 t2.d.y.q.q1.length t2.d.y.c2, .bool t2.d.y.q.b2, .slice t2.d.y.o3 t2.d.y.q.t2.length t2.d.y.c3, .slice t2.d.y.o4 t2.d.y.q.q2.length t2.d.y.c4, .string t2.d.s, .slice t2.d.ro t2.d.rl.length t2.d.rc, .slice t2.d.lo t2.ts.length t2.d.lc]) (L' := (.obj g2 (.cells (t2.d.cells t2.ts.length).toArray 31) :: [])) hA hM rfl rfl (m_store rfl rfl rfl (by kernel_rfl) hM 0 rfl rfl rfl) 0 rfl rfl rfl ?_
 intro w13 hM hK14
 replace hrt2 := Dt.kept hK14 _ hrt2 (Dt.at_mono (fun b hb => by rintro rfl; omega) _ hat2)
 refine seq_end ?_
 refine hK4 _ _ ?_
 refine wp_ret ?_
 refine hret _ _ ?_
 refine ends (v := .agg (t2.d.cells t2.ts.length).toArray) hA rfl (.cons (res_cellS hM LiF_isS_31 rfl 0 rfl (cs := [.int .i64 t2.d.k, .int .i64 t2.d.n, .bool t2.d.y.q.b1, .slice t2.d.y.o1 t2.d.y.q.t1.length t2.d.y.c1, .slice t2.d.y.o2 t2.d.y.q.q1.length t2.d.y.c2, .bool t2.d.y.q.b2, .slice t2.d.y.o3 t2.d.y.q.t2.length t2.d.y.c3, .slice t2.d.y.o4 t2.d.y.q.q2.length t2.d.y.c4, .string t2.d.s, .slice t2.d.ro t2.d.rl.length t2.d.rc, .slice t2.d.lo t2.ts.length t2.d.lc]) rfl rfl) .nil) rfl ?_
 exact ⟨t2, rfl, ⟨hrt2, Dt.at_mono (fun b hb => Nat.le_trans hzt2 hb) _ hat2, by rw [htt2, htt3, nilD_tr]⟩, hM.bel⟩
theorem fitting_any {w : World} {so : Option Addr} {ca : Nat} {ts : List Dt} (hR : Rt w so ts) (hD : ∀ t ∈ ts, t.rd w) {u : Dt} (hu : u.rd w) (hb : Tr.bulks (ts.map Dt.tr) + u.tr.bulk ≤ 400000000) (hT : Tabs8 w) : Calls Tryd.prog 10 #[.slice so ts.length ca, .agg (u.d.cells u.ts.length).toArray] w fun e w' => ∃ (t2 : Dt) (k : Int), e = .returned (.tuple #[.agg (t2.d.cells t2.ts.length).toArray, .int .i64 k]) ∧ (t2.rd w' ∧ t2.at_ (w.heap.size ≤ ·) ∧ (t2.tr, k) = fitS (ts.map Dt.tr) u.tr) ∧ Below w.heap.size w w' := by
 have hbl := bulks_len ts
 have hM : Mg w w ([]) := Mg.start w
 refine walk_of (l := [(0, .slice so ts.length ca), (1, .agg (u.d.cells u.ts.length).toArray)]) Tryd.func10 rfl Tryd.ntmps10 rfl rfl ?_
 intro Q hret hnorm hP a hA
 refine wp_seq_k (fun K1 hK1 => ?_)
 refine wp_region_lit ?_
 refine s_new (vs := [.int .i64 u.d.k, .int .i64 u.d.n, .bool u.d.y.q.b1, .slice u.d.y.o1 u.d.y.q.t1.length u.d.y.c1, .slice u.d.y.o2 u.d.y.q.q1.length u.d.y.c2, .bool u.d.y.q.b2, .slice u.d.y.o3 u.d.y.q.t2.length u.d.y.c3, .slice u.d.y.o4 u.d.y.q.q2.length u.d.y.c4, .string u.d.s, .slice u.d.ro u.d.rl.length u.d.rc, .slice u.d.lo u.ts.length u.d.lc]) (t := 31) hA hM rfl rfl rfl (fun g => .pointer (some ⟨g, 0, none⟩)) (does_box rfl rfl) (by decide) ?_
 intro g2 w3 hM a hA
 refine s_new (vs := [.int .i64 0, .int .i64 0, .bool false, .slice none 0 0, .slice none 0 0, .bool false, .slice none 0 0, .slice none 0 0, .string (⟨#[]⟩), .slice none 0 0, .slice none 0 0]) (t := 31) hA hM rfl rfl rfl (fun g => .pointer (some ⟨g, 0, none⟩)) (does_alloc (z := .agg #[.int .i64 0, .int .i64 0, .bool false, .slice none 0 0, .slice none 0 0, .bool false, .slice none 0 0, .slice none 0 0, .string (⟨#[]⟩), .slice none 0 0, .slice none 0 0]) (by kernel_rfl) rfl) (by decide) ?_
 intro g4 w5 hM a hA
 refine seq_do hA rfl rfl rfl (does_assign rfl) ?_
 intro a hA
 refine seq_end ?_
 refine hK1 _ _ ?_
 refine wp_seq_k (fun K6 hK6 => ?_)
 refine wp_seq_k (fun K7 hK7 => ?_)
 refine wp_region_lit ?_
 refine seq_do hA rfl rfl rfl (does_move rfl) ?_
 intro a hA
 refine seq_do (v := .int .i64 (((ts.length : Nat) : Int))) hA rfl rfl rfl (does_len Tryd.underlying22 rfl) ?_
 intro a hA
 rcases Bool.eq_false_or_eq_true (decide (20000 < ((ts.length : Nat) : Int))) with hb8 | hb8
 · have hb8' := of_decide_eq_true hb8
   refine seq_do (v := .bool true) hA rfl rfl rfl (does_bin rfl rfl (fun w => (bin_gtr w).trans (by rw [hb8]))) ?_
   intro a hA
   refine seq_end ?_
   refine hK7 _ _ ?_
   refine wp_cond_true (hA.ev rfl) ?_
   refine wp_seq_k (fun K9 hK9 => ?_)
   refine wp_region_lit ?_
   refine seq_do (v := .agg #[.int .i64 0, .int .i64 0, .bool false, .slice none 0 0, .slice none 0 0, .bool false, .slice none 0 0, .slice none 0 0, .string (⟨#[]⟩), .slice none 0 0, .slice none 0 0]) hA rfl rfl rfl (does_build rfl (fun w => by kernel_rfl)) ?_
   intro a hA
   refine s_store (us := [.int .i64 0, .int .i64 0, .bool false, .slice none 0 0, .slice none 0 0, .bool false, .slice none 0 0, .slice none 0 0, .string (⟨#[]⟩), .slice none 0 0, .slice none 0 0]) (L' := (.obj g4 (.cells #[.int .i64 0, .int .i64 0, .bool false, .slice none 0 0, .slice none 0 0, .bool false, .slice none 0 0, .slice none 0 0, .string (⟨#[]⟩), .slice none 0 0, .slice none 0 0] 31) :: .obj g2 (.cells (u.d.cells u.ts.length).toArray 31) :: [])) hA hM rfl rfl (m_store rfl rfl rfl (by kernel_rfl) hM 0 rfl rfl rfl) 0 rfl rfl rfl ?_
   intro w10 hM
   refine seq_do hA rfl rfl rfl (does_assign rfl) ?_
   intro a hA
   refine seq_end ?_
   refine hK9 _ _ ?_
   refine wp_ret ?_
   refine hret _ _ ?_
   refine ends (v := .tuple #[.agg #[.int .i64 0, .int .i64 0, .bool false, .slice none 0 0, .slice none 0 0, .bool false, .slice none 0 0, .slice none 0 0, .string (⟨#[]⟩), .slice none 0 0, .slice none 0 0], .int .i64 4]) hA rfl (.cons (res_cellS hM LiF_isS_31 rfl 0 rfl (cs := [.int .i64 0, .int .i64 0, .bool false, .slice none 0 0, .slice none 0 0, .bool false, .slice none 0 0, .slice none 0 0, .string (⟨#[]⟩), .slice none 0 0, .slice none 0 0]) rfl rfl) (.cons (res_tmp rfl) .nil)) rfl ?_
   exact ⟨zeroD, 4, rfl, ⟨zeroD_rd _, zeroD_at _, by rw [fitS_long (by rw [List.length_map]; omega), zeroD_tr]⟩, hM.bel⟩
 · have hb8' := of_decide_eq_false hb8
   refine seq_do (v := .bool false) hA rfl rfl rfl (does_bin rfl rfl (fun w => (bin_gtr w).trans (by rw [hb8]))) ?_
   intro a hA
   refine seq_end ?_
   refine hK7 _ _ ?_
   refine wp_cond_false (hA.ev rfl) ?_
   refine wp_skip ?_
   refine hK6 _ _ ?_
   refine wp_seq_k (fun K11 hK11 => ?_)
   refine wp_region_lit ?_
   refine seq_do hA rfl rfl rfl (does_move rfl) ?_
   intro a hA
   refine seq_do hA rfl rfl rfl (m_loadS hM LiF_isS_31 rfl 1 rfl (cs := [.int .i64 u.d.k, .int .i64 u.d.n, .bool u.d.y.q.b1, .slice u.d.y.o1 u.d.y.q.t1.length u.d.y.c1, .slice u.d.y.o2 u.d.y.q.q1.length u.d.y.c2, .bool u.d.y.q.b2, .slice u.d.y.o3 u.d.y.q.t2.length u.d.y.c3, .slice u.d.y.o4 u.d.y.q.q2.length u.d.y.c4, .string u.d.s, .slice u.d.ro u.d.rl.length u.d.rc, .slice u.d.lo u.ts.length u.d.lc]) rfl rfl) ?_
   intro a hA
   have hlt12 := (Ck.lt (hM.has 0 rfl) g4 rfl).2
   have hlt13 := (Ck.lt (hM.has 1 rfl) g2 rfl).2
   have hzt3 := hM.bel.size
   refine seq_call hA rfl rfl rfl (enters_func rfl rfl (fun w => by kernel_rfl)) (linked_any (hR.below hM.bel) (fun t ht => Dt.keep hM.bel _ (hD t ht)) (Dt.keep hM.bel _ hu) (by omega)) ?_
   rintro _ w15 ⟨t3, rfl, ⟨hrt3, htt3⟩, hb14⟩
   replace hM := hM.call hb14
   refine ⟨_, rfl, ?_⟩
   intro a hA
   refine s_newD (vs := [.int .i64 0, .int .i64 0, .bool false, .slice none 0 0, .slice none 0 0, .bool false, .slice none 0 0, .slice none 0 0, .string (⟨#[]⟩), .slice none 0 0, .slice none 0 0]) (t := 31) hA hM rfl rfl rfl (fun g => .pointer (some ⟨g, 0, none⟩)) (does_alloc (z := .agg #[.int .i64 0, .int .i64 0, .bool false, .slice none 0 0, .slice none 0 0, .bool false, .slice none 0 0, .slice none 0 0, .string (⟨#[]⟩), .slice none 0 0, .slice none 0 0]) (by kernel_rfl) rfl) (by decide) ?_
   intro g16 w17 hM hg18 hb19 a hA
   have hnt3g16 := Dt.at_mono (q := (· ≠ g16)) (fun b hb => by intro e; omega) _ (Dt.at_lt _ hrt3)
   replace hrt3 := Dt.keep hb19 _ hrt3
   refine s_storeD (us := [.int .i64 t3.d.k, .int .i64 t3.d.n, .bool t3.d.y.q.b1, .slice t3.d.y.o1 t3.d.y.q.t1.length t3.d.y.c1, .slice t3.d.y.o2 t3.d.y.q.q1.length t3.d.y.c2, .bool t3.d.y.q.b2, .slice t3.d.y.o3 t3.d.y.q.t2.length t3.d.y.c3, .slice t3.d.y.o4 t3.d.y.q.q2.length t3.d.y.c4, .string t3.d.s, .slice t3.d.ro t3.d.rl.length t3.d.rc, .slice t3.d.lo t3.ts.length t3.d.lc]) (L' := (.obj g16 (.cells (t3.d.cells t3.ts.length).toArray 31) :: .obj g4 (.cells #[.int .i64 0, .int .i64 0, .bool false, .slice none 0 0, .slice none 0 0, .bool false, .slice none 0 0, .slice none 0 0, .string (⟨#[]⟩), .slice none 0 0, .slice none 0 0] 31) :: .obj g2 (.cells (u.d.cells u.ts.length).toArray 31) :: [])) hA hM rfl rfl (m_store rfl rfl rfl (by kernel_rfl) hM 0 rfl rfl rfl) 0 rfl rfl rfl ?_
   intro w20 hM hK21
   replace hrt3 := Dt.kept hK21 _ hrt3 hnt3g16
   refine seq_end ?_
   refine hK11 _ _ ?_
   refine wp_seq_k (fun K22 hK22 => ?_)
   refine wp_seq_k (fun K23 hK23 => ?_)
   refine wp_region_lit ?_
   refine seq_do hA rfl rfl rfl (m_loadS hM LiF_isS_31 rfl 0 rfl (cs := [.int .i64 t3.d.k, .int .i64 t3.d.n, .bool t3.d.y.q.b1, .slice t3.d.y.o1 t3.d.y.q.t1.length t3.d.y.c1, .slice t3.d.y.o2 t3.d.y.q.q1.length t3.d.y.c2, .bool t3.d.y.q.b2, .slice t3.d.y.o3 t3.d.y.q.t2.length t3.d.y.c3, .slice t3.d.y.o4 t3.d.y.q.q2.length t3.d.y.c4, .string t3.d.s, .slice t3.d.ro t3.d.rl.length t3.d.rc, .slice t3.d.lo t3.ts.length t3.d.lc]) rfl rfl) ?_
   intro a hA
   rcases Bool.eq_false_or_eq_true (soundT shapeT t3.tr) with hb24 | hb24
   · refine seq_call hA rfl rfl rfl (enters_func rfl rfl (fun w => by kernel_rfl)) ((hb24 ▸ sound_any (t := t3) hrt3 (hT.below hM.bel))) ?_
     rintro _ w26 ⟨rfl, hb25⟩
     replace hrt3 := Dt.keep hb25 _ hrt3
     replace hM := hM.call hb25
     refine ⟨_, rfl, ?_⟩
     intro a hA
     refine seq_do (v := .bool false) hA rfl rfl rfl (does_un rfl un_not) ?_
     intro a hA
     refine seq_end ?_
     refine hK23 _ _ ?_
     refine wp_cond_false (hA.ev rfl) ?_
     refine wp_skip ?_
     refine hK22 _ _ ?_
     refine wp_seq_k (fun K27 hK27 => ?_)
     refine wp_region_lit ?_
     refine seq_do hA rfl rfl rfl (m_loadS hM LiF_isS_31 rfl 0 rfl (cs := [.int .i64 t3.d.k, .int .i64 t3.d.n, .bool t3.d.y.q.b1, .slice t3.d.y.o1 t3.d.y.q.t1.length t3.d.y.c1, .slice t3.d.y.o2 t3.d.y.q.q1.length t3.d.y.c2, .bool t3.d.y.q.b2, .slice t3.d.y.o3 t3.d.y.q.t2.length t3.d.y.c3, .slice t3.d.y.o4 t3.d.y.q.q2.length t3.d.y.c4, .string t3.d.s, .slice t3.d.ro t3.d.rl.length t3.d.rc, .slice t3.d.lo t3.ts.length t3.d.lc]) rfl rfl) ?_
     intro a hA
     have hlt28 := (Ck.lt (hM.has 0 rfl) g16 rfl).2
     have hlt29 := (Ck.lt (hM.has 1 rfl) g4 rfl).2
     have hlt30 := (Ck.lt (hM.has 2 rfl) g2 rfl).2
     have hzt2 := hM.bel.size
     refine seq_call hA rfl rfl rfl (enters_func rfl rfl (fun w => by kernel_rfl)) (copies_all t3 hrt3 (by rw [htt3, link_bulk, List.length_map]; omega)) ?_
     rintro _ w32 ⟨t2, rfl, ⟨hrt2, hat2, htt2⟩, hb31⟩
     replace hM := hM.call hb31
     refine ⟨_, rfl, ?_⟩
     intro a hA
     refine s_storeD (us := [.int .i64 t2.d.k, .int .i64 t2.d.n, .bool t2.d.y.q.b1, .slice t2.d.y.o1 t2.d.y.q.t1.length t2.d.y.c1, .slice t2.d.y.o2 t2.d.y.q.q1.length t2.d.y.c2, .bool t2.d.y.q.b2, .slice t2.d.y.o3 t2.d.y.q.t2.length t2.d.y.c3, .slice t2.d.y.o4 t2.d.y.q.q2.length t2.d.y.c4, .string t2.d.s, .slice t2.d.ro t2.d.rl.length t2.d.rc, .slice t2.d.lo t2.ts.length t2.d.lc]) (L' := (.obj g16 (.cells (t3.d.cells t3.ts.length).toArray 31) :: .obj g4 (.cells (t2.d.cells t2.ts.length).toArray 31) :: .obj g2 (.cells (u.d.cells u.ts.length).toArray 31) :: [])) hA hM rfl rfl (m_store rfl rfl rfl (by kernel_rfl) hM 1 rfl rfl rfl) 1 rfl rfl rfl ?_
     intro w33 hM hK34
     replace hrt2 := Dt.kept hK34 _ hrt2 (Dt.at_mono (fun b hb => by rintro rfl; omega) _ hat2)
     refine seq_do hA rfl rfl rfl (does_assign rfl) ?_
     intro a hA
     refine seq_end ?_
     refine hK27 _ _ ?_
     refine wp_ret ?_
     refine hret _ _ ?_
     refine ends (v := .tuple #[.agg (t2.d.cells t2.ts.length).toArray, .int .i64 0]) hA rfl (.cons (res_cellS hM LiF_isS_31 rfl 1 rfl (cs := [.int .i64 t2.d.k, .int .i64 t2.d.n, .bool t2.d.y.q.b1, .slice t2.d.y.o1 t2.d.y.q.t1.length t2.d.y.c1, .slice t2.d.y.o2 t2.d.y.q.q1.length t2.d.y.c2, .bool t2.d.y.q.b2, .slice t2.d.y.o3 t2.d.y.q.t2.length t2.d.y.c3, .slice t2.d.y.o4 t2.d.y.q.q2.length t2.d.y.c4, .string t2.d.s, .slice t2.d.ro t2.d.rl.length t2.d.rc, .slice t2.d.lo t2.ts.length t2.d.lc]) rfl rfl) (.cons (res_tmp rfl) .nil)) rfl ?_
     exact ⟨t2, 0, rfl, ⟨hrt2, Dt.at_mono (fun b hb => Nat.le_trans hzt2 hb) _ hat2, by rw [htt3] at hb24; rw [fitS_yes hb24, htt2, htt3]⟩, hM.bel⟩
   · refine seq_call hA rfl rfl rfl (enters_func rfl rfl (fun w => by kernel_rfl)) ((hb24 ▸ sound_any (t := t3) hrt3 (hT.below hM.bel))) ?_
     rintro _ w36 ⟨rfl, hb35⟩
     replace hrt3 := Dt.keep hb35 _ hrt3
     replace hM := hM.call hb35
     refine ⟨_, rfl, ?_⟩
     intro a hA
     refine seq_do (v := .bool true) hA rfl rfl rfl (does_un rfl un_not) ?_
     intro a hA
     refine seq_end ?_
     refine hK23 _ _ ?_
     refine wp_cond_true (hA.ev rfl) ?_
     refine wp_seq_k (fun K37 hK37 => ?_)
     refine wp_region_lit ?_
     refine seq_do (v := .agg #[.int .i64 0, .int .i64 0, .bool false, .slice none 0 0, .slice none 0 0, .bool false, .slice none 0 0, .slice none 0 0, .string (⟨#[]⟩), .slice none 0 0, .slice none 0 0]) hA rfl rfl rfl (does_build rfl (fun w => by kernel_rfl)) ?_
     intro a hA
     refine s_storeD (us := [.int .i64 0, .int .i64 0, .bool false, .slice none 0 0, .slice none 0 0, .bool false, .slice none 0 0, .slice none 0 0, .string (⟨#[]⟩), .slice none 0 0, .slice none 0 0]) (L' := (.obj g16 (.cells (t3.d.cells t3.ts.length).toArray 31) :: .obj g4 (.cells #[.int .i64 0, .int .i64 0, .bool false, .slice none 0 0, .slice none 0 0, .bool false, .slice none 0 0, .slice none 0 0, .string (⟨#[]⟩), .slice none 0 0, .slice none 0 0] 31) :: .obj g2 (.cells (u.d.cells u.ts.length).toArray 31) :: [])) hA hM rfl rfl (m_store rfl rfl rfl (by kernel_rfl) hM 1 rfl rfl rfl) 1 rfl rfl rfl ?_
     intro w38 hM hK39
     refine seq_do hA rfl rfl rfl (does_assign rfl) ?_
     intro a hA
     refine seq_end ?_
     refine hK37 _ _ ?_
     refine wp_ret ?_
     refine hret _ _ ?_
     refine ends (v := .tuple #[.agg #[.int .i64 0, .int .i64 0, .bool false, .slice none 0 0, .slice none 0 0, .bool false, .slice none 0 0, .slice none 0 0, .string (⟨#[]⟩), .slice none 0 0, .slice none 0 0], .int .i64 4]) hA rfl (.cons (res_cellS hM LiF_isS_31 rfl 1 rfl (cs := [.int .i64 0, .int .i64 0, .bool false, .slice none 0 0, .slice none 0 0, .bool false, .slice none 0 0, .slice none 0 0, .string (⟨#[]⟩), .slice none 0 0, .slice none 0 0]) rfl rfl) (.cons (res_tmp rfl) .nil)) rfl ?_
     exact ⟨zeroD, 4, rfl, ⟨zeroD_rd _, zeroD_at _, by rw [htt3] at hb24; rw [fitS_no hb24, zeroD_tr]⟩, hM.bel⟩
end Go.Proofs.YtbnjomifogjdfaaDoor.G
namespace Go.Proofs.YtbnjomifogjdfaaDoor.G
open Go.RowKit
set_option linter.unusedVariables false
set_option linter.unusedSimpArgs false
set_option maxRecDepth 100000
theorem LiG_isS_31 : IsS Tryd.prog 31 11 := ⟨⟨_, Tryd.underlying31⟩, by kernel_rfl⟩
theorem rev_cons {w0 w : World} {g9 c9 : Nat} {ys : List Dt} {T : List Ck} (hl : ys.length ≤ 1000000000) (hne : ys ≠ []) (hM0 : Mg w0 w (.row 31 11 (.slice (some ⟨g9, 0, none⟩) ys.length c9) ys.length (cellsOf ys) :: T)) : Calls Tryd.prog 16 #[.slice (some ⟨g9, 0, none⟩) ys.length c9] w fun e w' => e = .returned (.tuple #[]) ∧ Mg w0 w' (.row 31 11 (.slice (some ⟨g9, 0, none⟩) ys.length c9) ys.length (cellsOf ys.reverse) :: T) := by
 have hpos : 0 < ys.length := List.length_pos_iff.2 hne
 have hM : Mg w0 w (.row 31 11 (.slice (some ⟨g9, 0, none⟩) ys.length c9) ys.length (cellsOf ys) :: T) := hM0
 refine walk_of (l := [(0, .slice (some ⟨g9, 0, none⟩) ys.length c9)]) Tryd.func16 rfl Tryd.ntmps16 rfl rfl ?_
 intro Q hret hnorm hP a hA
 refine wp_seq_k (fun K1 hK1 => ?_)
 refine wp_region_lit ?_
 refine seq_do hA rfl rfl rfl (does_move rfl) ?_
 intro a hA
 refine seq_do (v := .int .i64 (((ys.length : Nat) : Int))) hA rfl rfl rfl (does_len Tryd.underlying22 rfl) ?_
 intro a hA
 refine seq_do (v := .int .i64 (((ys.length : Nat) : Int) - 1 - ((0 : Nat) : Int))) hA rfl rfl rfl (does_bin rfl rfl (ar_sub ((in_i64 (by omega) (by omega)).trans (by omega)))) ?_
 intro a hA
 refine seq_do hA rfl rfl rfl (does_assign rfl) ?_
 intro a hA
 refine seq_do hA rfl rfl rfl (does_assign rfl) ?_
 intro a hA
 refine seq_end ?_
 refine hK1 _ _ ?_
 refine wp_block ?_
 refine wp_loop_n (fun m_ a w1 => ∃ (i : Nat) (zs : List Dt), m_ = 1 + (ys.length - i) ∧ (i ≤ ys.length ∧ RevI ys zs i) ∧ Sl a 28 [(0, .slice (some ⟨g9, 0, none⟩) ys.length c9), (2, .int .i64 (((i : Nat) : Int))), (3, .int .i64 (((ys.length : Nat) : Int) - 1 - ((i : Nat) : Int))), (4, .slice (some ⟨g9, 0, none⟩) ys.length c9), (5, .int .i64 (((ys.length : Nat) : Int))), (6, .int .i64 (((ys.length : Nat) : Int) - 1 - ((0 : Nat) : Int)))] ∧ Mg w0 w1 (.row 31 11 (.slice (some ⟨g9, 0, none⟩) ys.length c9) ys.length (cellsOf zs) :: T)) _ ⟨0, ys, rfl, ⟨Nat.zero_le _, revI_zero ys⟩, hA.keep _ ⟨rfl, rfl, rfl, rfl, rfl, rfl, trivial⟩, hM⟩ ?_
 clear hM hA
 rintro m_ a w2 ⟨i, zs, rfl, hinv4, hA, hM⟩ K3 hK3
 obtain ⟨hi0, hrv⟩ := hinv4
 refine wp_seq_k (fun K5 hK5 => ?_)
 refine wp_seq_k (fun K6 hK6 => ?_)
 refine wp_region_lit ?_
 refine seq_do hA rfl rfl rfl (does_move rfl) ?_
 intro a hA
 refine seq_do hA rfl rfl rfl (does_move rfl) ?_
 intro a hA
 rcases Bool.eq_false_or_eq_true (decide (((i : Nat) : Int) < ((ys.length : Nat) : Int) - 1 - ((i : Nat) : Int))) with hb7 | hb7
 · have hb7' := of_decide_eq_true hb7
   refine seq_do (v := .bool true) hA rfl rfl rfl (does_bin rfl rfl (fun w => (bin_lss w).trans (by rw [hb7]))) ?_
   intro a hA
   refine seq_end ?_
   refine hK6 _ _ ?_
   refine wp_cond_true (hA.ev rfl) ?_
   refine wp_skip ?_
   refine hK5 _ _ ?_
   refine wp_seq_k (fun K8 hK8 => ?_)
   refine wp_block ?_
   have hzl := hrv.1
   obtain ⟨a1, hza⟩ : ∃ a, zs[i]? = some a := ⟨_, List.getElem?_eq_getElem (by omega)⟩
   obtain ⟨b1, hzb⟩ : ∃ b, zs[ys.length - 1 - i]? = some b := ⟨_, List.getElem?_eq_getElem (by omega)⟩
   refine wp_draw (S := fun w1 => Mg w0 w1 ([])) (by kernel_rfl) ?_
   replace hM := hM.drew
   refine any_tk hA 0 rfl rfl rfl rfl hP (hM.sub (.cons _ (List.nil_sublist _))) (fun w1 hM => does_move rfl) ?_
   intro a hA
   refine any_tk hA 1 rfl rfl rfl rfl hP (hM.sub (.cons _ (List.nil_sublist _))) (fun w1 hM => does_move rfl) ?_
   intro a hA
   refine any_tk hA 2 rfl rfl rfl rfl hP (hM.sub (.cons _ (List.nil_sublist _))) (fun w1 hM => does_move rfl) ?_
   intro a hA
   refine any_tk hA 3 rfl rfl rfl rfl hP (hM.sub (.cons _ (List.nil_sublist _))) (fun w1 hM => does_move rfl) ?_
   intro a hA
   refine any_tk hA 4 rfl rfl rfl rfl hP (hM.sub (.cons _ (List.nil_sublist _))) (fun w1 hM => does_move rfl) ?_
   intro a hA
   refine any_tk hA 5 rfl rfl rfl rfl hP (hM.sub (.cons _ (List.nil_sublist _))) (fun w1 hM => does_move rfl) ?_
   intro a hA
   refine any_tk (v := .pointer (some ⟨g9, (ys.length - 1 - i) * 11, none⟩)) hA 6 rfl rfl rfl rfl hP (hM.sub (.cons _ (List.nil_sublist _))) (fun w1 hM => does_indexE (k := (ys.length - 1 - i)) Tryd.underlying22 (by kernel_rfl) rfl rfl (by omega) (by omega)) ?_
   intro a hA
   refine any_tk hA 8 rfl rfl rfl rfl hP (hM.sub (.cons _ (List.nil_sublist _))) (fun w1 hM => does_move rfl) ?_
   intro a hA
   refine any_tk hA 9 rfl rfl rfl rfl hP (hM.sub (.cons _ (List.nil_sublist _))) (fun w1 hM => does_move rfl) ?_
   intro a hA
   refine any_tk (v := .pointer (some ⟨g9, i * 11, none⟩)) hA 10 rfl rfl rfl rfl hP (hM.sub (.cons _ (List.nil_sublist _))) (fun w1 hM => does_indexE (k := i) Tryd.underlying22 (by kernel_rfl) rfl rfl (by omega) (by omega)) ?_
   intro a hA
   refine any_many (rs := [7, 11]) (by kernel_rfl) (by simp) ⟨?_, ?_, trivial⟩
   · refine op_do hA 7 rfl rfl rfl rfl (m_loadES (o := (ys.length - 1 - i) * 11) (cs := b1.d.cells b1.ts.length) hM 0 rfl LiG_isS_31 (cellsOf_at hzb) rfl rfl) (hM.sub (.cons _ (List.nil_sublist _))) ?_
     intro a hA
     refine any_one (by kernel_rfl) (op_do hA 11 rfl rfl rfl rfl (m_loadES (o := i * 11) (cs := a1.d.cells a1.ts.length) hM 0 rfl LiG_isS_31 (cellsOf_at hza) rfl rfl) (hM.sub (.cons _ (List.nil_sublist _))) ?_)
     intro a hA
     refine any_tk (v := .pointer (some ⟨g9, i * 11, none⟩)) hA 12 rfl rfl rfl rfl hP (hM.sub (.cons _ (List.nil_sublist _))) (fun w1 hM => does_indexE (k := i) Tryd.underlying22 (by kernel_rfl) rfl rfl (by omega) (by omega)) ?_
     intro a hA
     refine any_one (by kernel_rfl) (g_storeRD (us := cellsOf (zs.set i b1)) (L' := (.row 31 11 (.slice (some ⟨g9, 0, none⟩) ys.length c9) ys.length (cellsOf (zs.set i b1)) :: T)) hA hM 13 rfl rfl rfl (m_storeE (cs := b1.d.cells b1.ts.length) rfl rfl rfl (by kernel_rfl) hM 0 rfl (by show _ + 11 ≤ _; omega) (cells_all b1)) 0 rfl (over_row (by rw [hzl]; omega) rfl) rfl ?_)
     intro w9 hM
     refine ⟨(hM.sub (.cons _ (List.nil_sublist _))), ?_⟩
     refine any_tk (v := .pointer (some ⟨g9, (ys.length - 1 - i) * 11, none⟩)) hA 14 rfl rfl rfl rfl hP (hM.sub (.cons _ (List.nil_sublist _))) (fun w1 hM => does_indexE (k := (ys.length - 1 - i)) Tryd.underlying22 (by kernel_rfl) rfl rfl (by omega) (by omega)) ?_
     intro a hA
     refine any_one (by kernel_rfl) (g_storeRD (us := cellsOf ((zs.set i b1).set (ys.length - 1 - i) a1)) (L' := (.row 31 11 (.slice (some ⟨g9, 0, none⟩) ys.length c9) ys.length (cellsOf ((zs.set i b1).set (ys.length - 1 - i) a1)) :: T)) hA hM 15 rfl rfl rfl (m_storeE (cs := a1.d.cells a1.ts.length) rfl rfl rfl (by kernel_rfl) hM 0 rfl (by show _ + 11 ≤ _; omega) (cells_all a1)) 0 rfl (over_row (by rw [List.length_set, hzl]; omega) rfl) rfl ?_)
     intro w10 hM
     refine ⟨(hM.sub (.cons _ (List.nil_sublist _))), ?_⟩
     refine any_end (by kernel_rfl) ?_
     refine hK8 _ _ ?_
     refine wp_region_lit ?_
     refine seq_do hA rfl rfl rfl (does_move rfl) ?_
     intro a hA
     refine seq_do (v := .int .i64 (((i + 1 : Nat) : Int))) hA rfl rfl rfl (does_bin rfl rfl (ar_add ((in_i64 (by omega) (by omega)).trans (by omega)))) ?_
     intro a hA
     refine seq_do hA rfl rfl rfl (does_move rfl) ?_
     intro a hA
     refine seq_do (v := .int .i64 (((ys.length : Nat) : Int) - 1 - ((i + 1 : Nat) : Int))) hA rfl rfl rfl (does_bin rfl rfl (ar_sub ((in_i64 (by omega) (by omega)).trans (by omega)))) ?_
     intro a hA
     refine seq_do hA rfl rfl rfl (does_assign rfl) ?_
     intro a hA
     refine seq_do hA rfl rfl rfl (does_assign rfl) ?_
     intro a hA
     refine seq_end ?_
     refine hK3 _ _ _ (by omega) ⟨i + 1, ((zs.set i b1).set (ys.length - 1 - i) a1), rfl, ⟨by omega, revI_step hrv (by omega) hza hzb⟩, hA.keep _ ⟨rfl, rfl, rfl, rfl, rfl, rfl, trivial⟩, hM⟩
   · refine op_do hA 11 rfl rfl rfl rfl (m_loadES (o := i * 11) (cs := a1.d.cells a1.ts.length) hM 0 rfl LiG_isS_31 (cellsOf_at hza) rfl rfl) (hM.sub (.cons _ (List.nil_sublist _))) ?_
     intro a hA
     refine any_one (by kernel_rfl) (op_do hA 7 rfl rfl rfl rfl (m_loadES (o := (ys.length - 1 - i) * 11) (cs := b1.d.cells b1.ts.length) hM 0 rfl LiG_isS_31 (cellsOf_at hzb) rfl rfl) (hM.sub (.cons _ (List.nil_sublist _))) ?_)
     intro a hA
     refine any_tk (v := .pointer (some ⟨g9, i * 11, none⟩)) hA 12 rfl rfl rfl rfl hP (hM.sub (.cons _ (List.nil_sublist _))) (fun w1 hM => does_indexE (k := i) Tryd.underlying22 (by kernel_rfl) rfl rfl (by omega) (by omega)) ?_
     intro a hA
     refine any_one (by kernel_rfl) (g_storeRD (us := cellsOf (zs.set i b1)) (L' := (.row 31 11 (.slice (some ⟨g9, 0, none⟩) ys.length c9) ys.length (cellsOf (zs.set i b1)) :: T)) hA hM 13 rfl rfl rfl (m_storeE (cs := b1.d.cells b1.ts.length) rfl rfl rfl (by kernel_rfl) hM 0 rfl (by show _ + 11 ≤ _; omega) (cells_all b1)) 0 rfl (over_row (by rw [hzl]; omega) rfl) rfl ?_)
     intro w11 hM
     refine ⟨(hM.sub (.cons _ (List.nil_sublist _))), ?_⟩
     refine any_tk (v := .pointer (some ⟨g9, (ys.length - 1 - i) * 11, none⟩)) hA 14 rfl rfl rfl rfl hP (hM.sub (.cons _ (List.nil_sublist _))) (fun w1 hM => does_indexE (k := (ys.length - 1 - i)) Tryd.underlying22 (by kernel_rfl) rfl rfl (by omega) (by omega)) ?_
     intro a hA
     refine any_one (by kernel_rfl) (g_storeRD (us := cellsOf ((zs.set i b1).set (ys.length - 1 - i) a1)) (L' := (.row 31 11 (.slice (some ⟨g9, 0, none⟩) ys.length c9) ys.length (cellsOf ((zs.set i b1).set (ys.length - 1 - i) a1)) :: T)) hA hM 15 rfl rfl rfl (m_storeE (cs := a1.d.cells a1.ts.length) rfl rfl rfl (by kernel_rfl) hM 0 rfl (by show _ + 11 ≤ _; omega) (cells_all a1)) 0 rfl (over_row (by rw [List.length_set, hzl]; omega) rfl) rfl ?_)
     intro w12 hM
     refine ⟨(hM.sub (.cons _ (List.nil_sublist _))), ?_⟩
     refine any_end (by kernel_rfl) ?_
     refine hK8 _ _ ?_
     refine wp_region_lit ?_
     refine seq_do hA rfl rfl rfl (does_move rfl) ?_
     intro a hA
     refine seq_do (v := .int .i64 (((i + 1 : Nat) : Int))) hA rfl rfl rfl (does_bin rfl rfl (ar_add ((in_i64 (by omega) (by omega)).trans (by omega)))) ?_
     intro a hA
     refine seq_do hA rfl rfl rfl (does_move rfl) ?_
     intro a hA
     refine seq_do (v := .int .i64 (((ys.length : Nat) : Int) - 1 - ((i + 1 : Nat) : Int))) hA rfl rfl rfl (does_bin rfl rfl (ar_sub ((in_i64 (by omega) (by omega)).trans (by omega)))) ?_
     intro a hA
     refine seq_do hA rfl rfl rfl (does_assign rfl) ?_
     intro a hA
     refine seq_do hA rfl rfl rfl (does_assign rfl) ?_
     intro a hA
     refine seq_end ?_
     refine hK3 _ _ _ (by omega) ⟨i + 1, ((zs.set i b1).set (ys.length - 1 - i) a1), rfl, ⟨by omega, revI_step hrv (by omega) hza hzb⟩, hA.keep _ ⟨rfl, rfl, rfl, rfl, rfl, rfl, trivial⟩, hM⟩
 · have hb7' := of_decide_eq_false hb7
   refine seq_do (v := .bool false) hA rfl rfl rfl (does_bin rfl rfl (fun w => (bin_lss w).trans (by rw [hb7]))) ?_
   intro a hA
   refine seq_end ?_
   refine hK6 _ _ ?_
   refine wp_cond_false (hA.ev rfl) ?_
   refine wp_exit ?_
   refine hnorm _ _ ?_
   refine ends (v := .tuple #[]) hA rfl .nil rfl ?_
   rw [revI_end hrv (by omega)] at hM
   exact ⟨rfl, hM⟩
theorem rev_nil {w0 w : World} {so9 : Option Addr} {c9 : Nat} {T : List Ck} (hM0 : Mg w0 w (.row 31 11 (.slice so9 ([] : List Dt).length c9) ([] : List Dt).length (cellsOf []) :: T)) : Calls Tryd.prog 16 #[.slice so9 (([] : List Dt).length) c9] w fun e w' => e = .returned (.tuple #[]) ∧ Mg w0 w' (.row 31 11 (.slice so9 ([] : List Dt).length c9) ([] : List Dt).length (cellsOf ([] : List Dt).reverse) :: T) := by
 have hM : Mg w0 w (.row 31 11 (.slice so9 (([] : List Dt).length) c9) (([] : List Dt).length) (cellsOf []) :: T) := hM0
 refine walk_of (l := [(0, .slice so9 (([] : List Dt).length) c9)]) Tryd.func16 rfl Tryd.ntmps16 rfl rfl ?_
 intro Q hret hnorm hP a hA
 refine wp_seq_k (fun K1 hK1 => ?_)
 refine wp_region_lit ?_
 refine seq_do hA rfl rfl rfl (does_move rfl) ?_
 intro a hA
 refine seq_do (v := .int .i64 (((([] : List Dt).length : Nat) : Int))) hA rfl rfl rfl (does_len Tryd.underlying22 rfl) ?_
 intro a hA
 refine seq_do (v := .int .i64 (-1)) hA rfl rfl rfl (does_bin rfl rfl (ar_sub (by rfl))) ?_
 intro a hA
 refine seq_do hA rfl rfl rfl (does_assign rfl) ?_
 intro a hA
 refine seq_do hA rfl rfl rfl (does_assign rfl) ?_
 intro a hA
 refine seq_end ?_
 refine hK1 _ _ ?_
 refine wp_block ?_
 refine wp_loop_rounds 12 ?_
 refine rounds_k (fun K2 hK2 => ?_)
 refine wp_seq_k (fun K3 hK3 => ?_)
 refine wp_seq_k (fun K4 hK4 => ?_)
 refine wp_region_lit ?_
 refine seq_do hA rfl rfl rfl (does_move rfl) ?_
 intro a hA
 refine seq_do hA rfl rfl rfl (does_move rfl) ?_
 intro a hA
 refine seq_do (v := .bool false) hA rfl rfl rfl (does_bin rfl rfl (fun w => by kernel_rfl)) ?_
 intro a hA
 refine seq_end ?_
 refine hK4 _ _ ?_
 refine wp_cond_false (hA.ev rfl) ?_
 refine wp_exit ?_
 refine hnorm _ _ ?_
 refine ends (v := .tuple #[]) hA rfl .nil rfl ?_
 exact ⟨rfl, hM⟩
theorem rev_any {w0 w : World} {so9 : Option Addr} {c9 : Nat} {ys : List Dt} {T : List Ck} (hl : ys.length ≤ 1000000000) (hM0 : Mg w0 w (.row 31 11 (.slice so9 ys.length c9) ys.length (cellsOf ys) :: T)) : Calls Tryd.prog 16 #[.slice so9 ys.length c9] w fun e w' => e = .returned (.tuple #[]) ∧ Mg w0 w' (.row 31 11 (.slice so9 ys.length c9) ys.length (cellsOf ys.reverse) :: T) := by
  by_cases h : ys = []
  · subst h; exact rev_nil hM0
  · obtain ⟨g, c, e⟩ := row_open (hM0.has 0 rfl) (fun k => h (List.length_eq_zero_iff.1 k))
    cases e
    exact rev_cons hl h hM0
theorem joined_some {w : World} {so : Option Addr} {ca : Nat} {ts : List Dt} (hR : Rt w so ts) (hD : ∀ t ∈ ts, t.rd w) (hS : ∀ t ∈ ts, soundT shapeT t.tr = true) (hb : Tr.bulks (ts.map Dt.tr) ≤ 1000000000) (h : (joinS (ts.map Dt.tr)).isSome = true) : Calls Tryd.prog 13 #[.slice so ts.length ca] w fun e w' => ∃ so' ca' ys J, e = .returned (.tuple #[.slice so' (ys : List Dt).length ca', .int .i64 0]) ∧ (joinS (ts.map Dt.tr) = some J ∧ (ys.map Dt.tr = J ∨ (20000 < ys.length ∧ 20000 < J.length)) ∧ (∀ x ∈ ys, x.rd w) ∧ Tr.bulks (ys.map Dt.tr) ≤ Tr.bulks (ts.map Dt.tr)) ∧ Mg w w' [.row 31 11 (.slice so' ys.length ca') ys.length (cellsOf ys)] := by
  refine (joined_or hR hD hS hb).mono ?_
  rintro e w' (h1 | ⟨_, h2, _⟩)
  · exact h1
  · rw [h2] at h; cases h
theorem joined_none {w : World} {so : Option Addr} {ca : Nat} {ts : List Dt} (hR : Rt w so ts) (hD : ∀ t ∈ ts, t.rd w) (hS : ∀ t ∈ ts, soundT shapeT t.tr = true) (hb : Tr.bulks (ts.map Dt.tr) ≤ 1000000000) (h : (joinS (ts.map Dt.tr)).isSome = false) : Calls Tryd.prog 13 #[.slice so ts.length ca] w fun e w' => e = .returned (.tuple #[.slice none 0 0, .int .i64 10]) ∧ Below w.heap.size w w' := by
  refine (joined_or hR hD hS hb).mono ?_
  rintro e w' (⟨_, _, ys, J, _, h1, _⟩ | ⟨h1, _, h3⟩)
  · rw [h1.1] at h; cases h
  · exact ⟨h1, h3⟩
theorem none_of {α : Type} {x : Option α} (h : x.isSome = false) : x = none := Option.isNone_iff_eq_none.1 (Option.isSome_eq_false_iff.1 h)
theorem all_mem {ts : List Dt} (h : (ts.all fun t => soundT shapeT t.tr) = true) : ∀ t ∈ ts, soundT shapeT t.tr = true := List.all_eq_true.1 h
theorem of_any {w : World} {so : Option Addr} {ca : Nat} {ts : List Dt} (hR : Rt w so ts) (hD : ∀ t ∈ ts, t.rd w) (hb : Tr.bulks (ts.map Dt.tr) ≤ 300000000) (hT : Tabs8 w) : Calls Tryd.prog 5 #[.slice so ts.length ca] w fun e w' => ∃ t2 : Dt, e = .returned (.agg (t2.d.cells t2.ts.length).toArray) ∧ (t2.rd w' ∧ t2.at_ (w.heap.size ≤ ·) ∧ t2.tr = ofS (ts.map Dt.tr)) ∧ Below w.heap.size w w' := by
 have hnb : nilD.tr.bulk = 1 := by rw [nilD_tr]; rfl
 have hM : Mg w w ([]) := Mg.start w
 refine walk_of (l := [(0, .slice so ts.length ca)]) Tryd.func5 rfl Tryd.ntmps5 rfl rfl ?_
 intro Q hret hnorm hP a hA
 refine wp_seq_k (fun K1 hK1 => ?_)
 refine wp_region_lit ?_
 refine s_new (vs := [.int .i64 0, .int .i64 0, .bool false, .slice none 0 0, .slice none 0 0, .bool false, .slice none 0 0, .slice none 0 0, .string (⟨#[]⟩), .slice none 0 0, .slice none 0 0]) (t := 31) hA hM rfl rfl rfl (fun g => .pointer (some ⟨g, 0, none⟩)) (does_alloc (z := .agg #[.int .i64 0, .int .i64 0, .bool false, .slice none 0 0, .slice none 0 0, .bool false, .slice none 0 0, .slice none 0 0, .string (⟨#[]⟩), .slice none 0 0, .slice none 0 0]) (by kernel_rfl) rfl) (by decide) ?_
 intro g2 w3 hM a hA
 refine seq_end ?_
 refine hK1 _ _ ?_
 refine wp_seq_k (fun K4 hK4 => ?_)
 refine wp_region_lit ?_
 refine seq_do hA rfl rfl rfl (does_move rfl) ?_
 intro a hA
 refine seq_call hA rfl rfl rfl (enters_func rfl rfl (fun w => by kernel_rfl)) (end_any) ?_
 rintro _ w6 ⟨rfl, hb5⟩
 replace hM := hM.call hb5
 refine ⟨_, rfl, ?_⟩
 intro a hA
 have hlt7 := (Ck.lt (hM.has 0 rfl) g2 rfl).2
 have hzt2 := hM.bel.size
 refine seq_call hA rfl rfl rfl (enters_func rfl rfl (fun w => by kernel_rfl)) (fitting_any (u := nilD) (hR.below hM.bel) (fun t ht => Dt.keep hM.bel _ (hD t ht)) (nilD_rd _) (by omega) (hT.below hM.bel)) ?_
 rintro _ w9 ⟨t2, k2, rfl, ⟨hrt2, hat2, htt2⟩, hb8⟩
 replace hM := hM.call hb8
 refine ⟨_, rfl, ?_⟩
 intro a hA
 refine seq_do hA rfl rfl rfl (does_move rfl) ?_
 intro a hA
 refine seq_do (v := .agg (t2.d.cells t2.ts.length).toArray) hA rfl rfl rfl (does_extract (vs := [.agg (t2.d.cells t2.ts.length).toArray, .int .i64 k2]) rfl rfl) ?_
 intro a hA
 refine seq_do (v := .int .i64 k2) hA rfl rfl rfl (does_extract (vs := [.agg (t2.d.cells t2.ts.length).toArray, .int .i64 k2]) rfl rfl) ?_
 intro a hA
 refine s_newD (vs := [.int .i64 0, .int .i64 0, .bool false, .slice none 0 0, .slice none 0 0, .bool false, .slice none 0 0, .slice none 0 0, .string (⟨#[]⟩), .slice none 0 0, .slice none 0 0]) (t := 31) hA hM rfl rfl rfl (fun g => .pointer (some ⟨g, 0, none⟩)) (does_alloc (z := .agg #[.int .i64 0, .int .i64 0, .bool false, .slice none 0 0, .slice none 0 0, .bool false, .slice none 0 0, .slice none 0 0, .string (⟨#[]⟩), .slice none 0 0, .slice none 0 0]) (by kernel_rfl) rfl) (by decide) ?_
 intro g10 w11 hM hg12 hb13 a hA
 have hnt2g10 := Dt.at_mono (q := (· ≠ g10)) (fun b hb => by intro e; omega) _ (Dt.at_lt _ hrt2)
 replace hrt2 := Dt.keep hb13 _ hrt2
 refine s_storeD (us := [.int .i64 t2.d.k, .int .i64 t2.d.n, .bool t2.d.y.q.b1, .slice t2.d.y.o1 t2.d.y.q.t1.length t2.d.y.c1, .slice t2.d.y.o2 t2.d.y.q.q1.length t2.d.y.c2, .bool t2.d.y.q.b2, .slice t2.d.y.o3 t2.d.y.q.t2.length t2.d.y.c3, .slice t2.d.y.o4 t2.d.y.q.q2.length t2.d.y.c4, .string t2.d.s, .slice t2.d.ro t2.d.rl.length t2.d.rc, .slice t2.d.lo t2.ts.length t2.d.lc]) (L' := (.obj g10 (.cells (t2.d.cells t2.ts.length).toArray 31) :: .obj g2 (.cells #[.int .i64 0, .int .i64 0, .bool false, .slice none 0 0, .slice none 0 0, .bool false, .slice none 0 0, .slice none 0 0, .string (⟨#[]⟩), .slice none 0 0, .slice none 0 0] 31) :: [])) hA hM rfl rfl (m_store rfl rfl rfl (by kernel_rfl) hM 0 rfl rfl rfl) 0 rfl rfl rfl ?_
 intro w14 hM hK15
 replace hrt2 := Dt.kept hK15 _ hrt2 hnt2g10
 refine seq_do hA rfl rfl rfl (does_assign rfl) ?_
 intro a hA
 refine seq_end ?_
 refine hK4 _ _ ?_
 refine wp_seq_k (fun K16 hK16 => ?_)
 refine wp_region_lit ?_
 refine seq_do hA rfl rfl rfl (m_loadS hM LiG_isS_31 rfl 0 rfl (cs := [.int .i64 t2.d.k, .int .i64 t2.d.n, .bool t2.d.y.q.b1, .slice t2.d.y.o1 t2.d.y.q.t1.length t2.d.y.c1, .slice t2.d.y.o2 t2.d.y.q.q1.length t2.d.y.c2, .bool t2.d.y.q.b2, .slice t2.d.y.o3 t2.d.y.q.t2.length t2.d.y.c3, .slice t2.d.y.o4 t2.d.y.q.q2.length t2.d.y.c4, .string t2.d.s, .slice t2.d.ro t2.d.rl.length t2.d.rc, .slice t2.d.lo t2.ts.length t2.d.lc]) rfl rfl) ?_
 intro a hA
 refine s_storeD (us := [.int .i64 t2.d.k, .int .i64 t2.d.n, .bool t2.d.y.q.b1, .slice t2.d.y.o1 t2.d.y.q.t1.length t2.d.y.c1, .slice t2.d.y.o2 t2.d.y.q.q1.length t2.d.y.c2, .bool t2.d.y.q.b2, .slice t2.d.y.o3 t2.d.y.q.t2.length t2.d.y.c3, .slice t2.d.y.o4 t2.d.y.q.q2.length t2.d.y.c4, .string t2.d.s, .slice t2.d.ro t2.d.rl.length t2.d.rc, .slice t2.d.lo t2.ts.length t2.d.lc]) (L' := (.obj g10 (.cells (t2.d.cells t2.ts.length).toArray 31) :: .obj g2 (.cells (t2.d.cells t2.ts.length).toArray 31) :: [])) hA hM rfl rfl (m_store rfl rfl rfl (by kernel_rfl) hM 1 rfl rfl rfl) 1 rfl rfl rfl ?_
 intro w17 hM hK18
 replace hrt2 := Dt.kept hK18 _ hrt2 (Dt.at_mono (fun b hb => by rintro rfl; omega) _ hat2)
 refine seq_end ?_
 refine hK16 _ _ ?_
 refine wp_ret ?_
 refine hret _ _ ?_
 refine ends (v := .agg (t2.d.cells t2.ts.length).toArray) hA rfl (.cons (res_cellS hM LiG_isS_31 rfl 1 rfl (cs := [.int .i64 t2.d.k, .int .i64 t2.d.n, .bool t2.d.y.q.b1, .slice t2.d.y.o1 t2.d.y.q.t1.length t2.d.y.c1, .slice t2.d.y.o2 t2.d.y.q.q1.length t2.d.y.c2, .bool t2.d.y.q.b2, .slice t2.d.y.o3 t2.d.y.q.t2.length t2.d.y.c3, .slice t2.d.y.o4 t2.d.y.q.q2.length t2.d.y.c4, .string t2.d.s, .slice t2.d.ro t2.d.rl.length t2.d.rc, .slice t2.d.lo t2.ts.length t2.d.lc]) rfl rfl) .nil) rfl ?_
 exact ⟨t2, rfl, ⟨hrt2, Dt.at_mono (fun b hb => Nat.le_trans hzt2 hb) _ hat2, by unfold ofS; rw [← nilD_tr, ← htt2]⟩, hM.bel⟩
theorem append_any {w : World} {so : Option Addr} {ca : Nat} {ts : List Dt} (hR : Rt w so ts) (hD : ∀ t ∈ ts, t.rd w) (hca : ts.length ≤ ca) (hb : Tr.bulks (ts.map Dt.tr) ≤ 100000000) (hT : Tabs8 w) : Calls Tryd.prog 6 #[.slice so ts.length ca] w fun e w' => ∃ (t2 : Dt) (k : Int), e = .returned (.tuple #[.agg (t2.d.cells t2.ts.length).toArray, .int .i64 k]) ∧ (t2.rd w' ∧ t2.at_ (w.heap.size ≤ ·) ∧ (t2.tr, k) = appS (ts.map Dt.tr)) ∧ Below w.heap.size w w' := by
 have hbl := bulks_len ts
 have hM : Mg w w ([]) := Mg.start w
 refine walk_of (l := [(0, .slice so ts.length ca)]) Tryd.func6 rfl Tryd.ntmps6 rfl rfl ?_
 intro Q hret hnorm hP a hA
 refine wp_seq_k (fun K1 hK1 => ?_)
 refine wp_region_lit ?_
 refine s_new (vs := [.int .i64 0, .int .i64 0, .bool false, .slice none 0 0, .slice none 0 0, .bool false, .slice none 0 0, .slice none 0 0, .string (⟨#[]⟩), .slice none 0 0, .slice none 0 0]) (t := 31) hA hM rfl rfl rfl (fun g => .pointer (some ⟨g, 0, none⟩)) (does_alloc (z := .agg #[.int .i64 0, .int .i64 0, .bool false, .slice none 0 0, .slice none 0 0, .bool false, .slice none 0 0, .slice none 0 0, .string (⟨#[]⟩), .slice none 0 0, .slice none 0 0]) (by kernel_rfl) rfl) (by decide) ?_
 intro g2 w3 hM a hA
 refine seq_do hA rfl rfl rfl (does_assign rfl) ?_
 intro a hA
 refine seq_end ?_
 refine hK1 _ _ ?_
 refine wp_seq_k (fun K4 hK4 => ?_)
 refine wp_seq_k (fun K5 hK5 => ?_)
 refine wp_region_lit ?_
 refine seq_do hA rfl rfl rfl (does_move rfl) ?_
 intro a hA
 rcases Bool.eq_false_or_eq_true ((ts.all fun t => soundT shapeT t.tr)) with hb6 | hb6
 · refine seq_call hA rfl rfl rfl (enters_func rfl rfl (fun w => by kernel_rfl)) (allSound_b (hR.below hM.bel) (fun t ht => Dt.keep hM.bel _ (hD t ht)) (by omega) (hT.below hM.bel) hb6) ?_
   rintro _ w8 ⟨rfl, hb7⟩
   replace hM := hM.call hb7
   refine ⟨_, rfl, ?_⟩
   intro a hA
   refine seq_do (v := .bool false) hA rfl rfl rfl (does_un rfl un_not) ?_
   intro a hA
   refine seq_end ?_
   refine hK5 _ _ ?_
   refine wp_cond_false (hA.ev rfl) ?_
   refine wp_skip ?_
   refine hK4 _ _ ?_
   refine wp_seq_k (fun K9 hK9 => ?_)
   refine wp_seq_k (fun K10 hK10 => ?_)
   refine wp_region_lit ?_
   refine seq_do hA rfl rfl rfl (does_move rfl) ?_
   intro a hA
   refine seq_do (v := .int .i64 (((ts.length : Nat) : Int))) hA rfl rfl rfl (does_len Tryd.underlying22 rfl) ?_
   intro a hA
   rcases Bool.eq_false_or_eq_true ((((ts.length : Nat) : Int) == 0)) with hb11 | hb11
   · have hb11' := eq_of_beq hb11
     refine seq_do (v := .bool true) hA rfl rfl rfl (does_bin rfl rfl (fun w => (bin_eql w).trans (by rw [hb11]))) ?_
     intro a hA
     refine seq_end ?_
     refine hK10 _ _ ?_
     refine wp_cond_true (hA.ev rfl) ?_
     refine wp_seq_k (fun K12 hK12 => ?_)
     refine wp_region_lit ?_
     refine seq_call hA rfl rfl rfl (enters_func rfl rfl (fun w => by kernel_rfl)) (end_any) ?_
     rintro _ w14 ⟨rfl, hb13⟩
     replace hM := hM.call hb13
     refine ⟨_, rfl, ?_⟩
     intro a hA
     refine s_store (us := [.int .i64 nilD.d.k, .int .i64 nilD.d.n, .bool nilD.d.y.q.b1, .slice nilD.d.y.o1 nilD.d.y.q.t1.length nilD.d.y.c1, .slice nilD.d.y.o2 nilD.d.y.q.q1.length nilD.d.y.c2, .bool nilD.d.y.q.b2, .slice nilD.d.y.o3 nilD.d.y.q.t2.length nilD.d.y.c3, .slice nilD.d.y.o4 nilD.d.y.q.q2.length nilD.d.y.c4, .string nilD.d.s, .slice nilD.d.ro nilD.d.rl.length nilD.d.rc, .slice nilD.d.lo nilD.ts.length nilD.d.lc]) (L' := (.obj g2 (.cells (nilD.d.cells nilD.ts.length).toArray 31) :: [])) hA hM rfl rfl (m_store rfl rfl rfl (by kernel_rfl) hM 0 rfl rfl rfl) 0 rfl rfl rfl ?_
     intro w15 hM
     refine seq_do hA rfl rfl rfl (does_assign rfl) ?_
     intro a hA
     refine seq_end ?_
     refine hK12 _ _ ?_
     refine wp_ret ?_
     refine hret _ _ ?_
     refine ends (v := .tuple #[.agg (nilD.d.cells nilD.ts.length).toArray, .int .i64 0]) hA rfl (.cons (res_cellS hM LiG_isS_31 rfl 0 rfl (cs := [.int .i64 nilD.d.k, .int .i64 nilD.d.n, .bool nilD.d.y.q.b1, .slice nilD.d.y.o1 nilD.d.y.q.t1.length nilD.d.y.c1, .slice nilD.d.y.o2 nilD.d.y.q.q1.length nilD.d.y.c2, .bool nilD.d.y.q.b2, .slice nilD.d.y.o3 nilD.d.y.q.t2.length nilD.d.y.c3, .slice nilD.d.y.o4 nilD.d.y.q.q2.length nilD.d.y.c4, .string nilD.d.s, .slice nilD.d.ro nilD.d.rl.length nilD.d.rc, .slice nilD.d.lo nilD.ts.length nilD.d.lc]) rfl rfl) (.cons (res_tmp rfl) .nil)) rfl ?_
     have e9 : ts = [] := List.length_eq_zero_iff.1 (by omega)
     exact ⟨nilD, 0, rfl, ⟨nilD_rd _, nilD_at _, by rw [e9]; exact (Prod.ext nilD_tr rfl : (nilD.tr, (0 : Int)) = (nilT, 0)).trans appS_nil.symm⟩, hM.bel⟩
   · have hb11' := ne_of_beq_false hb11
     refine seq_do (v := .bool false) hA rfl rfl rfl (does_bin rfl rfl (fun w => (bin_eql w).trans (by rw [hb11]))) ?_
     intro a hA
     refine seq_end ?_
     refine hK10 _ _ ?_
     refine wp_cond_false (hA.ev rfl) ?_
     refine wp_skip ?_
     refine hK9 _ _ ?_
     refine wp_seq_k (fun K16 hK16 => ?_)
     refine wp_region_lit ?_
     refine seq_do hA rfl rfl rfl (does_move rfl) ?_
     intro a hA
     refine seq_do (v := .int .i64 (((ts.length : Nat) : Int))) hA rfl rfl rfl (does_len Tryd.underlying22 rfl) ?_
     intro a hA
     refine seq_do (v := .int .i64 (((ts.length - 1 : Nat) : Int))) hA rfl rfl rfl (does_bin rfl rfl (ar_sub ((in_i64 (by omega) (by omega)).trans (by omega)))) ?_
     intro a hA
     refine seq_do hA rfl rfl rfl (does_assign rfl) ?_
     intro a hA
     refine seq_end ?_
     refine hK16 _ _ ?_
     refine wp_seq_k (fun K17 hK17 => ?_)
     have hbt : Tr.bulks ((ts.take (ts.length - 1)).map Dt.tr) ≤ Tr.bulks (ts.map Dt.tr) := bulks_part _
     refine wp_region_lit ?_
     refine seq_do hA rfl rfl rfl (does_move rfl) ?_
     intro a hA
     refine seq_do hA rfl rfl rfl (does_move rfl) ?_
     intro a hA
     refine seq_do (v := .slice so ((ts.take (ts.length - 1)).length) ca) hA rfl rfl rfl (does_upto (sz := 11) (hi := (ts.take (ts.length - 1)).length) Tryd.underlying22 (by kernel_rfl) rfl rfl (by rw [List.length_take]; omega) (by rw [List.length_take]; omega)) ?_
     intro a hA
     rcases Bool.eq_false_or_eq_true ((joinS ((ts.take (ts.length - 1)).map Dt.tr)).isSome) with hb18 | hb18
     · refine seq_call hA rfl rfl rfl (enters_func rfl rfl (fun w => by kernel_rfl)) (joined_some ((hR.take _).below hM.bel) (fun t ht => Dt.keep hM.bel _ (hD t (List.mem_of_mem_take ht))) (fun t ht => all_mem hb6 t (List.mem_of_mem_take ht)) (by omega) hb18) ?_
       rintro _ w20 ⟨so7, ca7, ys, J, rfl, ⟨hJ, hor, hy0, hyb⟩, hM7⟩
       have hy2 := hy0
       replace hM : Mg w w20 (.row 31 11 (.slice so7 ys.length ca7) ys.length (cellsOf ys) :: .obj g2 (.cells #[.int .i64 0, .int .i64 0, .bool false, .slice none 0 0, .slice none 0 0, .bool false, .slice none 0 0, .slice none 0 0, .string (⟨#[]⟩), .slice none 0 0, .slice none 0 0] 31) :: []) := (hM.both hM7 (noBld_cons (by simp) (noBld_quiet quietL_nil)) (noBld_cons (by simp) (noBld_quiet quietL_nil)))
       refine ⟨_, rfl, ?_⟩
       intro a hA
       refine seq_do hA rfl rfl rfl (does_move rfl) ?_
       intro a hA
       refine seq_do (v := .slice so7 ys.length ca7) hA rfl rfl rfl (does_extract (vs := [.slice so7 ys.length ca7, .int .i64 0]) rfl rfl) ?_
       intro a hA
       refine seq_do (v := .int .i64 0) hA rfl rfl rfl (does_extract (vs := [.slice so7 ys.length ca7, .int .i64 0]) rfl rfl) ?_
       intro a hA
       refine seq_do hA rfl rfl rfl (does_assign rfl) ?_
       intro a hA
       refine seq_do hA rfl rfl rfl (does_assign rfl) ?_
       intro a hA
       refine seq_end ?_
       refine hK17 _ _ ?_
       refine wp_seq_k (fun K21 hK21 => ?_)
       refine wp_seq_k (fun K22 hK22 => ?_)
       refine wp_region_lit ?_
       refine seq_do hA rfl rfl rfl (does_move rfl) ?_
       intro a hA
       refine seq_do (v := .bool false) hA rfl rfl rfl (does_bin rfl rfl (fun w => by kernel_rfl)) ?_
       intro a hA
       refine seq_end ?_
       refine hK22 _ _ ?_
       refine wp_cond_false (hA.ev rfl) ?_
       refine wp_skip ?_
       refine hK21 _ _ ?_
       refine wp_seq_k (fun K23 hK23 => ?_)
       obtain ⟨t9, bt9, ot9, it9, mt9, rt9_, lt9, Ht9⟩ := kidL hR hD (i := (ts.length - 1)) (by omega)
       have hb9 := bulk_in mt9
       refine wp_region_lit ?_
       refine seq_do hA rfl rfl rfl (does_move rfl) ?_
       intro a hA
       refine seq_do hA rfl rfl rfl (does_move rfl) ?_
       intro a hA
       refine seq_do hA rfl rfl rfl (does_move rfl) ?_
       intro a hA
       refine seq_do (v := .pointer (some ⟨bt9, ot9 + (ts.length - 1) * 11, none⟩)) hA rfl rfl rfl (does_indexD (k := (ts.length - 1)) Tryd.underlying22 (by kernel_rfl) rfl rfl rfl lt9 (by omega)) ?_
       intro a hA
       refine seq_do hA rfl rfl rfl (m_loadHS hM Ht9 LiG_isS_31 rfl rfl) ?_
       intro a hA
       have hlt24 := (Ck.lt (hM.has 1 rfl) g2 rfl).2
       have hzt2 := hM.bel.size
       refine seq_call hA rfl rfl rfl (enters_func rfl rfl (fun w => by kernel_rfl)) (fitting_any (u := t9) (rt_own (hM.has 0 rfl)).1 (fun t ht => Dt.keep hM7.bel _ (hy2 t ht)) (Dt.keep hM.bel _ rt9_) (by omega) (hT.below hM.bel)) ?_
       rintro _ w26 ⟨t2, k2, rfl, ⟨hrt2, hat2, htt2⟩, hb25⟩
       replace hM := hM.call hb25
       refine ⟨_, rfl, ?_⟩
       intro a hA
       refine seq_do (v := .agg (t2.d.cells t2.ts.length).toArray) hA rfl rfl rfl (does_extract (vs := [.agg (t2.d.cells t2.ts.length).toArray, .int .i64 k2]) rfl rfl) ?_
       intro a hA
       refine seq_do (v := .int .i64 k2) hA rfl rfl rfl (does_extract (vs := [.agg (t2.d.cells t2.ts.length).toArray, .int .i64 k2]) rfl rfl) ?_
       intro a hA
       refine s_storeD (us := [.int .i64 t2.d.k, .int .i64 t2.d.n, .bool t2.d.y.q.b1, .slice t2.d.y.o1 t2.d.y.q.t1.length t2.d.y.c1, .slice t2.d.y.o2 t2.d.y.q.q1.length t2.d.y.c2, .bool t2.d.y.q.b2, .slice t2.d.y.o3 t2.d.y.q.t2.length t2.d.y.c3, .slice t2.d.y.o4 t2.d.y.q.q2.length t2.d.y.c4, .string t2.d.s, .slice t2.d.ro t2.d.rl.length t2.d.rc, .slice t2.d.lo t2.ts.length t2.d.lc]) (L' := (.row 31 11 (.slice so7 ys.length ca7) ys.length (cellsOf ys) :: .obj g2 (.cells (t2.d.cells t2.ts.length).toArray 31) :: [])) hA hM rfl rfl (m_store rfl rfl rfl (by kernel_rfl) hM 1 rfl rfl rfl) 1 rfl rfl rfl ?_
       intro w27 hM hK28
       replace hrt2 := Dt.kept hK28 _ hrt2 (Dt.at_mono (fun b hb => by rintro rfl; omega) _ hat2)
       refine seq_do hA rfl rfl rfl (does_assign rfl) ?_
       intro a hA
       refine seq_end ?_
       refine hK23 _ _ ?_
       refine wp_ret ?_
       refine hret _ _ ?_
       refine ends (v := .tuple #[.agg (t2.d.cells t2.ts.length).toArray, .int .i64 k2]) hA rfl (.cons (res_cellS hM LiG_isS_31 rfl 1 rfl (cs := [.int .i64 t2.d.k, .int .i64 t2.d.n, .bool t2.d.y.q.b1, .slice t2.d.y.o1 t2.d.y.q.t1.length t2.d.y.c1, .slice t2.d.y.o2 t2.d.y.q.q1.length t2.d.y.c2, .bool t2.d.y.q.b2, .slice t2.d.y.o3 t2.d.y.q.t2.length t2.d.y.c3, .slice t2.d.y.o4 t2.d.y.q.q2.length t2.d.y.c4, .string t2.d.s, .slice t2.d.ro t2.d.rl.length t2.d.rc, .slice t2.d.lo t2.ts.length t2.d.lc]) rfl rfl) (.cons (res_tmp rfl) .nil)) rfl ?_
       have e9 : appS (ts.map Dt.tr) = fitS (ys.map Dt.tr) t9.tr := by
         rw [appS_some hb6 it9 hJ]
         rcases hor with e | e
         · rw [e]
         · rw [fitS_long e.2, fitS_long (by rw [List.length_map]; exact e.1)]
       exact ⟨t2, k2, rfl, ⟨hrt2, Dt.at_mono (fun b hb => Nat.le_trans hzt2 hb) _ hat2, by rw [e9, ← htt2]⟩, hM.bel⟩
     · refine seq_call hA rfl rfl rfl (enters_func rfl rfl (fun w => by kernel_rfl)) (joined_none ((hR.take _).below hM.bel) (fun t ht => Dt.keep hM.bel _ (hD t (List.mem_of_mem_take ht))) (fun t ht => all_mem hb6 t (List.mem_of_mem_take ht)) (by omega) hb18) ?_
       rintro _ w30 ⟨rfl, hb29⟩
       replace hM := hM.call hb29
       refine ⟨_, rfl, ?_⟩
       intro a hA
       refine seq_do hA rfl rfl rfl (does_move rfl) ?_
       intro a hA
       refine seq_do (v := .slice none 0 0) hA rfl rfl rfl (does_extract (vs := [.slice none 0 0, .int .i64 10]) rfl rfl) ?_
       intro a hA
       refine seq_do (v := .int .i64 10) hA rfl rfl rfl (does_extract (vs := [.slice none 0 0, .int .i64 10]) rfl rfl) ?_
       intro a hA
       refine seq_do hA rfl rfl rfl (does_assign rfl) ?_
       intro a hA
       refine seq_do hA rfl rfl rfl (does_assign rfl) ?_
       intro a hA
       refine seq_end ?_
       refine hK17 _ _ ?_
       refine wp_seq_k (fun K31 hK31 => ?_)
       refine wp_seq_k (fun K32 hK32 => ?_)
       refine wp_region_lit ?_
       refine seq_do hA rfl rfl rfl (does_move rfl) ?_
       intro a hA
       refine seq_do (v := .bool true) hA rfl rfl rfl (does_bin rfl rfl (fun w => by kernel_rfl)) ?_
       intro a hA
       refine seq_end ?_
       refine hK32 _ _ ?_
       refine wp_cond_true (hA.ev rfl) ?_
       refine wp_seq_k (fun K33 hK33 => ?_)
       refine wp_region_lit ?_
       refine seq_do (v := .agg #[.int .i64 0, .int .i64 0, .bool false, .slice none 0 0, .slice none 0 0, .bool false, .slice none 0 0, .slice none 0 0, .string (⟨#[]⟩), .slice none 0 0, .slice none 0 0]) hA rfl rfl rfl (does_build rfl (fun w => by kernel_rfl)) ?_
       intro a hA
       refine seq_do hA rfl rfl rfl (does_move rfl) ?_
       intro a hA
       refine s_store (us := [.int .i64 0, .int .i64 0, .bool false, .slice none 0 0, .slice none 0 0, .bool false, .slice none 0 0, .slice none 0 0, .string (⟨#[]⟩), .slice none 0 0, .slice none 0 0]) (L' := (.obj g2 (.cells #[.int .i64 0, .int .i64 0, .bool false, .slice none 0 0, .slice none 0 0, .bool false, .slice none 0 0, .slice none 0 0, .string (⟨#[]⟩), .slice none 0 0, .slice none 0 0] 31) :: [])) hA hM rfl rfl (m_store rfl rfl rfl (by kernel_rfl) hM 0 rfl rfl rfl) 0 rfl rfl rfl ?_
       intro w34 hM
       refine seq_do hA rfl rfl rfl (does_assign rfl) ?_
       intro a hA
       refine seq_end ?_
       refine hK33 _ _ ?_
       refine wp_ret ?_
       refine hret _ _ ?_
       refine ends (v := .tuple #[.agg #[.int .i64 0, .int .i64 0, .bool false, .slice none 0 0, .slice none 0 0, .bool false, .slice none 0 0, .slice none 0 0, .string (⟨#[]⟩), .slice none 0 0, .slice none 0 0], .int .i64 10]) hA rfl (.cons (res_cellS hM LiG_isS_31 rfl 0 rfl (cs := [.int .i64 0, .int .i64 0, .bool false, .slice none 0 0, .slice none 0 0, .bool false, .slice none 0 0, .slice none 0 0, .string (⟨#[]⟩), .slice none 0 0, .slice none 0 0]) rfl rfl) (.cons (res_tmp rfl) .nil)) rfl ?_
       exact ⟨zeroD, 10, rfl, ⟨zeroD_rd _, zeroD_at _, by rw [appS_none hb6 (fun e => by rw [e] at hb11'; exact hb11' rfl) (none_of hb18), zeroD_tr]⟩, hM.bel⟩
 · refine seq_call hA rfl rfl rfl (enters_func rfl rfl (fun w => by kernel_rfl)) (allSound_b (hR.below hM.bel) (fun t ht => Dt.keep hM.bel _ (hD t ht)) (by omega) (hT.below hM.bel) hb6) ?_
   rintro _ w36 ⟨rfl, hb35⟩
   replace hM := hM.call hb35
   refine ⟨_, rfl, ?_⟩
   intro a hA
   refine seq_do (v := .bool true) hA rfl rfl rfl (does_un rfl un_not) ?_
   intro a hA
   refine seq_end ?_
   refine hK5 _ _ ?_
   refine wp_cond_true (hA.ev rfl) ?_
   refine wp_seq_k (fun K37 hK37 => ?_)
   refine wp_region_lit ?_
   refine seq_do (v := .agg #[.int .i64 0, .int .i64 0, .bool false, .slice none 0 0, .slice none 0 0, .bool false, .slice none 0 0, .slice none 0 0, .string (⟨#[]⟩), .slice none 0 0, .slice none 0 0]) hA rfl rfl rfl (does_build rfl (fun w => by kernel_rfl)) ?_
   intro a hA
   refine s_store (us := [.int .i64 0, .int .i64 0, .bool false, .slice none 0 0, .slice none 0 0, .bool false, .slice none 0 0, .slice none 0 0, .string (⟨#[]⟩), .slice none 0 0, .slice none 0 0]) (L' := (.obj g2 (.cells #[.int .i64 0, .int .i64 0, .bool false, .slice none 0 0, .slice none 0 0, .bool false, .slice none 0 0, .slice none 0 0, .string (⟨#[]⟩), .slice none 0 0, .slice none 0 0] 31) :: [])) hA hM rfl rfl (m_store rfl rfl rfl (by kernel_rfl) hM 0 rfl rfl rfl) 0 rfl rfl rfl ?_
   intro w38 hM
   refine seq_do hA rfl rfl rfl (does_assign rfl) ?_
   intro a hA
   refine seq_end ?_
   refine hK37 _ _ ?_
   refine wp_ret ?_
   refine hret _ _ ?_
   refine ends (v := .tuple #[.agg #[.int .i64 0, .int .i64 0, .bool false, .slice none 0 0, .slice none 0 0, .bool false, .slice none 0 0, .slice none 0 0, .string (⟨#[]⟩), .slice none 0 0, .slice none 0 0], .int .i64 2]) hA rfl (.cons (res_cellS hM LiG_isS_31 rfl 0 rfl (cs := [.int .i64 0, .int .i64 0, .bool false, .slice none 0 0, .slice none 0 0, .bool false, .slice none 0 0, .slice none 0 0, .string (⟨#[]⟩), .slice none 0 0, .slice none 0 0]) rfl rfl) (.cons (res_tmp rfl) .nil)) rfl ?_
   exact ⟨zeroD, 2, rfl, ⟨zeroD_rd _, zeroD_at _, by rw [appS_bad hb6, zeroD_tr]⟩, hM.bel⟩
theorem bulks_drop {ts : List Dt} (i : Nat) : Tr.bulks ((ts.drop i).map Dt.tr) ≤ Tr.bulks (ts.map Dt.tr) := by
  conv => rhs; rw [← List.take_append_drop i ts, List.map_append, bulks_append]
  omega
theorem bulks_rev : ∀ ts : List Tr, Tr.bulks ts.reverse = Tr.bulks ts
  | [] => rfl
  | t :: ts => by rw [List.reverse_cons, bulks_append, bulks_rev ts, Tr.bulks, Tr.bulks, Tr.bulks]; omega
theorem listOf_rev {w : World} {so : Option Addr} {ca : Nat} {ys : List Dt} (hR : Rt w so ys.reverse) (hD : ∀ t ∈ ys.reverse, t.rd w) (hb : Tr.bulks (ys.reverse.map Dt.tr) ≤ 400000000) : Calls Tryd.prog 15 #[.slice so ys.length ca] w fun e w' => ∃ t2 : Dt, e = .returned (.agg (t2.d.cells t2.ts.length).toArray) ∧ (t2.rd w' ∧ t2.at_ (w.heap.size ≤ ·) ∧ t2.tr = linkT (ys.reverse.map Dt.tr) nilT) ∧ Below w.heap.size w w' := by
  have := listOf_any (ca := ca) hR hD hb
  rwa [List.length_reverse] at this
theorem tail_any {w : World} {t : Dt} (ht : t.rd w) (hb : t.tr.bulk ≤ 300000000) (hT : Tabs8 w) {n : Int} : Calls Tryd.prog 7 #[.agg (t.d.cells t.ts.length).toArray, .int .i64 n] w fun e w' => ∃ (t2 : Dt) (k : Int), e = .returned (.tuple #[.agg (t2.d.cells t2.ts.length).toArray, .int .i64 k]) ∧ (t2.rd w' ∧ t2.at_ (w.heap.size ≤ ·) ∧ (t2.tr, k) = tailS t.tr n) ∧ Below w.heap.size w w' := by
 have hM : Mg w w ([]) := Mg.start w
 refine walk_of (l := [(0, .agg (t.d.cells t.ts.length).toArray), (1, .int .i64 n)]) Tryd.func7 rfl Tryd.ntmps7 rfl rfl ?_
 intro Q hret hnorm hP a hA
 refine wp_seq_k (fun K1 hK1 => ?_)
 refine wp_region_lit ?_
 refine s_new (vs := [.int .i64 t.d.k, .int .i64 t.d.n, .bool t.d.y.q.b1, .slice t.d.y.o1 t.d.y.q.t1.length t.d.y.c1, .slice t.d.y.o2 t.d.y.q.q1.length t.d.y.c2, .bool t.d.y.q.b2, .slice t.d.y.o3 t.d.y.q.t2.length t.d.y.c3, .slice t.d.y.o4 t.d.y.q.q2.length t.d.y.c4, .string t.d.s, .slice t.d.ro t.d.rl.length t.d.rc, .slice t.d.lo t.ts.length t.d.lc]) (t := 31) hA hM rfl rfl rfl (fun g => .pointer (some ⟨g, 0, none⟩)) (does_box rfl rfl) (by decide) ?_
 intro g2 w3 hM a hA
 refine s_new (vs := [.int .i64 0, .int .i64 0, .bool false, .slice none 0 0, .slice none 0 0, .bool false, .slice none 0 0, .slice none 0 0, .string (⟨#[]⟩), .slice none 0 0, .slice none 0 0]) (t := 31) hA hM rfl rfl rfl (fun g => .pointer (some ⟨g, 0, none⟩)) (does_alloc (z := .agg #[.int .i64 0, .int .i64 0, .bool false, .slice none 0 0, .slice none 0 0, .bool false, .slice none 0 0, .slice none 0 0, .string (⟨#[]⟩), .slice none 0 0, .slice none 0 0]) (by kernel_rfl) rfl) (by decide) ?_
 intro g4 w5 hM a hA
 refine seq_do hA rfl rfl rfl (does_assign rfl) ?_
 intro a hA
 refine seq_end ?_
 refine hK1 _ _ ?_
 refine wp_seq_k (fun K6 hK6 => ?_)
 refine wp_region_lit ?_
 refine seq_do hA rfl rfl rfl (m_loadS hM LiG_isS_31 rfl 1 rfl (cs := [.int .i64 t.d.k, .int .i64 t.d.n, .bool t.d.y.q.b1, .slice t.d.y.o1 t.d.y.q.t1.length t.d.y.c1, .slice t.d.y.o2 t.d.y.q.q1.length t.d.y.c2, .bool t.d.y.q.b2, .slice t.d.y.o3 t.d.y.q.t2.length t.d.y.c3, .slice t.d.y.o4 t.d.y.q.q2.length t.d.y.c4, .string t.d.s, .slice t.d.ro t.d.rl.length t.d.rc, .slice t.d.lo t.ts.length t.d.lc]) rfl rfl) ?_
 intro a hA
 rcases Bool.eq_false_or_eq_true (soundT shapeT t.tr) with hb7 | hb7
 · rcases Bool.eq_false_or_eq_true ((asList t.tr).isSome) with hb9 | hb9
   · refine seq_call hA rfl rfl rfl (enters_func rfl rfl (fun w => by kernel_rfl)) (items_some hM.bel ht (by omega) (hT.below hM.bel) hb7 hb9) ?_
     rintro _ w11 ⟨so7, ca7, ys, rfl, ⟨hy1, hy2, hy3⟩, hM7⟩
     have hyb := asList_bulk hy1
     replace hM : Mg w w11 (.row 31 11 (.slice so7 ys.length ca7) ys.length (cellsOf ys) :: .obj g4 (.cells #[.int .i64 0, .int .i64 0, .bool false, .slice none 0 0, .slice none 0 0, .bool false, .slice none 0 0, .slice none 0 0, .string (⟨#[]⟩), .slice none 0 0, .slice none 0 0] 31) :: .obj g2 (.cells (t.d.cells t.ts.length).toArray 31) :: []) := (hM.both hM7 (noBld_cons (by simp) (noBld_cons (by simp) (noBld_quiet quietL_nil))) (noBld_cons (by simp) (noBld_quiet quietL_nil)))
     refine ⟨_, rfl, ?_⟩
     intro a hA
     refine seq_do hA rfl rfl rfl (does_move rfl) ?_
     intro a hA
     refine seq_do (v := .slice so7 ys.length ca7) hA rfl rfl rfl (does_extract (vs := [.slice so7 ys.length ca7, .int .i64 0]) rfl rfl) ?_
     intro a hA
     refine seq_do (v := .int .i64 0) hA rfl rfl rfl (does_extract (vs := [.slice so7 ys.length ca7, .int .i64 0]) rfl rfl) ?_
     intro a hA
     refine seq_do hA rfl rfl rfl (does_assign rfl) ?_
     intro a hA
     refine seq_do hA rfl rfl rfl (does_assign rfl) ?_
     intro a hA
     refine seq_end ?_
     refine hK6 _ _ ?_
     refine wp_seq_k (fun K12 hK12 => ?_)
     refine wp_block ?_
     refine wp_seq_k (fun K13 hK13 => ?_)
     refine wp_region_lit ?_
     refine seq_do hA rfl rfl rfl (does_move rfl) ?_
     intro a hA
     refine seq_do (v := .bool false) hA rfl rfl rfl (does_bin rfl rfl (fun w => by kernel_rfl)) ?_
     intro a hA
     refine seq_do hA rfl rfl rfl (does_assign rfl) ?_
     intro a hA
     refine seq_end ?_
     refine hK13 _ _ ?_
     refine wp_cond_false (hA.ev rfl) ?_
     refine wp_seq_k (fun K14 hK14 => ?_)
     refine wp_region_lit ?_
     refine seq_do hA rfl rfl rfl (does_move rfl) ?_
     intro a hA
     rcases Bool.eq_false_or_eq_true (decide (n < 0)) with hb15 | hb15
     · have hb15' := of_decide_eq_true hb15
       refine seq_do (v := .bool true) hA rfl rfl rfl (does_bin rfl rfl (fun w => (bin_lss w).trans (by rw [hb15]))) ?_
       intro a hA
       refine seq_do hA rfl rfl rfl (does_move rfl) ?_
       intro a hA
       refine seq_skip hA rfl rfl rfl ?_
       intro a hA
       refine seq_skip hA rfl rfl rfl ?_
       intro a hA
       refine seq_skip hA rfl rfl rfl ?_
       intro a hA
       refine seq_skip hA rfl rfl rfl ?_
       intro a hA
       refine seq_do (v := .bool true) hA rfl rfl rfl (does_pick rfl rfl rfl rfl) ?_
       intro a hA
       refine seq_do hA rfl rfl rfl (does_assign rfl) ?_
       intro a hA
       refine seq_end ?_
       refine hK14 _ _ ?_
       refine wp_cond_true (hA.ev rfl) ?_
       refine wp_seq_k (fun K16 hK16 => ?_)
       refine wp_region_lit ?_
       refine seq_do (v := .agg #[.int .i64 0, .int .i64 0, .bool false, .slice none 0 0, .slice none 0 0, .bool false, .slice none 0 0, .slice none 0 0, .string (⟨#[]⟩), .slice none 0 0, .slice none 0 0]) hA rfl rfl rfl (does_build rfl (fun w => by kernel_rfl)) ?_
       intro a hA
       refine s_store (us := [.int .i64 0, .int .i64 0, .bool false, .slice none 0 0, .slice none 0 0, .bool false, .slice none 0 0, .slice none 0 0, .string (⟨#[]⟩), .slice none 0 0, .slice none 0 0]) (L' := (.row 31 11 (.slice so7 ys.length ca7) ys.length (cellsOf ys) :: .obj g4 (.cells #[.int .i64 0, .int .i64 0, .bool false, .slice none 0 0, .slice none 0 0, .bool false, .slice none 0 0, .slice none 0 0, .string (⟨#[]⟩), .slice none 0 0, .slice none 0 0] 31) :: .obj g2 (.cells (t.d.cells t.ts.length).toArray 31) :: [])) hA hM rfl rfl (m_store rfl rfl rfl (by kernel_rfl) hM 1 rfl rfl rfl) 1 rfl rfl rfl ?_
       intro w17 hM
       refine seq_do hA rfl rfl rfl (does_assign rfl) ?_
       intro a hA
       refine seq_end ?_
       refine hK16 _ _ ?_
       refine wp_ret ?_
       refine hret _ _ ?_
       refine ends (v := .tuple #[.agg #[.int .i64 0, .int .i64 0, .bool false, .slice none 0 0, .slice none 0 0, .bool false, .slice none 0 0, .slice none 0 0, .string (⟨#[]⟩), .slice none 0 0, .slice none 0 0], .int .i64 1]) hA rfl (.cons (res_cellS hM LiG_isS_31 rfl 1 rfl (cs := [.int .i64 0, .int .i64 0, .bool false, .slice none 0 0, .slice none 0 0, .bool false, .slice none 0 0, .slice none 0 0, .string (⟨#[]⟩), .slice none 0 0, .slice none 0 0]) rfl rfl) (.cons (res_tmp rfl) .nil)) rfl ?_
       exact ⟨zeroD, 1, rfl, ⟨zeroD_rd _, zeroD_at _, by unfold tailS; rw [if_neg (by rw [hb7]; decide), hy1]; show _ = if _ then _ else _; rw [List.length_map, if_pos (by omega), zeroD_tr]⟩, hM.bel⟩
     · have hb15' := of_decide_eq_false hb15
       refine seq_do (v := .bool false) hA rfl rfl rfl (does_bin rfl rfl (fun w => (bin_lss w).trans (by rw [hb15]))) ?_
       intro a hA
       refine seq_do hA rfl rfl rfl (does_move rfl) ?_
       intro a hA
       refine seq_do hA rfl rfl rfl (does_move rfl) ?_
       intro a hA
       refine seq_do hA rfl rfl rfl (does_move rfl) ?_
       intro a hA
       refine seq_do (v := .int .i64 (((ys.length : Nat) : Int))) hA rfl rfl rfl (does_len Tryd.underlying22 rfl) ?_
       intro a hA
       rcases Bool.eq_false_or_eq_true (decide (((ys.length : Nat) : Int) < n)) with hb18 | hb18
       · have hb18' := of_decide_eq_true hb18
         refine seq_do (v := .bool true) hA rfl rfl rfl (does_bin rfl rfl (fun w => (bin_gtr w).trans (by rw [hb18]))) ?_
         intro a hA
         refine seq_do (v := .bool true) hA rfl rfl rfl (does_pick rfl rfl rfl rfl) ?_
         intro a hA
         refine seq_do hA rfl rfl rfl (does_assign rfl) ?_
         intro a hA
         refine seq_end ?_
         refine hK14 _ _ ?_
         refine wp_cond_true (hA.ev rfl) ?_
         refine wp_seq_k (fun K19 hK19 => ?_)
         refine wp_region_lit ?_
         refine seq_do (v := .agg #[.int .i64 0, .int .i64 0, .bool false, .slice none 0 0, .slice none 0 0, .bool false, .slice none 0 0, .slice none 0 0, .string (⟨#[]⟩), .slice none 0 0, .slice none 0 0]) hA rfl rfl rfl (does_build rfl (fun w => by kernel_rfl)) ?_
         intro a hA
         refine s_store (us := [.int .i64 0, .int .i64 0, .bool false, .slice none 0 0, .slice none 0 0, .bool false, .slice none 0 0, .slice none 0 0, .string (⟨#[]⟩), .slice none 0 0, .slice none 0 0]) (L' := (.row 31 11 (.slice so7 ys.length ca7) ys.length (cellsOf ys) :: .obj g4 (.cells #[.int .i64 0, .int .i64 0, .bool false, .slice none 0 0, .slice none 0 0, .bool false, .slice none 0 0, .slice none 0 0, .string (⟨#[]⟩), .slice none 0 0, .slice none 0 0] 31) :: .obj g2 (.cells (t.d.cells t.ts.length).toArray 31) :: [])) hA hM rfl rfl (m_store rfl rfl rfl (by kernel_rfl) hM 1 rfl rfl rfl) 1 rfl rfl rfl ?_
         intro w20 hM
         refine seq_do hA rfl rfl rfl (does_assign rfl) ?_
         intro a hA
         refine seq_end ?_
         refine hK19 _ _ ?_
         refine wp_ret ?_
         refine hret _ _ ?_
         refine ends (v := .tuple #[.agg #[.int .i64 0, .int .i64 0, .bool false, .slice none 0 0, .slice none 0 0, .bool false, .slice none 0 0, .slice none 0 0, .string (⟨#[]⟩), .slice none 0 0, .slice none 0 0], .int .i64 1]) hA rfl (.cons (res_cellS hM LiG_isS_31 rfl 1 rfl (cs := [.int .i64 0, .int .i64 0, .bool false, .slice none 0 0, .slice none 0 0, .bool false, .slice none 0 0, .slice none 0 0, .string (⟨#[]⟩), .slice none 0 0, .slice none 0 0]) rfl rfl) (.cons (res_tmp rfl) .nil)) rfl ?_
         exact ⟨zeroD, 1, rfl, ⟨zeroD_rd _, zeroD_at _, by unfold tailS; rw [if_neg (by rw [hb7]; decide), hy1]; show _ = if _ then _ else _; rw [List.length_map, if_pos (by omega), zeroD_tr]⟩, hM.bel⟩
       · have hb18' := of_decide_eq_false hb18
         refine seq_do (v := .bool false) hA rfl rfl rfl (does_bin rfl rfl (fun w => (bin_gtr w).trans (by rw [hb18]))) ?_
         intro a hA
         refine seq_do (v := .bool false) hA rfl rfl rfl (does_pick rfl rfl rfl rfl) ?_
         intro a hA
         refine seq_do hA rfl rfl rfl (does_assign rfl) ?_
         intro a hA
         refine seq_end ?_
         refine hK14 _ _ ?_
         refine wp_cond_false (hA.ev rfl) ?_
         refine wp_skip ?_
         refine hK12 _ _ ?_
         refine wp_seq_k (fun K21 hK21 => ?_)
         refine wp_region_lit ?_
         refine seq_do hA rfl rfl rfl (does_move rfl) ?_
         intro a hA
         refine seq_do hA rfl rfl rfl (does_move rfl) ?_
         intro a hA
         refine seq_do (v := .slice ((if ca7 = n.toNat then so7 else so7.map (·.add (n.toNat * 11)))) ((ys.drop n.toNat).length) ((ca7 - n.toNat))) hA rfl rfl rfl ((by rw [List.length_drop]; exact does_anyFrom (sz := 11) (lo := n.toNat) Tryd.underlying22 (by kernel_rfl) rfl rfl (by omega) (by omega))) ?_
         intro a hA
         have hlt22 := (Ck.lt (hM.has 1 rfl) g4 rfl).2
         have hlt23 := (Ck.lt (hM.has 2 rfl) g2 rfl).2
         have hzt2 := hM.bel.size
         refine seq_call hA rfl rfl rfl (enters_func rfl rfl (fun w => by kernel_rfl)) (listOf_any ((rt_own (hM.has 0 rfl)).1.drop ca7 n.toNat (row_cap (hM.has 0 rfl))) (fun t ht => Dt.keep hM.bel _ (hy2 t (List.mem_of_mem_drop ht))) (by have h7 : Tr.bulks ((ys.drop n.toNat).map Dt.tr) ≤ Tr.bulks (ys.map Dt.tr) := bulks_drop _ ; omega)) ?_
         rintro _ w25 ⟨t2, rfl, ⟨hrt2, hat2, htt2⟩, hb24⟩
         replace hM := hM.call hb24
         refine ⟨_, rfl, ?_⟩
         intro a hA
         refine s_storeD (us := [.int .i64 t2.d.k, .int .i64 t2.d.n, .bool t2.d.y.q.b1, .slice t2.d.y.o1 t2.d.y.q.t1.length t2.d.y.c1, .slice t2.d.y.o2 t2.d.y.q.q1.length t2.d.y.c2, .bool t2.d.y.q.b2, .slice t2.d.y.o3 t2.d.y.q.t2.length t2.d.y.c3, .slice t2.d.y.o4 t2.d.y.q.q2.length t2.d.y.c4, .string t2.d.s, .slice t2.d.ro t2.d.rl.length t2.d.rc, .slice t2.d.lo t2.ts.length t2.d.lc]) (L' := (.row 31 11 (.slice so7 ys.length ca7) ys.length (cellsOf ys) :: .obj g4 (.cells (t2.d.cells t2.ts.length).toArray 31) :: .obj g2 (.cells (t.d.cells t.ts.length).toArray 31) :: [])) hA hM rfl rfl (m_store rfl rfl rfl (by kernel_rfl) hM 1 rfl rfl rfl) 1 rfl rfl rfl ?_
         intro w26 hM hK27
         replace hrt2 := Dt.kept hK27 _ hrt2 (Dt.at_mono (fun b hb => by rintro rfl; omega) _ hat2)
         refine seq_do hA rfl rfl rfl (does_assign rfl) ?_
         intro a hA
         refine seq_end ?_
         refine hK21 _ _ ?_
         refine wp_ret ?_
         refine hret _ _ ?_
         refine ends (v := .tuple #[.agg (t2.d.cells t2.ts.length).toArray, .int .i64 0]) hA rfl (.cons (res_cellS hM LiG_isS_31 rfl 1 rfl (cs := [.int .i64 t2.d.k, .int .i64 t2.d.n, .bool t2.d.y.q.b1, .slice t2.d.y.o1 t2.d.y.q.t1.length t2.d.y.c1, .slice t2.d.y.o2 t2.d.y.q.q1.length t2.d.y.c2, .bool t2.d.y.q.b2, .slice t2.d.y.o3 t2.d.y.q.t2.length t2.d.y.c3, .slice t2.d.y.o4 t2.d.y.q.q2.length t2.d.y.c4, .string t2.d.s, .slice t2.d.ro t2.d.rl.length t2.d.rc, .slice t2.d.lo t2.ts.length t2.d.lc]) rfl rfl) (.cons (res_tmp rfl) .nil)) rfl ?_
         exact ⟨t2, 0, rfl, ⟨hrt2, Dt.at_mono (fun b hb => Nat.le_trans hzt2 hb) _ hat2, by unfold tailS; rw [if_neg (by rw [hb7]; decide), hy1]; show _ = if _ then _ else _; rw [List.length_map, if_neg (by omega), htt2, List.map_drop]⟩, hM.bel⟩
   · refine seq_call hA rfl rfl rfl (enters_func rfl rfl (fun w => by kernel_rfl)) (items_none hM.bel ht (by omega) (hT.below hM.bel) hb7 hb9) ?_
     rintro _ w29 ⟨rfl, hb28⟩
     replace hM := hM.call hb28
     refine ⟨_, rfl, ?_⟩
     intro a hA
     refine seq_do hA rfl rfl rfl (does_move rfl) ?_
     intro a hA
     refine seq_do (v := .slice none 0 0) hA rfl rfl rfl (does_extract (vs := [.slice none 0 0, .int .i64 10]) rfl rfl) ?_
     intro a hA
     refine seq_do (v := .int .i64 10) hA rfl rfl rfl (does_extract (vs := [.slice none 0 0, .int .i64 10]) rfl rfl) ?_
     intro a hA
     refine seq_do hA rfl rfl rfl (does_assign rfl) ?_
     intro a hA
     refine seq_do hA rfl rfl rfl (does_assign rfl) ?_
     intro a hA
     refine seq_end ?_
     refine hK6 _ _ ?_
     refine wp_seq_k (fun K30 hK30 => ?_)
     refine wp_block ?_
     refine wp_seq_k (fun K31 hK31 => ?_)
     refine wp_region_lit ?_
     refine seq_do hA rfl rfl rfl (does_move rfl) ?_
     intro a hA
     refine seq_do (v := .bool true) hA rfl rfl rfl (does_bin rfl rfl (fun w => by kernel_rfl)) ?_
     intro a hA
     refine seq_do hA rfl rfl rfl (does_assign rfl) ?_
     intro a hA
     refine seq_end ?_
     refine hK31 _ _ ?_
     refine wp_cond_true (hA.ev rfl) ?_
     refine wp_seq_k (fun K32 hK32 => ?_)
     refine wp_region_lit ?_
     refine seq_do (v := .agg #[.int .i64 0, .int .i64 0, .bool false, .slice none 0 0, .slice none 0 0, .bool false, .slice none 0 0, .slice none 0 0, .string (⟨#[]⟩), .slice none 0 0, .slice none 0 0]) hA rfl rfl rfl (does_build rfl (fun w => by kernel_rfl)) ?_
     intro a hA
     refine seq_do hA rfl rfl rfl (does_move rfl) ?_
     intro a hA
     refine s_store (us := [.int .i64 0, .int .i64 0, .bool false, .slice none 0 0, .slice none 0 0, .bool false, .slice none 0 0, .slice none 0 0, .string (⟨#[]⟩), .slice none 0 0, .slice none 0 0]) (L' := (.obj g4 (.cells #[.int .i64 0, .int .i64 0, .bool false, .slice none 0 0, .slice none 0 0, .bool false, .slice none 0 0, .slice none 0 0, .string (⟨#[]⟩), .slice none 0 0, .slice none 0 0] 31) :: .obj g2 (.cells (t.d.cells t.ts.length).toArray 31) :: [])) hA hM rfl rfl (m_store rfl rfl rfl (by kernel_rfl) hM 0 rfl rfl rfl) 0 rfl rfl rfl ?_
     intro w33 hM
     refine seq_do hA rfl rfl rfl (does_assign rfl) ?_
     intro a hA
     refine seq_end ?_
     refine hK32 _ _ ?_
     refine wp_ret ?_
     refine hret _ _ ?_
     refine ends (v := .tuple #[.agg #[.int .i64 0, .int .i64 0, .bool false, .slice none 0 0, .slice none 0 0, .bool false, .slice none 0 0, .slice none 0 0, .string (⟨#[]⟩), .slice none 0 0, .slice none 0 0], .int .i64 10]) hA rfl (.cons (res_cellS hM LiG_isS_31 rfl 0 rfl (cs := [.int .i64 0, .int .i64 0, .bool false, .slice none 0 0, .slice none 0 0, .bool false, .slice none 0 0, .slice none 0 0, .string (⟨#[]⟩), .slice none 0 0, .slice none 0 0]) rfl rfl) (.cons (res_tmp rfl) .nil)) rfl ?_
     exact ⟨zeroD, 10, rfl, ⟨zeroD_rd _, zeroD_at _, by unfold tailS; rw [if_neg (by rw [hb7]; decide), none_of hb9, zeroD_tr]⟩, hM.bel⟩
 · refine seq_call hA rfl rfl rfl (enters_func rfl rfl (fun w => by kernel_rfl)) (items_bad hM.bel ht (by omega) (hT.below hM.bel) hb7) ?_
   rintro _ w35 ⟨rfl, hb34⟩
   replace hM := hM.call hb34
   refine ⟨_, rfl, ?_⟩
   intro a hA
   refine seq_do hA rfl rfl rfl (does_move rfl) ?_
   intro a hA
   refine seq_do (v := .slice none 0 0) hA rfl rfl rfl (does_extract (vs := [.slice none 0 0, .int .i64 2]) rfl rfl) ?_
   intro a hA
   refine seq_do (v := .int .i64 2) hA rfl rfl rfl (does_extract (vs := [.slice none 0 0, .int .i64 2]) rfl rfl) ?_
   intro a hA
   refine seq_do hA rfl rfl rfl (does_assign rfl) ?_
   intro a hA
   refine seq_do hA rfl rfl rfl (does_assign rfl) ?_
   intro a hA
   refine seq_end ?_
   refine hK6 _ _ ?_
   refine wp_seq_k (fun K36 hK36 => ?_)
   refine wp_block ?_
   refine wp_seq_k (fun K37 hK37 => ?_)
   refine wp_region_lit ?_
   refine seq_do hA rfl rfl rfl (does_move rfl) ?_
   intro a hA
   refine seq_do (v := .bool true) hA rfl rfl rfl (does_bin rfl rfl (fun w => by kernel_rfl)) ?_
   intro a hA
   refine seq_do hA rfl rfl rfl (does_assign rfl) ?_
   intro a hA
   refine seq_end ?_
   refine hK37 _ _ ?_
   refine wp_cond_true (hA.ev rfl) ?_
   refine wp_seq_k (fun K38 hK38 => ?_)
   refine wp_region_lit ?_
   refine seq_do (v := .agg #[.int .i64 0, .int .i64 0, .bool false, .slice none 0 0, .slice none 0 0, .bool false, .slice none 0 0, .slice none 0 0, .string (⟨#[]⟩), .slice none 0 0, .slice none 0 0]) hA rfl rfl rfl (does_build rfl (fun w => by kernel_rfl)) ?_
   intro a hA
   refine seq_do hA rfl rfl rfl (does_move rfl) ?_
   intro a hA
   refine s_store (us := [.int .i64 0, .int .i64 0, .bool false, .slice none 0 0, .slice none 0 0, .bool false, .slice none 0 0, .slice none 0 0, .string (⟨#[]⟩), .slice none 0 0, .slice none 0 0]) (L' := (.obj g4 (.cells #[.int .i64 0, .int .i64 0, .bool false, .slice none 0 0, .slice none 0 0, .bool false, .slice none 0 0, .slice none 0 0, .string (⟨#[]⟩), .slice none 0 0, .slice none 0 0] 31) :: .obj g2 (.cells (t.d.cells t.ts.length).toArray 31) :: [])) hA hM rfl rfl (m_store rfl rfl rfl (by kernel_rfl) hM 0 rfl rfl rfl) 0 rfl rfl rfl ?_
   intro w39 hM
   refine seq_do hA rfl rfl rfl (does_assign rfl) ?_
   intro a hA
   refine seq_end ?_
   refine hK38 _ _ ?_
   refine wp_ret ?_
   refine hret _ _ ?_
   refine ends (v := .tuple #[.agg #[.int .i64 0, .int .i64 0, .bool false, .slice none 0 0, .slice none 0 0, .bool false, .slice none 0 0, .slice none 0 0, .string (⟨#[]⟩), .slice none 0 0, .slice none 0 0], .int .i64 2]) hA rfl (.cons (res_cellS hM LiG_isS_31 rfl 0 rfl (cs := [.int .i64 0, .int .i64 0, .bool false, .slice none 0 0, .slice none 0 0, .bool false, .slice none 0 0, .slice none 0 0, .string (⟨#[]⟩), .slice none 0 0, .slice none 0 0]) rfl rfl) (.cons (res_tmp rfl) .nil)) rfl ?_
   exact ⟨zeroD, 2, rfl, ⟨zeroD_rd _, zeroD_at _, by unfold tailS; rw [if_pos hb7, zeroD_tr]⟩, hM.bel⟩
theorem reverse_any {w : World} {t : Dt} (ht : t.rd w) (hb : t.tr.bulk ≤ 300000000) (hT : Tabs8 w) : Calls Tryd.prog 8 #[.agg (t.d.cells t.ts.length).toArray] w fun e w' => ∃ (t2 : Dt) (k : Int), e = .returned (.tuple #[.agg (t2.d.cells t2.ts.length).toArray, .int .i64 k]) ∧ (t2.rd w' ∧ t2.at_ (w.heap.size ≤ ·) ∧ (t2.tr, k) = revS t.tr) ∧ Below w.heap.size w w' := by
 have hM : Mg w w ([]) := Mg.start w
 refine walk_of (l := [(0, .agg (t.d.cells t.ts.length).toArray)]) Tryd.func8 rfl Tryd.ntmps8 rfl rfl ?_
 intro Q hret hnorm hP a hA
 refine wp_seq_k (fun K1 hK1 => ?_)
 refine wp_region_lit ?_
 refine s_new (vs := [.int .i64 t.d.k, .int .i64 t.d.n, .bool t.d.y.q.b1, .slice t.d.y.o1 t.d.y.q.t1.length t.d.y.c1, .slice t.d.y.o2 t.d.y.q.q1.length t.d.y.c2, .bool t.d.y.q.b2, .slice t.d.y.o3 t.d.y.q.t2.length t.d.y.c3, .slice t.d.y.o4 t.d.y.q.q2.length t.d.y.c4, .string t.d.s, .slice t.d.ro t.d.rl.length t.d.rc, .slice t.d.lo t.ts.length t.d.lc]) (t := 31) hA hM rfl rfl rfl (fun g => .pointer (some ⟨g, 0, none⟩)) (does_box rfl rfl) (by decide) ?_
 intro g2 w3 hM a hA
 refine s_new (vs := [.int .i64 0, .int .i64 0, .bool false, .slice none 0 0, .slice none 0 0, .bool false, .slice none 0 0, .slice none 0 0, .string (⟨#[]⟩), .slice none 0 0, .slice none 0 0]) (t := 31) hA hM rfl rfl rfl (fun g => .pointer (some ⟨g, 0, none⟩)) (does_alloc (z := .agg #[.int .i64 0, .int .i64 0, .bool false, .slice none 0 0, .slice none 0 0, .bool false, .slice none 0 0, .slice none 0 0, .string (⟨#[]⟩), .slice none 0 0, .slice none 0 0]) (by kernel_rfl) rfl) (by decide) ?_
 intro g4 w5 hM a hA
 refine seq_do hA rfl rfl rfl (does_assign rfl) ?_
 intro a hA
 refine seq_end ?_
 refine hK1 _ _ ?_
 refine wp_seq_k (fun K6 hK6 => ?_)
 refine wp_region_lit ?_
 refine seq_do hA rfl rfl rfl (m_loadS hM LiG_isS_31 rfl 1 rfl (cs := [.int .i64 t.d.k, .int .i64 t.d.n, .bool t.d.y.q.b1, .slice t.d.y.o1 t.d.y.q.t1.length t.d.y.c1, .slice t.d.y.o2 t.d.y.q.q1.length t.d.y.c2, .bool t.d.y.q.b2, .slice t.d.y.o3 t.d.y.q.t2.length t.d.y.c3, .slice t.d.y.o4 t.d.y.q.q2.length t.d.y.c4, .string t.d.s, .slice t.d.ro t.d.rl.length t.d.rc, .slice t.d.lo t.ts.length t.d.lc]) rfl rfl) ?_
 intro a hA
 rcases Bool.eq_false_or_eq_true (soundT shapeT t.tr) with hb7 | hb7
 · rcases Bool.eq_false_or_eq_true ((asList t.tr).isSome) with hb9 | hb9
   · refine seq_call hA rfl rfl rfl (enters_func rfl rfl (fun w => by kernel_rfl)) (items_some hM.bel ht (by omega) (hT.below hM.bel) hb7 hb9) ?_
     rintro _ w11 ⟨so7, ca7, ys, rfl, ⟨hy1, hy2, hy3⟩, hM7⟩
     have hyb := asList_bulk hy1
     replace hM : Mg w w11 (.row 31 11 (.slice so7 ys.length ca7) ys.length (cellsOf ys) :: .obj g4 (.cells #[.int .i64 0, .int .i64 0, .bool false, .slice none 0 0, .slice none 0 0, .bool false, .slice none 0 0, .slice none 0 0, .string (⟨#[]⟩), .slice none 0 0, .slice none 0 0] 31) :: .obj g2 (.cells (t.d.cells t.ts.length).toArray 31) :: []) := (hM.both hM7 (noBld_cons (by simp) (noBld_cons (by simp) (noBld_quiet quietL_nil))) (noBld_cons (by simp) (noBld_quiet quietL_nil)))
     refine ⟨_, rfl, ?_⟩
     intro a hA
     refine seq_do hA rfl rfl rfl (does_move rfl) ?_
     intro a hA
     refine seq_do (v := .slice so7 ys.length ca7) hA rfl rfl rfl (does_extract (vs := [.slice so7 ys.length ca7, .int .i64 0]) rfl rfl) ?_
     intro a hA
     refine seq_do (v := .int .i64 0) hA rfl rfl rfl (does_extract (vs := [.slice so7 ys.length ca7, .int .i64 0]) rfl rfl) ?_
     intro a hA
     refine seq_do hA rfl rfl rfl (does_assign rfl) ?_
     intro a hA
     refine seq_do hA rfl rfl rfl (does_assign rfl) ?_
     intro a hA
     refine seq_end ?_
     refine hK6 _ _ ?_
     refine wp_seq_k (fun K12 hK12 => ?_)
     refine wp_seq_k (fun K13 hK13 => ?_)
     refine wp_region_lit ?_
     refine seq_do hA rfl rfl rfl (does_move rfl) ?_
     intro a hA
     refine seq_do (v := .bool false) hA rfl rfl rfl (does_bin rfl rfl (fun w => by kernel_rfl)) ?_
     intro a hA
     refine seq_end ?_
     refine hK13 _ _ ?_
     refine wp_cond_false (hA.ev rfl) ?_
     refine wp_skip ?_
     refine hK12 _ _ ?_
     refine wp_seq_k (fun K14 hK14 => ?_)
     refine wp_region_lit ?_
     refine seq_do hA rfl rfl rfl (does_move rfl) ?_
     intro a hA
     refine seq_call hA rfl rfl rfl (enters_func rfl rfl (fun w => by kernel_rfl)) (rev_any (by omega) hM) ?_
     rintro _ w15 ⟨rfl, hM8⟩
     replace hM : Mg w w15 (.row 31 11 (.slice so7 ys.length ca7) ys.length (cellsOf ys.reverse) :: .obj g4 (.cells #[.int .i64 0, .int .i64 0, .bool false, .slice none 0 0, .slice none 0 0, .bool false, .slice none 0 0, .slice none 0 0, .string (⟨#[]⟩), .slice none 0 0, .slice none 0 0] 31) :: .obj g2 (.cells (t.d.cells t.ts.length).toArray 31) :: []) := hM8
     refine ⟨_, rfl, ?_⟩
     intro a hA
     refine seq_end ?_
     refine hK14 _ _ ?_
     refine wp_seq_k (fun K16 hK16 => ?_)
     refine wp_region_lit ?_
     refine seq_do hA rfl rfl rfl (does_move rfl) ?_
     intro a hA
     have hlt17 := (Ck.lt (hM.has 1 rfl) g4 rfl).2
     have hlt18 := (Ck.lt (hM.has 2 rfl) g2 rfl).2
     have hzt2 := hM.bel.size
     refine seq_call hA rfl rfl rfl (enters_func rfl rfl (fun w => by kernel_rfl)) (listOf_rev (rt_own (hM.has 0 rfl)).1 (fun t ht => Dt.keep hM.bel _ (hy2 t (List.mem_reverse.1 ht))) (by rw [List.map_reverse, bulks_rev]; omega)) ?_
     rintro _ w20 ⟨t2, rfl, ⟨hrt2, hat2, htt2⟩, hb19⟩
     replace hM := hM.call hb19
     refine ⟨_, rfl, ?_⟩
     intro a hA
     refine s_storeD (us := [.int .i64 t2.d.k, .int .i64 t2.d.n, .bool t2.d.y.q.b1, .slice t2.d.y.o1 t2.d.y.q.t1.length t2.d.y.c1, .slice t2.d.y.o2 t2.d.y.q.q1.length t2.d.y.c2, .bool t2.d.y.q.b2, .slice t2.d.y.o3 t2.d.y.q.t2.length t2.d.y.c3, .slice t2.d.y.o4 t2.d.y.q.q2.length t2.d.y.c4, .string t2.d.s, .slice t2.d.ro t2.d.rl.length t2.d.rc, .slice t2.d.lo t2.ts.length t2.d.lc]) (L' := (.row 31 11 (.slice so7 ys.length ca7) ys.length (cellsOf ys.reverse) :: .obj g4 (.cells (t2.d.cells t2.ts.length).toArray 31) :: .obj g2 (.cells (t.d.cells t.ts.length).toArray 31) :: [])) hA hM rfl rfl (m_store rfl rfl rfl (by kernel_rfl) hM 1 rfl rfl rfl) 1 rfl rfl rfl ?_
     intro w21 hM hK22
     replace hrt2 := Dt.kept hK22 _ hrt2 (Dt.at_mono (fun b hb => by rintro rfl; omega) _ hat2)
     refine seq_do hA rfl rfl rfl (does_assign rfl) ?_
     intro a hA
     refine seq_end ?_
     refine hK16 _ _ ?_
     refine wp_ret ?_
     refine hret _ _ ?_
     refine ends (v := .tuple #[.agg (t2.d.cells t2.ts.length).toArray, .int .i64 0]) hA rfl (.cons (res_cellS hM LiG_isS_31 rfl 1 rfl (cs := [.int .i64 t2.d.k, .int .i64 t2.d.n, .bool t2.d.y.q.b1, .slice t2.d.y.o1 t2.d.y.q.t1.length t2.d.y.c1, .slice t2.d.y.o2 t2.d.y.q.q1.length t2.d.y.c2, .bool t2.d.y.q.b2, .slice t2.d.y.o3 t2.d.y.q.t2.length t2.d.y.c3, .slice t2.d.y.o4 t2.d.y.q.q2.length t2.d.y.c4, .string t2.d.s, .slice t2.d.ro t2.d.rl.length t2.d.rc, .slice t2.d.lo t2.ts.length t2.d.lc]) rfl rfl) (.cons (res_tmp rfl) .nil)) rfl ?_
     exact ⟨t2, 0, rfl, ⟨hrt2, Dt.at_mono (fun b hb => Nat.le_trans hzt2 hb) _ hat2, by unfold revS; rw [if_neg (by rw [hb7]; decide), hy1]; rw [htt2, List.map_reverse]⟩, hM.bel⟩
   · refine seq_call hA rfl rfl rfl (enters_func rfl rfl (fun w => by kernel_rfl)) (items_none hM.bel ht (by omega) (hT.below hM.bel) hb7 hb9) ?_
     rintro _ w24 ⟨rfl, hb23⟩
     replace hM := hM.call hb23
     refine ⟨_, rfl, ?_⟩
     intro a hA
     refine seq_do hA rfl rfl rfl (does_move rfl) ?_
     intro a hA
     refine seq_do (v := .slice none 0 0) hA rfl rfl rfl (does_extract (vs := [.slice none 0 0, .int .i64 10]) rfl rfl) ?_
     intro a hA
     refine seq_do (v := .int .i64 10) hA rfl rfl rfl (does_extract (vs := [.slice none 0 0, .int .i64 10]) rfl rfl) ?_
     intro a hA
     refine seq_do hA rfl rfl rfl (does_assign rfl) ?_
     intro a hA
     refine seq_do hA rfl rfl rfl (does_assign rfl) ?_
     intro a hA
     refine seq_end ?_
     refine hK6 _ _ ?_
     refine wp_seq_k (fun K25 hK25 => ?_)
     refine wp_seq_k (fun K26 hK26 => ?_)
     refine wp_region_lit ?_
     refine seq_do hA rfl rfl rfl (does_move rfl) ?_
     intro a hA
     refine seq_do (v := .bool true) hA rfl rfl rfl (does_bin rfl rfl (fun w => by kernel_rfl)) ?_
     intro a hA
     refine seq_end ?_
     refine hK26 _ _ ?_
     refine wp_cond_true (hA.ev rfl) ?_
     refine wp_seq_k (fun K27 hK27 => ?_)
     refine wp_region_lit ?_
     refine seq_do (v := .agg #[.int .i64 0, .int .i64 0, .bool false, .slice none 0 0, .slice none 0 0, .bool false, .slice none 0 0, .slice none 0 0, .string (⟨#[]⟩), .slice none 0 0, .slice none 0 0]) hA rfl rfl rfl (does_build rfl (fun w => by kernel_rfl)) ?_
     intro a hA
     refine seq_do hA rfl rfl rfl (does_move rfl) ?_
     intro a hA
     refine s_store (us := [.int .i64 0, .int .i64 0, .bool false, .slice none 0 0, .slice none 0 0, .bool false, .slice none 0 0, .slice none 0 0, .string (⟨#[]⟩), .slice none 0 0, .slice none 0 0]) (L' := (.obj g4 (.cells #[.int .i64 0, .int .i64 0, .bool false, .slice none 0 0, .slice none 0 0, .bool false, .slice none 0 0, .slice none 0 0, .string (⟨#[]⟩), .slice none 0 0, .slice none 0 0] 31) :: .obj g2 (.cells (t.d.cells t.ts.length).toArray 31) :: [])) hA hM rfl rfl (m_store rfl rfl rfl (by kernel_rfl) hM 0 rfl rfl rfl) 0 rfl rfl rfl ?_
     intro w28 hM
     refine seq_do hA rfl rfl rfl (does_assign rfl) ?_
     intro a hA
     refine seq_end ?_
     refine hK27 _ _ ?_
     refine wp_ret ?_
     refine hret _ _ ?_
     refine ends (v := .tuple #[.agg #[.int .i64 0, .int .i64 0, .bool false, .slice none 0 0, .slice none 0 0, .bool false, .slice none 0 0, .slice none 0 0, .string (⟨#[]⟩), .slice none 0 0, .slice none 0 0], .int .i64 10]) hA rfl (.cons (res_cellS hM LiG_isS_31 rfl 0 rfl (cs := [.int .i64 0, .int .i64 0, .bool false, .slice none 0 0, .slice none 0 0, .bool false, .slice none 0 0, .slice none 0 0, .string (⟨#[]⟩), .slice none 0 0, .slice none 0 0]) rfl rfl) (.cons (res_tmp rfl) .nil)) rfl ?_
     exact ⟨zeroD, 10, rfl, ⟨zeroD_rd _, zeroD_at _, by unfold revS; rw [if_neg (by rw [hb7]; decide), none_of hb9, zeroD_tr]⟩, hM.bel⟩
 · refine seq_call hA rfl rfl rfl (enters_func rfl rfl (fun w => by kernel_rfl)) (items_bad hM.bel ht (by omega) (hT.below hM.bel) hb7) ?_
   rintro _ w30 ⟨rfl, hb29⟩
   replace hM := hM.call hb29
   refine ⟨_, rfl, ?_⟩
   intro a hA
   refine seq_do hA rfl rfl rfl (does_move rfl) ?_
   intro a hA
   refine seq_do (v := .slice none 0 0) hA rfl rfl rfl (does_extract (vs := [.slice none 0 0, .int .i64 2]) rfl rfl) ?_
   intro a hA
   refine seq_do (v := .int .i64 2) hA rfl rfl rfl (does_extract (vs := [.slice none 0 0, .int .i64 2]) rfl rfl) ?_
   intro a hA
   refine seq_do hA rfl rfl rfl (does_assign rfl) ?_
   intro a hA
   refine seq_do hA rfl rfl rfl (does_assign rfl) ?_
   intro a hA
   refine seq_end ?_
   refine hK6 _ _ ?_
   refine wp_seq_k (fun K31 hK31 => ?_)
   refine wp_seq_k (fun K32 hK32 => ?_)
   refine wp_region_lit ?_
   refine seq_do hA rfl rfl rfl (does_move rfl) ?_
   intro a hA
   refine seq_do (v := .bool true) hA rfl rfl rfl (does_bin rfl rfl (fun w => by kernel_rfl)) ?_
   intro a hA
   refine seq_end ?_
   refine hK32 _ _ ?_
   refine wp_cond_true (hA.ev rfl) ?_
   refine wp_seq_k (fun K33 hK33 => ?_)
   refine wp_region_lit ?_
   refine seq_do (v := .agg #[.int .i64 0, .int .i64 0, .bool false, .slice none 0 0, .slice none 0 0, .bool false, .slice none 0 0, .slice none 0 0, .string (⟨#[]⟩), .slice none 0 0, .slice none 0 0]) hA rfl rfl rfl (does_build rfl (fun w => by kernel_rfl)) ?_
   intro a hA
   refine seq_do hA rfl rfl rfl (does_move rfl) ?_
   intro a hA
   refine s_store (us := [.int .i64 0, .int .i64 0, .bool false, .slice none 0 0, .slice none 0 0, .bool false, .slice none 0 0, .slice none 0 0, .string (⟨#[]⟩), .slice none 0 0, .slice none 0 0]) (L' := (.obj g4 (.cells #[.int .i64 0, .int .i64 0, .bool false, .slice none 0 0, .slice none 0 0, .bool false, .slice none 0 0, .slice none 0 0, .string (⟨#[]⟩), .slice none 0 0, .slice none 0 0] 31) :: .obj g2 (.cells (t.d.cells t.ts.length).toArray 31) :: [])) hA hM rfl rfl (m_store rfl rfl rfl (by kernel_rfl) hM 0 rfl rfl rfl) 0 rfl rfl rfl ?_
   intro w34 hM
   refine seq_do hA rfl rfl rfl (does_assign rfl) ?_
   intro a hA
   refine seq_end ?_
   refine hK33 _ _ ?_
   refine wp_ret ?_
   refine hret _ _ ?_
   refine ends (v := .tuple #[.agg #[.int .i64 0, .int .i64 0, .bool false, .slice none 0 0, .slice none 0 0, .bool false, .slice none 0 0, .slice none 0 0, .string (⟨#[]⟩), .slice none 0 0, .slice none 0 0], .int .i64 2]) hA rfl (.cons (res_cellS hM LiG_isS_31 rfl 0 rfl (cs := [.int .i64 0, .int .i64 0, .bool false, .slice none 0 0, .slice none 0 0, .bool false, .slice none 0 0, .slice none 0 0, .string (⟨#[]⟩), .slice none 0 0, .slice none 0 0]) rfl rfl) (.cons (res_tmp rfl) .nil)) rfl ?_
   exact ⟨zeroD, 2, rfl, ⟨zeroD_rd _, zeroD_at _, by unfold revS; rw [if_pos hb7, zeroD_tr]⟩, hM.bel⟩
end Go.Proofs.YtbnjomifogjdfaaDoor.G
namespace Go.Proofs.YtbnjomifogjdfaaDoor
open Go.RowKit
set_option linter.unusedVariables false
set_option linter.unusedSimpArgs false
set_option maxRecDepth 100000
theorem EqO_fld_28_0 : FieldAt Tryd.prog 28 0 0 := ⟨_, _, Tryd.underlying28, rfl, rfl, by kernel_rfl⟩
theorem EqO_fld_28_1 : FieldAt Tryd.prog 28 1 3 := ⟨_, _, Tryd.underlying28, rfl, rfl, by kernel_rfl⟩
theorem EqO_isS_26 : IsS Tryd.prog 26 3 := ⟨⟨_, Tryd.underlying26⟩, by kernel_rfl⟩
theorem alikeQ_any {w : World} {p q : Q6} {a1 a2 a3 a4 : Option Addr} {ac1 ac2 ac3 ac4 : Nat} (ha : Nm w p a1 ac1 a2 ac2 a3 ac3 a4 ac4) (hl : LenQ p) {u1 u2 u3 u4 : Option Addr} {uc1 uc2 uc3 uc4 : Nat} (hu : Nm w q u1 uc1 u2 uc2 u3 uc3 u4 uc4) (hm : LenQ q) {r : Bool} (hr : (sameF p.b1 p.t1 p.q1 q.b1 q.t1 q.q1 && sameF p.b2 p.t2 p.q2 q.b2 q.t2 q.q2) = r) : Calls Tryd.prog 17 #[numV p a1 ac1 a2 ac2 a3 ac3 a4 ac4, numV q u1 uc1 u2 uc2 u3 uc3 u4 uc4] w fun e w' => e = .returned (.bool r) ∧ Below w.heap.size w w' := by
 have hS : St w w [] [(u4, q.q2), (u3, q.t2), (u2, q.q1), (u1, q.t1), (a4, p.q2), (a3, p.t2), (a2, p.q1), (a1, p.t1)] [] := ((((((((St.start w).addR ha.s1.rd).addR ha.s2.rd).addR ha.s3.rd).addR ha.s4.rd).addR hu.s1.rd).addR hu.s2.rd).addR hu.s3.rd).addR hu.s4.rd
 refine walk_of (l := [(0, .agg #[.bool p.b1, .slice a1 p.t1.length ac1, .slice a2 p.q1.length ac2, .bool p.b2, .slice a3 p.t2.length ac3, .slice a4 p.q2.length ac4]), (1, .agg #[.bool q.b1, .slice u1 q.t1.length uc1, .slice u2 q.q1.length uc2, .bool q.b2, .slice u3 q.t2.length uc3, .slice u4 q.q2.length uc4])]) Tryd.func17 rfl Tryd.ntmps17 rfl rfl ?_
 intro Q hret hnorm hP a hA
 refine wp_seq_k (fun K1 hK1 => ?_)
 refine wp_region_lit ?_
 refine seq_new hA hS rfl rfl rfl (fun g => .pointer (some ⟨g, 0, none⟩)) (does_box rfl rfl) rfl ?_
 intro g2 w3 hS a hA
 refine seq_new hA hS rfl rfl rfl (fun g => .pointer (some ⟨g, 0, none⟩)) (does_box rfl rfl) rfl ?_
 intro g4 w5 hS a hA
 refine seq_do hA rfl rfl rfl (does_assign rfl) ?_
 intro a hA
 refine seq_end ?_
 refine hK1 _ _ ?_
 refine wp_seq_k (fun K6 hK6 => ?_)
 refine wp_region_lit ?_
 refine seq_do (v := .pointer (some ⟨g2, 0, none⟩)) hA rfl rfl rfl (does_field EqO_fld_28_0 rfl rfl) ?_
 intro a hA
 refine seq_do hA rfl rfl rfl (does_loadS hS EqO_isS_26 rfl 1 rfl (cs := [.bool p.b1, .slice a1 p.t1.length ac1, .slice a2 p.q1.length ac2]) rfl rfl) ?_
 intro a hA
 refine seq_do (v := .pointer (some ⟨g4, 0, none⟩)) hA rfl rfl rfl (does_field EqO_fld_28_0 rfl rfl) ?_
 intro a hA
 refine seq_do hA rfl rfl rfl (does_loadS hS EqO_isS_26 rfl 0 rfl (cs := [.bool q.b1, .slice u1 q.t1.length uc1, .slice u2 q.q1.length uc2]) rfl rfl) ?_
 intro a hA
 rcases Bool.eq_false_or_eq_true (sameF p.b1 p.t1 p.q1 q.b1 q.t1 q.q1) with hb7 | hb7
 · refine seq_call hA rfl rfl rfl (enters_func  rfl rfl (fun w => by kernel_rfl)) (ratSame_any ⟨(hS.rd 7 rfl), ha.s1.nil, ha.s1.cap⟩ ⟨(hS.rd 6 rfl), ha.s2.nil, ha.s2.cap⟩ ⟨(hS.rd 3 rfl), hu.s1.nil, hu.s1.cap⟩ ⟨(hS.rd 2 rfl), hu.s2.nil, hu.s2.cap⟩ hl.l1 hl.l2 hm.l1 hm.l2 hb7) ?_
   rintro _ w9 ⟨rfl, hb8⟩
   replace hS := hS.call hb8
   refine ⟨_, rfl, ?_⟩
   intro a hA
   refine seq_do hA rfl rfl rfl (does_move rfl) ?_
   intro a hA
   refine seq_do (v := .pointer (some ⟨g2, 3, none⟩)) hA rfl rfl rfl (does_field EqO_fld_28_1 rfl rfl) ?_
   intro a hA
   refine seq_do hA rfl rfl rfl (does_loadS hS EqO_isS_26 rfl 1 rfl (cs := [.bool p.b2, .slice a3 p.t2.length ac3, .slice a4 p.q2.length ac4]) rfl rfl) ?_
   intro a hA
   refine seq_do (v := .pointer (some ⟨g4, 3, none⟩)) hA rfl rfl rfl (does_field EqO_fld_28_1 rfl rfl) ?_
   intro a hA
   refine seq_do hA rfl rfl rfl (does_loadS hS EqO_isS_26 rfl 0 rfl (cs := [.bool q.b2, .slice u3 q.t2.length uc3, .slice u4 q.q2.length uc4]) rfl rfl) ?_
   intro a hA
   rcases Bool.eq_false_or_eq_true (sameF p.b2 p.t2 p.q2 q.b2 q.t2 q.q2) with hb10 | hb10
   · refine seq_call hA rfl rfl rfl (enters_func  rfl rfl (fun w => by kernel_rfl)) (ratSame_any ⟨(hS.rd 5 rfl), ha.s3.nil, ha.s3.cap⟩ ⟨(hS.rd 4 rfl), ha.s4.nil, ha.s4.cap⟩ ⟨(hS.rd 1 rfl), hu.s3.nil, hu.s3.cap⟩ ⟨(hS.rd 0 rfl), hu.s4.nil, hu.s4.cap⟩ hl.l3 hl.l4 hm.l3 hm.l4 hb10) ?_
     rintro _ w12 ⟨rfl, hb11⟩
     replace hS := hS.call hb11
     refine ⟨_, rfl, ?_⟩
     intro a hA
     refine seq_do (v := .bool true) hA rfl rfl rfl (does_pick rfl rfl rfl rfl) ?_
     intro a hA
     refine seq_do hA rfl rfl rfl (does_assign rfl) ?_
     intro a hA
     refine seq_end ?_
     refine hK6 _ _ ?_
     refine wp_ret ?_
     refine hret _ _ ?_
     refine ends (v := .bool true) hA rfl (.cons (res_tmp rfl) .nil) rfl ?_
     subst hr
     exact ⟨by rw [hb7, hb10]; try rfl, hS.bel⟩
   · refine seq_call hA rfl rfl rfl (enters_func  rfl rfl (fun w => by kernel_rfl)) (ratSame_any ⟨(hS.rd 5 rfl), ha.s3.nil, ha.s3.cap⟩ ⟨(hS.rd 4 rfl), ha.s4.nil, ha.s4.cap⟩ ⟨(hS.rd 1 rfl), hu.s3.nil, hu.s3.cap⟩ ⟨(hS.rd 0 rfl), hu.s4.nil, hu.s4.cap⟩ hl.l3 hl.l4 hm.l3 hm.l4 hb10) ?_
     rintro _ w14 ⟨rfl, hb13⟩
     replace hS := hS.call hb13
     refine ⟨_, rfl, ?_⟩
     intro a hA
     refine seq_do (v := .bool false) hA rfl rfl rfl (does_pick rfl rfl rfl rfl) ?_
     intro a hA
     refine seq_do hA rfl rfl rfl (does_assign rfl) ?_
     intro a hA
     refine seq_end ?_
     refine hK6 _ _ ?_
     refine wp_ret ?_
     refine hret _ _ ?_
     refine ends (v := .bool false) hA rfl (.cons (res_tmp rfl) .nil) rfl ?_
     subst hr
     exact ⟨by rw [hb7, hb10]; try rfl, hS.bel⟩
 · refine seq_call hA rfl rfl rfl (enters_func  rfl rfl (fun w => by kernel_rfl)) (ratSame_any ⟨(hS.rd 7 rfl), ha.s1.nil, ha.s1.cap⟩ ⟨(hS.rd 6 rfl), ha.s2.nil, ha.s2.cap⟩ ⟨(hS.rd 3 rfl), hu.s1.nil, hu.s1.cap⟩ ⟨(hS.rd 2 rfl), hu.s2.nil, hu.s2.cap⟩ hl.l1 hl.l2 hm.l1 hm.l2 hb7) ?_
   rintro _ w16 ⟨rfl, hb15⟩
   replace hS := hS.call hb15
   refine ⟨_, rfl, ?_⟩
   intro a hA
   refine seq_do hA rfl rfl rfl (does_move rfl) ?_
   intro a hA
   refine seq_skip hA rfl rfl rfl ?_
   intro a hA
   refine seq_skip hA rfl rfl rfl ?_
   intro a hA
   refine seq_skip hA rfl rfl rfl ?_
   intro a hA
   refine seq_skip hA rfl rfl rfl ?_
   intro a hA
   refine seq_skip hA rfl rfl rfl ?_
   intro a hA
   refine seq_do (v := .bool false) hA rfl rfl rfl (does_pick rfl rfl rfl rfl) ?_
   intro a hA
   refine seq_do hA rfl rfl rfl (does_assign rfl) ?_
   intro a hA
   refine seq_end ?_
   refine hK6 _ _ ?_
   refine wp_ret ?_
   refine hret _ _ ?_
   refine ends (v := .bool false) hA rfl (.cons (res_tmp rfl) .nil) rfl ?_
   subst hr
   exact ⟨by rw [hb7]; try rfl, hS.bel⟩

end Go.Proofs.YtbnjomifogjdfaaDoor
namespace Go.Proofs.YtbnjomifogjdfaaDoor.G
open Go.RowKit
set_option linter.unusedVariables false
set_option linter.unusedSimpArgs false
/-! ### The same trees, by the document -/
mutual
def sameT : Tr → Tr → Bool
  | .mk k n q s rl ts, u => (decide (k = u.k) && (decide (n = u.n) && (decide (s = u.s) && (decide (rl = u.rl) && (sameF q.b1 q.t1 q.q1 u.q.b1 u.q.t1 u.q.q1 && sameF q.b2 q.t2 q.q2 u.q.b2 u.q.t2 u.q.q2))))) && (decide (ts.length = u.ts.length) && sameL ts u.ts)
def sameL : List Tr → List Tr → Bool
  | [], _ => true
  | _ :: _, [] => true
  | t :: ts, u :: us => sameT t u && sameL ts us
end
theorem sameF_iff {b b' : Bool} {t q t' q' : List Nat} : sameF b t q b' t' q' = true ↔ b = b' ∧ t = t' ∧ q = q' := by
  unfold sameF
  simp
theorem sameT_mk (k n : Int) (q : Q6) (s : ByteArray) (rl : List UInt8) (ts : List Tr) (k' n' : Int) (q' : Q6) (s' : ByteArray) (rl' : List UInt8) (ts' : List Tr) : sameT (.mk k n q s rl ts) (.mk k' n' q' s' rl' ts') = true ↔ k = k' ∧ n = n' ∧ q = q' ∧ s = s' ∧ rl = rl' ∧ ts.length = ts'.length ∧ sameL ts ts' = true := by
  rw [sameT]
  show ((decide (k = k') && (decide (n = n') && (decide (s = s') && (decide (rl = rl') && (sameF q.b1 q.t1 q.q1 q'.b1 q'.t1 q'.q1 && sameF q.b2 q.t2 q.q2 q'.b2 q'.t2 q'.q2))))) && (decide (ts.length = ts'.length) && sameL ts ts')) = true ↔ _
  simp only [Bool.and_eq_true, decide_eq_true_eq, sameF_iff]
  constructor
  · rintro ⟨⟨a, b, c, d, ⟨e1, e2, e3⟩, f1, f2, f3⟩, g, h⟩
    refine ⟨a, b, ?_, c, d, g, h⟩
    cases q; cases q'
    simp_all
  · rintro ⟨a, b, c, d, e, f, g⟩
    subst c
    exact ⟨⟨a, b, d, e, ⟨rfl, rfl, rfl⟩, rfl, rfl, rfl⟩, f, g⟩
theorem sameL_eq {ts : List Tr} (h : ∀ t ∈ ts, ∀ u, sameT t u = true ↔ t = u) : ∀ us : List Tr, ts.length = us.length → (sameL ts us = true ↔ ts = us) := by
  induction ts with
  | nil =>
    intro us hl
    cases us with
    | nil => simp [sameL]
    | cons u us => simp at hl
  | cons t ts ih =>
    intro us hl
    cases us with
    | nil => simp at hl
    | cons u us =>
      rw [sameL, Bool.and_eq_true, h t List.mem_cons_self u, ih (fun x hx => h x (List.mem_cons_of_mem _ hx)) us (by simpa using hl)]
      simp
theorem sameT_eq : ∀ t u : Tr, sameT t u = true ↔ t = u := by
  refine Tr.indT fun k n q s rl ts ih u => ?_
  obtain ⟨k', n', q', s', rl', ts'⟩ := u
  rw [sameT_mk]
  constructor
  · rintro ⟨a, b, c, d, e, f, g⟩
    rw [a, b, c, d, e, (sameL_eq ih ts' f).1 g]
  · intro h
    cases h
    exact ⟨rfl, rfl, rfl, rfl, rfl, rfl, (sameL_eq ih ts rfl).2 rfl⟩
theorem sameL_go {ts us : List Dt} {i : Nat} {t u : Dt} (hi : ts[i]? = some t) (hj : us[i]? = some u) : sameL ((ts.map Dt.tr).drop i) ((us.map Dt.tr).drop i) = (sameT t.tr u.tr && sameL ((ts.map Dt.tr).drop (i + 1)) ((us.map Dt.tr).drop (i + 1))) := by
  rw [drop_kid hi, drop_kid hj, sameL]
theorem sameL_end {ts us : List Dt} {i : Nat} (h : ¬ i < ts.length) : sameL ((ts.map Dt.tr).drop i) ((us.map Dt.tr).drop i) = true := by
  rw [drop_kids h, sameL]
theorem sameT_at (p r : Dt) : sameT p.tr r.tr = ((decide (p.d.k = r.d.k) && (decide (p.d.n = r.d.n) && (decide (p.d.s = r.d.s) && (decide (p.d.rl = r.d.rl) && (sameF p.d.y.q.b1 p.d.y.q.t1 p.d.y.q.q1 r.d.y.q.b1 r.d.y.q.t1 r.d.y.q.q1 && sameF p.d.y.q.b2 p.d.y.q.t2 p.d.y.q.q2 r.d.y.q.b2 r.d.y.q.t2 r.d.y.q.q2))))) && (decide (p.ts.length = r.ts.length) && sameL (p.ts.map Dt.tr) (r.ts.map Dt.tr))) := by
  rw [Dt.tr_eta p, Dt.tr_eta r, sameT, List.length_map]
  show _ = (_ && (decide (p.ts.length = r.ts.length) && _))
  rw [show (Tr.mk r.d.k r.d.n r.d.y.q r.d.s r.d.rl (r.ts.map Dt.tr)).ts.length = r.ts.length from List.length_map _]
  rfl
def SQ2 (p r : Dt) : Bool := sameF p.d.y.q.b1 p.d.y.q.t1 p.d.y.q.q1 r.d.y.q.b1 r.d.y.q.t1 r.d.y.q.q1 && sameF p.d.y.q.b2 p.d.y.q.t2 p.d.y.q.q2 r.d.y.q.b2 r.d.y.q.t2 r.d.y.q.q2
theorem same_no {p r : Dt} (h : p.d.k ≠ r.d.k ∨ p.d.n ≠ r.d.n ∨ p.d.s ≠ r.d.s ∨ p.d.rl ≠ r.d.rl ∨ p.ts.length ≠ r.ts.length ∨ SQ2 p r = false) : sameT p.tr r.tr = false := by
  rw [sameT_at]
  unfold SQ2 at h
  rcases h with h | h | h | h | h | h <;> simp [h]
theorem same_yes {p r : Dt} (h1 : p.d.k = r.d.k) (h2 : p.d.n = r.d.n) (h3 : p.d.s = r.d.s) (h4 : p.d.rl = r.d.rl) (h5 : p.ts.length = r.ts.length) (h6 : SQ2 p r = true) : sameT p.tr r.tr = sameL (p.ts.map Dt.tr) (r.ts.map Dt.tr) := by
  rw [sameT_at]
  unfold SQ2 at h6
  rw [decide_eq_true h1, decide_eq_true h2, decide_eq_true h3, decide_eq_true h4, decide_eq_true h5, h6]
  simp
theorem bytes_ext {a b : List UInt8} (hl : a.length = b.length) (h : ∀ j, j < a.length → a.getD j 0 = b.getD j 0) : a = b := by
  apply List.ext_getElem hl
  intro j h1 h2
  have := h j h1
  rwa [show a.getD j 0 = a[j] from by simp [List.getD, List.getElem?_eq_getElem h1], show b.getD j 0 = b[j] from by simp [List.getD, List.getElem?_eq_getElem h2]] at this
theorem ne_at {a b : List UInt8} {i : Nat} (h : (((a.getD i 0).toNat : Nat) : Int) ≠ (((b.getD i 0).toNat : Nat) : Int)) : a ≠ b := fun e => h (by rw [e])
theorem eq_at {a b : UInt8} (h : ((a.toNat : Nat) : Int) = ((b.toNat : Nat) : Int)) : a = b := UInt8.toNat_inj.1 (by omega)
end Go.Proofs.YtbnjomifogjdfaaDoor.G
namespace Go.Proofs.YtbnjomifogjdfaaDoor.G
open Go.RowKit
set_option linter.unusedVariables false
set_option linter.unusedSimpArgs false
set_option maxRecDepth 100000
theorem LiS_is1_22 : Is1 Tryd.prog 22 := ⟨⟨_, Tryd.underlying22, rfl⟩, by kernel_rfl⟩
theorem LiS_is1_29 : Is1 Tryd.prog 29 := ⟨⟨_, Tryd.underlying29, rfl⟩, by kernel_rfl⟩
theorem LiS_is1_3 : Is1 Tryd.prog 3 := ⟨⟨_, Tryd.underlying3, rfl⟩, by kernel_rfl⟩
theorem LiS_is1_5 : Is1 Tryd.prog 5 := ⟨⟨_, Tryd.underlying5, rfl⟩, by kernel_rfl⟩
theorem LiS_is1_9 : Is1 Tryd.prog 9 := ⟨⟨_, Tryd.underlying9, rfl⟩, by kernel_rfl⟩
theorem LiS_fld_31_0 : FieldAt Tryd.prog 31 0 0 := ⟨_, _, Tryd.underlying31, rfl, rfl, by kernel_rfl⟩
theorem LiS_fld_31_1 : FieldAt Tryd.prog 31 1 1 := ⟨_, _, Tryd.underlying31, rfl, rfl, by kernel_rfl⟩
theorem LiS_fld_31_2 : FieldAt Tryd.prog 31 2 2 := ⟨_, _, Tryd.underlying31, rfl, rfl, by kernel_rfl⟩
theorem LiS_fld_31_3 : FieldAt Tryd.prog 31 3 8 := ⟨_, _, Tryd.underlying31, rfl, rfl, by kernel_rfl⟩
theorem LiS_fld_31_4 : FieldAt Tryd.prog 31 4 9 := ⟨_, _, Tryd.underlying31, rfl, rfl, by kernel_rfl⟩
theorem LiS_fld_31_5 : FieldAt Tryd.prog 31 5 10 := ⟨_, _, Tryd.underlying31, rfl, rfl, by kernel_rfl⟩
theorem LiS_isS_28 : IsS Tryd.prog 28 6 := ⟨⟨_, Tryd.underlying28⟩, by kernel_rfl⟩
theorem LiS_isS_31 : IsS Tryd.prog 31 11 := ⟨⟨_, Tryd.underlying31⟩, by kernel_rfl⟩
theorem rb_open {w : World} {so : Option Addr} {l : List UInt8} {i : Nat} (h : Rb w so l) (hi : i < l.length) : ∃ b off, so = some ⟨b, off, none⟩ ∧ b < w.heap.size ∧ ∀ j, j < l.length → w.cell? ⟨b, off + j, none⟩ = some (.int .u8 (((l.getD j 0).toNat : Nat) : Int)) :=
  h.pos (fun k => by rw [k] at hi; exact absurd hi (Nat.not_lt_zero _))
theorem alikeD_any {w : World} {t u : Dt} (ht : t.rd w) (hu : u.rd w) {b : Bool} (h : SQ2 t u = b) : Calls Tryd.prog 17 #[t.d.y.val, u.d.y.val] w fun e w' => e = .returned (.bool b) ∧ Below w.heap.size w w' := alikeQ_any (Dt.okT ht).1.num (Dt.okT ht).1.len (Dt.okT hu).1.num (Dt.okT hu).1.len h
def RSames (n : Nat) : Prop := ∀ {w : World} {t u : Dt}, t.tr.bulk < n → t.rd w → u.rd w → Calls Tryd.prog 9 #[.agg (t.d.cells t.ts.length).toArray, .agg (u.d.cells u.ts.length).toArray] w fun e w' => e = .returned (.bool (sameT t.tr u.tr)) ∧ Below w.heap.size w w'
set_option maxHeartbeats 1000000 in
theorem rsames_step {n : Nat} (ih : RSames n) : RSames (n + 1) := by
 intro w t u hn ht hu
 have hlt := (Dt.okT ht).2
 have hrt : t.d.rl.length ≤ 9223372036854775807 := Nat.le_trans (Dt.okT ht).1.rcap (Dt.okT ht).1.rmax
 have hM : Mg w w ([]) := Mg.start w
 refine walk_of (l := [(0, .agg (t.d.cells t.ts.length).toArray), (1, .agg (u.d.cells u.ts.length).toArray)]) Tryd.func9 rfl Tryd.ntmps9 rfl rfl ?_
 intro Q hret hnorm hP a hA
 refine wp_seq_k (fun K1 hK1 => ?_)
 refine wp_region_lit ?_
 refine s_new (vs := [.int .i64 t.d.k, .int .i64 t.d.n, .bool t.d.y.q.b1, .slice t.d.y.o1 t.d.y.q.t1.length t.d.y.c1, .slice t.d.y.o2 t.d.y.q.q1.length t.d.y.c2, .bool t.d.y.q.b2, .slice t.d.y.o3 t.d.y.q.t2.length t.d.y.c3, .slice t.d.y.o4 t.d.y.q.q2.length t.d.y.c4, .string t.d.s, .slice t.d.ro t.d.rl.length t.d.rc, .slice t.d.lo t.ts.length t.d.lc]) (t := 31) hA hM rfl rfl rfl (fun g => .pointer (some ⟨g, 0, none⟩)) (does_box rfl rfl) (by decide) ?_
 intro g2 w3 hM a hA
 refine s_new (vs := [.int .i64 u.d.k, .int .i64 u.d.n, .bool u.d.y.q.b1, .slice u.d.y.o1 u.d.y.q.t1.length u.d.y.c1, .slice u.d.y.o2 u.d.y.q.q1.length u.d.y.c2, .bool u.d.y.q.b2, .slice u.d.y.o3 u.d.y.q.t2.length u.d.y.c3, .slice u.d.y.o4 u.d.y.q.q2.length u.d.y.c4, .string u.d.s, .slice u.d.ro u.d.rl.length u.d.rc, .slice u.d.lo u.ts.length u.d.lc]) (t := 31) hA hM rfl rfl rfl (fun g => .pointer (some ⟨g, 0, none⟩)) (does_box rfl rfl) (by decide) ?_
 intro g4 w5 hM a hA
 refine seq_do hA rfl rfl rfl (does_assign rfl) ?_
 intro a hA
 refine seq_end ?_
 refine hK1 _ _ ?_
 refine wp_seq_k (fun K6 hK6 => ?_)
 refine wp_seq_k (fun K7 hK7 => ?_)
 refine wp_region_lit ?_
 refine seq_do (v := .pointer (some ⟨g2, 0, none⟩)) hA rfl rfl rfl (does_field LiS_fld_31_0 rfl rfl) ?_
 intro a hA
 refine seq_do hA rfl rfl rfl (m_load1 hM LiS_is1_3 rfl 1 rfl rfl) ?_
 intro a hA
 refine seq_do (v := .pointer (some ⟨g4, 0, none⟩)) hA rfl rfl rfl (does_field LiS_fld_31_0 rfl rfl) ?_
 intro a hA
 refine seq_do hA rfl rfl rfl (m_load1 hM LiS_is1_3 rfl 0 rfl rfl) ?_
 intro a hA
 rcases Bool.eq_false_or_eq_true ((t.d.k != u.d.k)) with hb8 | hb8
 · have hb8' := bne_iff_ne.1 hb8
   refine seq_do (v := .bool true) hA rfl rfl rfl (does_bin rfl rfl (fun w => (bin_neq w).trans (by rw [hb8]))) ?_
   intro a hA
   refine seq_do hA rfl rfl rfl (does_move rfl) ?_
   intro a hA
   refine seq_skip hA rfl rfl rfl ?_
   intro a hA
   refine seq_skip hA rfl rfl rfl ?_
   intro a hA
   refine seq_skip hA rfl rfl rfl ?_
   intro a hA
   refine seq_skip hA rfl rfl rfl ?_
   intro a hA
   refine seq_skip hA rfl rfl rfl ?_
   intro a hA
   refine seq_do (v := .bool true) hA rfl rfl rfl (does_pick rfl rfl rfl rfl) ?_
   intro a hA
   refine seq_do hA rfl rfl rfl (does_move rfl) ?_
   intro a hA
   refine seq_skip hA rfl rfl rfl ?_
   intro a hA
   refine seq_skip hA rfl rfl rfl ?_
   intro a hA
   refine seq_skip hA rfl rfl rfl ?_
   intro a hA
   refine seq_skip hA rfl rfl rfl ?_
   intro a hA
   refine seq_skip hA rfl rfl rfl ?_
   intro a hA
   refine seq_do (v := .bool true) hA rfl rfl rfl (does_pick rfl rfl rfl rfl) ?_
   intro a hA
   refine seq_do hA rfl rfl rfl (does_move rfl) ?_
   intro a hA
   refine seq_skip hA rfl rfl rfl ?_
   intro a hA
   refine seq_skip hA rfl rfl rfl ?_
   intro a hA
   refine seq_skip hA rfl rfl rfl ?_
   intro a hA
   refine seq_skip hA rfl rfl rfl ?_
   intro a hA
   refine seq_skip hA rfl rfl rfl ?_
   intro a hA
   refine seq_skip hA rfl rfl rfl ?_
   intro a hA
   refine seq_skip hA rfl rfl rfl ?_
   intro a hA
   refine seq_do (v := .bool true) hA rfl rfl rfl (does_pick rfl rfl rfl rfl) ?_
   intro a hA
   refine seq_do hA rfl rfl rfl (does_move rfl) ?_
   intro a hA
   refine seq_skip hA rfl rfl rfl ?_
   intro a hA
   refine seq_skip hA rfl rfl rfl ?_
   intro a hA
   refine seq_skip hA rfl rfl rfl ?_
   intro a hA
   refine seq_skip hA rfl rfl rfl ?_
   intro a hA
   refine seq_skip hA rfl rfl rfl ?_
   intro a hA
   refine seq_skip hA rfl rfl rfl ?_
   intro a hA
   refine seq_skip hA rfl rfl rfl ?_
   intro a hA
   refine seq_do (v := .bool true) hA rfl rfl rfl (does_pick rfl rfl rfl rfl) ?_
   intro a hA
   refine seq_do hA rfl rfl rfl (does_move rfl) ?_
   intro a hA
   refine seq_skip hA rfl rfl rfl ?_
   intro a hA
   refine seq_skip hA rfl rfl rfl ?_
   intro a hA
   refine seq_skip hA rfl rfl rfl ?_
   intro a hA
   refine seq_skip hA rfl rfl rfl ?_
   intro a hA
   refine seq_skip hA rfl rfl rfl ?_
   intro a hA
   refine seq_skip hA rfl rfl rfl ?_
   intro a hA
   refine seq_do (v := .bool true) hA rfl rfl rfl (does_pick rfl rfl rfl rfl) ?_
   intro a hA
   refine seq_end ?_
   refine hK7 _ _ ?_
   refine wp_cond_true (hA.ev rfl) ?_
   refine wp_seq_k (fun K9 hK9 => ?_)
   refine wp_region_lit ?_
   refine seq_do hA rfl rfl rfl (does_assign rfl) ?_
   intro a hA
   refine seq_end ?_
   refine hK9 _ _ ?_
   refine wp_ret ?_
   refine hret _ _ ?_
   refine ends (v := .bool false) hA rfl (.cons (res_tmp rfl) .nil) rfl ?_
   exact ⟨by rw [same_no (.inl hb8')], hM.bel⟩
 · have hb8' := bne_eq_false_iff_eq.1 hb8
   refine seq_do (v := .bool false) hA rfl rfl rfl (does_bin rfl rfl (fun w => (bin_neq w).trans (by rw [hb8]))) ?_
   intro a hA
   refine seq_do hA rfl rfl rfl (does_move rfl) ?_
   intro a hA
   refine seq_do (v := .pointer (some ⟨g2, 1, none⟩)) hA rfl rfl rfl (does_field LiS_fld_31_1 rfl rfl) ?_
   intro a hA
   refine seq_do hA rfl rfl rfl (m_load1 hM LiS_is1_3 rfl 1 rfl rfl) ?_
   intro a hA
   refine seq_do (v := .pointer (some ⟨g4, 1, none⟩)) hA rfl rfl rfl (does_field LiS_fld_31_1 rfl rfl) ?_
   intro a hA
   refine seq_do hA rfl rfl rfl (m_load1 hM LiS_is1_3 rfl 0 rfl rfl) ?_
   intro a hA
   rcases Bool.eq_false_or_eq_true ((t.d.n != u.d.n)) with hb10 | hb10
   · have hb10' := bne_iff_ne.1 hb10
     refine seq_do (v := .bool true) hA rfl rfl rfl (does_bin rfl rfl (fun w => (bin_neq w).trans (by rw [hb10]))) ?_
     intro a hA
     refine seq_do (v := .bool true) hA rfl rfl rfl (does_pick rfl rfl rfl rfl) ?_
     intro a hA
     refine seq_do hA rfl rfl rfl (does_move rfl) ?_
     intro a hA
     refine seq_skip hA rfl rfl rfl ?_
     intro a hA
     refine seq_skip hA rfl rfl rfl ?_
     intro a hA
     refine seq_skip hA rfl rfl rfl ?_
     intro a hA
     refine seq_skip hA rfl rfl rfl ?_
     intro a hA
     refine seq_skip hA rfl rfl rfl ?_
     intro a hA
     refine seq_do (v := .bool true) hA rfl rfl rfl (does_pick rfl rfl rfl rfl) ?_
     intro a hA
     refine seq_do hA rfl rfl rfl (does_move rfl) ?_
     intro a hA
     refine seq_skip hA rfl rfl rfl ?_
     intro a hA
     refine seq_skip hA rfl rfl rfl ?_
     intro a hA
     refine seq_skip hA rfl rfl rfl ?_
     intro a hA
     refine seq_skip hA rfl rfl rfl ?_
     intro a hA
     refine seq_skip hA rfl rfl rfl ?_
     intro a hA
     refine seq_skip hA rfl rfl rfl ?_
     intro a hA
     refine seq_skip hA rfl rfl rfl ?_
     intro a hA
     refine seq_do (v := .bool true) hA rfl rfl rfl (does_pick rfl rfl rfl rfl) ?_
     intro a hA
     refine seq_do hA rfl rfl rfl (does_move rfl) ?_
     intro a hA
     refine seq_skip hA rfl rfl rfl ?_
     intro a hA
     refine seq_skip hA rfl rfl rfl ?_
     intro a hA
     refine seq_skip hA rfl rfl rfl ?_
     intro a hA
     refine seq_skip hA rfl rfl rfl ?_
     intro a hA
     refine seq_skip hA rfl rfl rfl ?_
     intro a hA
     refine seq_skip hA rfl rfl rfl ?_
     intro a hA
     refine seq_skip hA rfl rfl rfl ?_
     intro a hA
     refine seq_do (v := .bool true) hA rfl rfl rfl (does_pick rfl rfl rfl rfl) ?_
     intro a hA
     refine seq_do hA rfl rfl rfl (does_move rfl) ?_
     intro a hA
     refine seq_skip hA rfl rfl rfl ?_
     intro a hA
     refine seq_skip hA rfl rfl rfl ?_
     intro a hA
     refine seq_skip hA rfl rfl rfl ?_
     intro a hA
     refine seq_skip hA rfl rfl rfl ?_
     intro a hA
     refine seq_skip hA rfl rfl rfl ?_
     intro a hA
     refine seq_skip hA rfl rfl rfl ?_
     intro a hA
     refine seq_do (v := .bool true) hA rfl rfl rfl (does_pick rfl rfl rfl rfl) ?_
     intro a hA
     refine seq_end ?_
     refine hK7 _ _ ?_
     refine wp_cond_true (hA.ev rfl) ?_
     refine wp_seq_k (fun K11 hK11 => ?_)
     refine wp_region_lit ?_
     refine seq_do hA rfl rfl rfl (does_assign rfl) ?_
     intro a hA
     refine seq_end ?_
     refine hK11 _ _ ?_
     refine wp_ret ?_
     refine hret _ _ ?_
     refine ends (v := .bool false) hA rfl (.cons (res_tmp rfl) .nil) rfl ?_
     exact ⟨by rw [same_no (.inr (.inl hb10'))], hM.bel⟩
   · have hb10' := bne_eq_false_iff_eq.1 hb10
     refine seq_do (v := .bool false) hA rfl rfl rfl (does_bin rfl rfl (fun w => (bin_neq w).trans (by rw [hb10]))) ?_
     intro a hA
     refine seq_do (v := .bool false) hA rfl rfl rfl (does_pick rfl rfl rfl rfl) ?_
     intro a hA
     refine seq_do hA rfl rfl rfl (does_move rfl) ?_
     intro a hA
     refine seq_do (v := .pointer (some ⟨g2, 8, none⟩)) hA rfl rfl rfl (does_field LiS_fld_31_3 rfl rfl) ?_
     intro a hA
     refine seq_do hA rfl rfl rfl (m_load1 hM LiS_is1_9 rfl 1 rfl rfl) ?_
     intro a hA
     refine seq_do (v := .pointer (some ⟨g4, 8, none⟩)) hA rfl rfl rfl (does_field LiS_fld_31_3 rfl rfl) ?_
     intro a hA
     refine seq_do hA rfl rfl rfl (m_load1 hM LiS_is1_9 rfl 0 rfl rfl) ?_
     intro a hA
     rcases Bool.eq_false_or_eq_true (decide (t.d.s = u.d.s)) with hb12 | hb12
     · have hb12' := of_decide_eq_true hb12
       refine seq_do (v := .bool false) hA rfl rfl rfl (does_bin rfl rfl (fun w => (bin_neqS Tryd.underlying9 w).trans (by rw [hb12] <;> rfl))) ?_
       intro a hA
       refine seq_do (v := .bool false) hA rfl rfl rfl (does_pick rfl rfl rfl rfl) ?_
       intro a hA
       refine seq_do hA rfl rfl rfl (does_move rfl) ?_
       intro a hA
       refine seq_do (v := .pointer (some ⟨g2, 9, none⟩)) hA rfl rfl rfl (does_field LiS_fld_31_4 rfl rfl) ?_
       intro a hA
       refine seq_do hA rfl rfl rfl (m_load1 hM LiS_is1_29 rfl 1 rfl rfl) ?_
       intro a hA
       refine seq_do (v := .int .i64 (((t.d.rl.length : Nat) : Int))) hA rfl rfl rfl (does_len Tryd.underlying29 rfl) ?_
       intro a hA
       refine seq_do (v := .pointer (some ⟨g4, 9, none⟩)) hA rfl rfl rfl (does_field LiS_fld_31_4 rfl rfl) ?_
       intro a hA
       refine seq_do hA rfl rfl rfl (m_load1 hM LiS_is1_29 rfl 0 rfl rfl) ?_
       intro a hA
       refine seq_do (v := .int .i64 (((u.d.rl.length : Nat) : Int))) hA rfl rfl rfl (does_len Tryd.underlying29 rfl) ?_
       intro a hA
       rcases Bool.eq_false_or_eq_true ((((t.d.rl.length : Nat) : Int) != ((u.d.rl.length : Nat) : Int))) with hb13 | hb13
       · have hb13' := bne_iff_ne.1 hb13
         refine seq_do (v := .bool true) hA rfl rfl rfl (does_bin rfl rfl (fun w => (bin_neq w).trans (by rw [hb13]))) ?_
         intro a hA
         refine seq_do (v := .bool true) hA rfl rfl rfl (does_pick rfl rfl rfl rfl) ?_
         intro a hA
         refine seq_do hA rfl rfl rfl (does_move rfl) ?_
         intro a hA
         refine seq_skip hA rfl rfl rfl ?_
         intro a hA
         refine seq_skip hA rfl rfl rfl ?_
         intro a hA
         refine seq_skip hA rfl rfl rfl ?_
         intro a hA
         refine seq_skip hA rfl rfl rfl ?_
         intro a hA
         refine seq_skip hA rfl rfl rfl ?_
         intro a hA
         refine seq_skip hA rfl rfl rfl ?_
         intro a hA
         refine seq_skip hA rfl rfl rfl ?_
         intro a hA
         refine seq_do (v := .bool true) hA rfl rfl rfl (does_pick rfl rfl rfl rfl) ?_
         intro a hA
         refine seq_do hA rfl rfl rfl (does_move rfl) ?_
         intro a hA
         refine seq_skip hA rfl rfl rfl ?_
         intro a hA
         refine seq_skip hA rfl rfl rfl ?_
         intro a hA
         refine seq_skip hA rfl rfl rfl ?_
         intro a hA
         refine seq_skip hA rfl rfl rfl ?_
         intro a hA
         refine seq_skip hA rfl rfl rfl ?_
         intro a hA
         refine seq_skip hA rfl rfl rfl ?_
         intro a hA
         refine seq_do (v := .bool true) hA rfl rfl rfl (does_pick rfl rfl rfl rfl) ?_
         intro a hA
         refine seq_end ?_
         refine hK7 _ _ ?_
         refine wp_cond_true (hA.ev rfl) ?_
         refine wp_seq_k (fun K14 hK14 => ?_)
         refine wp_region_lit ?_
         refine seq_do hA rfl rfl rfl (does_assign rfl) ?_
         intro a hA
         refine seq_end ?_
         refine hK14 _ _ ?_
         refine wp_ret ?_
         refine hret _ _ ?_
         refine ends (v := .bool false) hA rfl (.cons (res_tmp rfl) .nil) rfl ?_
         exact ⟨by rw [same_no (.inr (.inr (.inr (.inl (fun e => hb13' (by rw [e]))))))], hM.bel⟩
       · have hb13' := bne_eq_false_iff_eq.1 hb13
         refine seq_do (v := .bool false) hA rfl rfl rfl (does_bin rfl rfl (fun w => (bin_neq w).trans (by rw [hb13]))) ?_
         intro a hA
         refine seq_do (v := .bool false) hA rfl rfl rfl (does_pick rfl rfl rfl rfl) ?_
         intro a hA
         refine seq_do hA rfl rfl rfl (does_move rfl) ?_
         intro a hA
         refine seq_do (v := .pointer (some ⟨g2, 10, none⟩)) hA rfl rfl rfl (does_field LiS_fld_31_5 rfl rfl) ?_
         intro a hA
         refine seq_do hA rfl rfl rfl (m_load1 hM LiS_is1_22 rfl 1 rfl rfl) ?_
         intro a hA
         refine seq_do (v := .int .i64 (((t.ts.length : Nat) : Int))) hA rfl rfl rfl (does_len Tryd.underlying22 rfl) ?_
         intro a hA
         refine seq_do (v := .pointer (some ⟨g4, 10, none⟩)) hA rfl rfl rfl (does_field LiS_fld_31_5 rfl rfl) ?_
         intro a hA
         refine seq_do hA rfl rfl rfl (m_load1 hM LiS_is1_22 rfl 0 rfl rfl) ?_
         intro a hA
         refine seq_do (v := .int .i64 (((u.ts.length : Nat) : Int))) hA rfl rfl rfl (does_len Tryd.underlying22 rfl) ?_
         intro a hA
         rcases Bool.eq_false_or_eq_true ((((t.ts.length : Nat) : Int) != ((u.ts.length : Nat) : Int))) with hb15 | hb15
         · have hb15' := bne_iff_ne.1 hb15
           refine seq_do (v := .bool true) hA rfl rfl rfl (does_bin rfl rfl (fun w => (bin_neq w).trans (by rw [hb15]))) ?_
           intro a hA
           refine seq_do (v := .bool true) hA rfl rfl rfl (does_pick rfl rfl rfl rfl) ?_
           intro a hA
           refine seq_do hA rfl rfl rfl (does_move rfl) ?_
           intro a hA
           refine seq_skip hA rfl rfl rfl ?_
           intro a hA
           refine seq_skip hA rfl rfl rfl ?_
           intro a hA
           refine seq_skip hA rfl rfl rfl ?_
           intro a hA
           refine seq_skip hA rfl rfl rfl ?_
           intro a hA
           refine seq_skip hA rfl rfl rfl ?_
           intro a hA
           refine seq_skip hA rfl rfl rfl ?_
           intro a hA
           refine seq_do (v := .bool true) hA rfl rfl rfl (does_pick rfl rfl rfl rfl) ?_
           intro a hA
           refine seq_end ?_
           refine hK7 _ _ ?_
           refine wp_cond_true (hA.ev rfl) ?_
           refine wp_seq_k (fun K16 hK16 => ?_)
           refine wp_region_lit ?_
           refine seq_do hA rfl rfl rfl (does_assign rfl) ?_
           intro a hA
           refine seq_end ?_
           refine hK16 _ _ ?_
           refine wp_ret ?_
           refine hret _ _ ?_
           refine ends (v := .bool false) hA rfl (.cons (res_tmp rfl) .nil) rfl ?_
           exact ⟨by rw [same_no (.inr (.inr (.inr (.inr (.inl (fun e => hb15' (by rw [e])))))))], hM.bel⟩
         · have hb15' := bne_eq_false_iff_eq.1 hb15
           refine seq_do (v := .bool false) hA rfl rfl rfl (does_bin rfl rfl (fun w => (bin_neq w).trans (by rw [hb15]))) ?_
           intro a hA
           refine seq_do (v := .bool false) hA rfl rfl rfl (does_pick rfl rfl rfl rfl) ?_
           intro a hA
           refine seq_do hA rfl rfl rfl (does_move rfl) ?_
           intro a hA
           refine seq_do (v := .pointer (some ⟨g2, 2, none⟩)) hA rfl rfl rfl (does_field LiS_fld_31_2 rfl rfl) ?_
           intro a hA
           refine seq_do hA rfl rfl rfl (m_loadS hM LiS_isS_28 rfl 1 rfl (cs := [.bool t.d.y.q.b1, .slice t.d.y.o1 t.d.y.q.t1.length t.d.y.c1, .slice t.d.y.o2 t.d.y.q.q1.length t.d.y.c2, .bool t.d.y.q.b2, .slice t.d.y.o3 t.d.y.q.t2.length t.d.y.c3, .slice t.d.y.o4 t.d.y.q.q2.length t.d.y.c4]) rfl rfl) ?_
           intro a hA
           refine seq_do (v := .pointer (some ⟨g4, 2, none⟩)) hA rfl rfl rfl (does_field LiS_fld_31_2 rfl rfl) ?_
           intro a hA
           refine seq_do hA rfl rfl rfl (m_loadS hM LiS_isS_28 rfl 0 rfl (cs := [.bool u.d.y.q.b1, .slice u.d.y.o1 u.d.y.q.t1.length u.d.y.c1, .slice u.d.y.o2 u.d.y.q.q1.length u.d.y.c2, .bool u.d.y.q.b2, .slice u.d.y.o3 u.d.y.q.t2.length u.d.y.c3, .slice u.d.y.o4 u.d.y.q.q2.length u.d.y.c4]) rfl rfl) ?_
           intro a hA
           rcases Bool.eq_false_or_eq_true (SQ2 t u) with hb17 | hb17
           · refine seq_call hA rfl rfl rfl (enters_func rfl rfl (fun w => by kernel_rfl)) (alikeD_any (Dt.keep hM.bel _ ht) (Dt.keep hM.bel _ hu) hb17) ?_
             rintro _ w19 ⟨rfl, hb18⟩
             replace hM := hM.call hb18
             refine ⟨_, rfl, ?_⟩
             intro a hA
             refine seq_do (v := .bool false) hA rfl rfl rfl (does_un rfl un_not) ?_
             intro a hA
             refine seq_do (v := .bool false) hA rfl rfl rfl (does_pick rfl rfl rfl rfl) ?_
             intro a hA
             refine seq_end ?_
             refine hK7 _ _ ?_
             refine wp_cond_false (hA.ev rfl) ?_
             refine wp_skip ?_
             refine hK6 _ _ ?_
             refine wp_seq_k (fun K20 hK20 => ?_)
             refine wp_seq_k (fun K21 hK21 => ?_)
             refine wp_region_lit ?_
             refine seq_do hA rfl rfl rfl (does_assign rfl) ?_
             intro a hA
             refine seq_end ?_
             refine hK21 _ _ ?_
             refine wp_block ?_
             refine wp_loop_n (fun m_ a w1 => ∃ (i : Nat), m_ = 1 + (t.d.rl.length - i) ∧ (i ≤ t.d.rl.length ∧ ∀ j, j < i → t.d.rl.getD j 0 = u.d.rl.getD j 0) ∧ Sl a 89 [(0, .agg (t.d.cells t.ts.length).toArray), (1, .agg (u.d.cells u.ts.length).toArray), (2, .pointer (some ⟨g2, 0, none⟩)), (3, .pointer (some ⟨g4, 0, none⟩)), (5, .int .i64 (((i : Nat) : Int))), (7, .pointer (some ⟨g2, 0, none⟩)), (8, .int .i64 t.d.k), (9, .pointer (some ⟨g4, 0, none⟩)), (10, .int .i64 u.d.k), (11, .bool false), (12, .bool false), (13, .pointer (some ⟨g2, 1, none⟩)), (14, .int .i64 t.d.n), (15, .pointer (some ⟨g4, 1, none⟩)), (16, .int .i64 u.d.n), (17, .bool false), (18, .bool false), (19, .bool false), (20, .pointer (some ⟨g2, 8, none⟩)), (21, .string t.d.s), (22, .pointer (some ⟨g4, 8, none⟩)), (23, .string u.d.s), (24, .bool false), (25, .bool false), (26, .bool false), (27, .pointer (some ⟨g2, 9, none⟩)), (28, .slice t.d.ro t.d.rl.length t.d.rc), (29, .int .i64 (((t.d.rl.length : Nat) : Int))), (30, .pointer (some ⟨g4, 9, none⟩)), (31, .slice u.d.ro u.d.rl.length u.d.rc), (32, .int .i64 (((u.d.rl.length : Nat) : Int))), (33, .bool false), (34, .bool false), (35, .bool false), (36, .pointer (some ⟨g2, 10, none⟩)), (37, .slice t.d.lo t.ts.length t.d.lc), (38, .int .i64 (((t.ts.length : Nat) : Int))), (39, .pointer (some ⟨g4, 10, none⟩)), (40, .slice u.d.lo u.ts.length u.d.lc), (41, .int .i64 (((u.ts.length : Nat) : Int))), (42, .bool false), (43, .bool false), (44, .bool false), (45, .pointer (some ⟨g2, 2, none⟩)), (46, .agg #[.bool t.d.y.q.b1, .slice t.d.y.o1 t.d.y.q.t1.length t.d.y.c1, .slice t.d.y.o2 t.d.y.q.q1.length t.d.y.c2, .bool t.d.y.q.b2, .slice t.d.y.o3 t.d.y.q.t2.length t.d.y.c3, .slice t.d.y.o4 t.d.y.q.q2.length t.d.y.c4]), (47, .pointer (some ⟨g4, 2, none⟩)), (48, .agg #[.bool u.d.y.q.b1, .slice u.d.y.o1 u.d.y.q.t1.length u.d.y.c1, .slice u.d.y.o2 u.d.y.q.q1.length u.d.y.c2, .bool u.d.y.q.b2, .slice u.d.y.o3 u.d.y.q.t2.length u.d.y.c3, .slice u.d.y.o4 u.d.y.q.q2.length u.d.y.c4]), (49, .bool true), (50, .bool false), (51, .bool false)] ∧ Mg w w1 (.obj g4 (.cells (u.d.cells u.ts.length).toArray 31) :: .obj g2 (.cells (t.d.cells t.ts.length).toArray 31) :: [])) _ ⟨0, rfl, ⟨Nat.zero_le _, fun j hj => absurd hj (Nat.not_lt_zero _)⟩, hA.keep _ ⟨rfl, rfl, rfl, rfl, rfl, rfl, rfl, rfl, rfl, rfl, rfl, rfl, rfl, rfl, rfl, rfl, rfl, rfl, rfl, rfl, rfl, rfl, rfl, rfl, rfl, rfl, rfl, rfl, rfl, rfl, rfl, rfl, rfl, rfl, rfl, rfl, rfl, rfl, rfl, rfl, rfl, rfl, rfl, rfl, rfl, rfl, rfl, rfl, rfl, rfl, trivial⟩, hM⟩ ?_
             clear hM hA
             rintro m_ a w22 ⟨i, rfl, hinv24, hA, hM⟩ K23 hK23
             obtain ⟨hi0, hin8⟩ := hinv24
             refine wp_seq_k (fun K25 hK25 => ?_)
             refine wp_seq_k (fun K26 hK26 => ?_)
             refine wp_region_lit ?_
             refine seq_do hA rfl rfl rfl (does_move rfl) ?_
             intro a hA
             refine seq_do (v := .pointer (some ⟨g2, 9, none⟩)) hA rfl rfl rfl (does_field LiS_fld_31_4 rfl rfl) ?_
             intro a hA
             refine seq_do hA rfl rfl rfl (m_load1 hM LiS_is1_29 rfl 1 rfl rfl) ?_
             intro a hA
             refine seq_do (v := .int .i64 (((t.d.rl.length : Nat) : Int))) hA rfl rfl rfl (does_len Tryd.underlying29 rfl) ?_
             intro a hA
             rcases Bool.eq_false_or_eq_true (decide (((i : Nat) : Int) < ((t.d.rl.length : Nat) : Int))) with hb27 | hb27
             · have hb27' := of_decide_eq_true hb27
               refine seq_do (v := .bool true) hA rfl rfl rfl (does_bin rfl rfl (fun w => (bin_lss w).trans (by rw [hb27]))) ?_
               intro a hA
               refine seq_end ?_
               refine hK26 _ _ ?_
               refine wp_cond_true (hA.ev rfl) ?_
               refine wp_skip ?_
               refine hK25 _ _ ?_
               refine wp_seq_k (fun K28 hK28 => ?_)
               refine wp_block ?_
               refine wp_seq_k (fun K29 hK29 => ?_)
               refine wp_draw (S := fun w1 => Mg w w1 (.obj g4 (.cells (u.d.cells u.ts.length).toArray 31) :: .obj g2 (.cells (t.d.cells t.ts.length).toArray 31) :: [])) (by kernel_rfl) ?_
               replace hM := hM.drew
               refine any_tk (v := .pointer (some ⟨g2, 9, none⟩)) hA 0 rfl rfl rfl rfl hP (hM.sub (.cons_cons _ (.cons_cons _ (List.nil_sublist _)))) (fun w1 hM => does_field LiS_fld_31_4 rfl rfl) ?_
               intro a hA
               refine any_tk hA 1 rfl rfl rfl rfl hP (hM.sub (.cons_cons _ (.cons_cons _ (List.nil_sublist _)))) (fun w1 hM => m_load1 hM LiS_is1_29 rfl 1 rfl rfl) ?_
               intro a hA
               refine any_tk hA 2 rfl rfl rfl rfl hP (hM.sub (.cons_cons _ (.cons_cons _ (List.nil_sublist _)))) (fun w1 hM => does_move rfl) ?_
               intro a hA
               obtain ⟨bt, ot, ht1, ht2, ht3⟩ := rb_open (i := i) (Dt.okT ht).1.raw (by omega)
               refine any_tk (v := .pointer (some ⟨bt, ot + i, none⟩)) hA 3 rfl rfl rfl rfl hP (hM.sub (.cons_cons _ (.cons_cons _ (List.nil_sublist _)))) (fun w1 hM => does_indexRow (k := i) Tryd.underlying29 (by kernel_rfl) rfl rfl rfl ht1 (by omega)) ?_
               intro a hA
               refine any_tk hA 4 rfl rfl rfl rfl hP (hM.sub (.cons_cons _ (.cons_cons _ (List.nil_sublist _)))) (fun w1 hM => m_loadR hM ht2 (ht3 i (by omega)) LiS_is1_5 rfl) ?_
               intro a hA
               refine any_tk (v := .pointer (some ⟨g4, 9, none⟩)) hA 5 rfl rfl rfl rfl hP (hM.sub (.cons_cons _ (.cons_cons _ (List.nil_sublist _)))) (fun w1 hM => does_field LiS_fld_31_4 rfl rfl) ?_
               intro a hA
               refine any_tk hA 6 rfl rfl rfl rfl hP (hM.sub (.cons_cons _ (.cons_cons _ (List.nil_sublist _)))) (fun w1 hM => m_load1 hM LiS_is1_29 rfl 0 rfl rfl) ?_
               intro a hA
               refine any_tk hA 7 rfl rfl rfl rfl hP (hM.sub (.cons_cons _ (.cons_cons _ (List.nil_sublist _)))) (fun w1 hM => does_move rfl) ?_
               intro a hA
               obtain ⟨bu, ou, hu1, hu2, hu3⟩ := rb_open (i := i) (Dt.okT hu).1.raw (by omega)
               refine any_tk (v := .pointer (some ⟨bu, ou + i, none⟩)) hA 8 rfl rfl rfl rfl hP (hM.sub (.cons_cons _ (.cons_cons _ (List.nil_sublist _)))) (fun w1 hM => does_indexRow (k := i) Tryd.underlying29 (by kernel_rfl) rfl rfl rfl hu1 (by omega)) ?_
               intro a hA
               refine any_tk hA 9 rfl rfl rfl rfl hP (hM.sub (.cons_cons _ (.cons_cons _ (List.nil_sublist _)))) (fun w1 hM => m_loadR hM hu2 (hu3 i (by omega)) LiS_is1_5 rfl) ?_
               intro a hA
               rcases Bool.eq_false_or_eq_true (((((t.d.rl.getD i 0).toNat : Nat) : Int) != (((u.d.rl.getD i 0).toNat : Nat) : Int))) with hb30 | hb30
               · have hb30' := bne_iff_ne.1 hb30
                 refine any_tk (v := .bool true) hA 10 rfl rfl rfl rfl hP (hM.sub (.cons_cons _ (.cons_cons _ (List.nil_sublist _)))) (fun w1 hM => does_bin rfl rfl (fun w => (bin_neq w).trans (by rw [hb30]))) ?_
                 intro a hA
                 refine any_end (by kernel_rfl) ?_
                 refine hK29 _ _ ?_
                 refine wp_cond_true (hA.ev rfl) ?_
                 refine wp_seq_k (fun K31 hK31 => ?_)
                 refine wp_region_lit ?_
                 refine seq_do hA rfl rfl rfl (does_assign rfl) ?_
                 intro a hA
                 refine seq_end ?_
                 refine hK31 _ _ ?_
                 refine wp_ret ?_
                 refine hret _ _ ?_
                 refine ends (v := .bool false) hA rfl (.cons (res_tmp rfl) .nil) rfl ?_
                 exact ⟨by rw [same_no (.inr (.inr (.inr (.inl (ne_at hb30')))))], hM.bel⟩
               · have hb30' := bne_eq_false_iff_eq.1 hb30
                 refine any_tk (v := .bool false) hA 10 rfl rfl rfl rfl hP (hM.sub (.cons_cons _ (.cons_cons _ (List.nil_sublist _)))) (fun w1 hM => does_bin rfl rfl (fun w => (bin_neq w).trans (by rw [hb30]))) ?_
                 intro a hA
                 refine any_end (by kernel_rfl) ?_
                 refine hK29 _ _ ?_
                 refine wp_cond_false (hA.ev rfl) ?_
                 refine wp_skip ?_
                 refine hK28 _ _ ?_
                 refine wp_region_lit ?_
                 refine seq_do hA rfl rfl rfl (does_move rfl) ?_
                 intro a hA
                 refine seq_do (v := .int .i64 (((i + 1 : Nat) : Int))) hA rfl rfl rfl (does_bin rfl rfl (fun w => (bin_add (i64In (by omega) (by omega)) w).trans (by rw [show (((i : Nat) : Int) + 1 : Int) = ((i + 1 : Nat) : Int) from by omega]))) ?_
                 intro a hA
                 refine seq_do hA rfl rfl rfl (does_assign rfl) ?_
                 intro a hA
                 refine seq_end ?_
                 refine hK23 _ _ _ (by omega) ⟨i + 1, rfl, ⟨by omega, fun j hj => if h9 : j < i then hin8 j h9 else by have h8 : j = i := (by omega); subst h8; exact eq_at hb30'⟩, hA.keep _ ⟨rfl, rfl, rfl, rfl, rfl, rfl, rfl, rfl, rfl, rfl, rfl, rfl, rfl, rfl, rfl, rfl, rfl, rfl, rfl, rfl, rfl, rfl, rfl, rfl, rfl, rfl, rfl, rfl, rfl, rfl, rfl, rfl, rfl, rfl, rfl, rfl, rfl, rfl, rfl, rfl, rfl, rfl, rfl, rfl, rfl, rfl, rfl, rfl, rfl, rfl, trivial⟩, hM⟩
             · have hb27' := of_decide_eq_false hb27
               refine seq_do (v := .bool false) hA rfl rfl rfl (does_bin rfl rfl (fun w => (bin_lss w).trans (by rw [hb27]))) ?_
               intro a hA
               refine seq_end ?_
               refine hK26 _ _ ?_
               refine wp_cond_false (hA.ev rfl) ?_
               refine wp_exit ?_
               refine hK20 _ _ ?_
               refine wp_seq_k (fun K32 hK32 => ?_)
               refine wp_seq_k (fun K33 hK33 => ?_)
               refine wp_region_lit ?_
               refine seq_do hA rfl rfl rfl (does_assign rfl) ?_
               intro a hA
               refine seq_end ?_
               refine hK33 _ _ ?_
               refine wp_block ?_
               have hrl : t.d.rl = u.d.rl := bytes_ext (by omega) (fun j hj => hin8 j (by omega))
               have hsy := same_yes hb8' hb10' hb12' hrl (by omega) hb17
               refine wp_loop_n (fun m_ a w1 => ∃ (j : Nat), m_ = 1 + (t.ts.length - j) ∧ (j ≤ t.ts.length ∧ sameL (t.ts.map Dt.tr) (u.ts.map Dt.tr) = sameL ((t.ts.map Dt.tr).drop j) ((u.ts.map Dt.tr).drop j)) ∧ Sl a 89 [(0, .agg (t.d.cells t.ts.length).toArray), (1, .agg (u.d.cells u.ts.length).toArray), (2, .pointer (some ⟨g2, 0, none⟩)), (3, .pointer (some ⟨g4, 0, none⟩)), (5, .int .i64 (((i : Nat) : Int))), (6, .int .i64 (((j : Nat) : Int))), (7, .pointer (some ⟨g2, 0, none⟩)), (8, .int .i64 t.d.k), (9, .pointer (some ⟨g4, 0, none⟩)), (10, .int .i64 u.d.k), (11, .bool false), (12, .bool false), (13, .pointer (some ⟨g2, 1, none⟩)), (14, .int .i64 t.d.n), (15, .pointer (some ⟨g4, 1, none⟩)), (16, .int .i64 u.d.n), (17, .bool false), (18, .bool false), (19, .bool false), (20, .pointer (some ⟨g2, 8, none⟩)), (21, .string t.d.s), (22, .pointer (some ⟨g4, 8, none⟩)), (23, .string u.d.s), (24, .bool false), (25, .bool false), (26, .bool false), (27, .pointer (some ⟨g2, 9, none⟩)), (28, .slice t.d.ro t.d.rl.length t.d.rc), (29, .int .i64 (((t.d.rl.length : Nat) : Int))), (30, .pointer (some ⟨g4, 9, none⟩)), (31, .slice u.d.ro u.d.rl.length u.d.rc), (32, .int .i64 (((u.d.rl.length : Nat) : Int))), (33, .bool false), (34, .bool false), (35, .bool false), (36, .pointer (some ⟨g2, 10, none⟩)), (37, .slice t.d.lo t.ts.length t.d.lc), (38, .int .i64 (((t.ts.length : Nat) : Int))), (39, .pointer (some ⟨g4, 10, none⟩)), (40, .slice u.d.lo u.ts.length u.d.lc), (41, .int .i64 (((u.ts.length : Nat) : Int))), (42, .bool false), (43, .bool false), (44, .bool false), (45, .pointer (some ⟨g2, 2, none⟩)), (46, .agg #[.bool t.d.y.q.b1, .slice t.d.y.o1 t.d.y.q.t1.length t.d.y.c1, .slice t.d.y.o2 t.d.y.q.q1.length t.d.y.c2, .bool t.d.y.q.b2, .slice t.d.y.o3 t.d.y.q.t2.length t.d.y.c3, .slice t.d.y.o4 t.d.y.q.q2.length t.d.y.c4]), (47, .pointer (some ⟨g4, 2, none⟩)), (48, .agg #[.bool u.d.y.q.b1, .slice u.d.y.o1 u.d.y.q.t1.length u.d.y.c1, .slice u.d.y.o2 u.d.y.q.q1.length u.d.y.c2, .bool u.d.y.q.b2, .slice u.d.y.o3 u.d.y.q.t2.length u.d.y.c3, .slice u.d.y.o4 u.d.y.q.q2.length u.d.y.c4]), (49, .bool true), (50, .bool false), (51, .bool false), (52, .int .i64 (((i : Nat) : Int))), (53, .pointer (some ⟨g2, 9, none⟩)), (54, .slice t.d.ro t.d.rl.length t.d.rc), (55, .int .i64 (((t.d.rl.length : Nat) : Int))), (56, .bool false)] ∧ Mg w w1 (.obj g4 (.cells (u.d.cells u.ts.length).toArray 31) :: .obj g2 (.cells (t.d.cells t.ts.length).toArray 31) :: [])) _ ⟨0, rfl, ⟨Nat.zero_le _, rfl⟩, hA.keep _ ⟨rfl, rfl, rfl, rfl, rfl, rfl, rfl, rfl, rfl, rfl, rfl, rfl, rfl, rfl, rfl, rfl, rfl, rfl, rfl, rfl, rfl, rfl, rfl, rfl, rfl, rfl, rfl, rfl, rfl, rfl, rfl, rfl, rfl, rfl, rfl, rfl, rfl, rfl, rfl, rfl, rfl, rfl, rfl, rfl, rfl, rfl, rfl, rfl, rfl, rfl, rfl, rfl, rfl, rfl, rfl, rfl, trivial⟩, hM⟩ ?_
               clear hM hA
               rintro m_ a w34 ⟨j, rfl, hinv36, hA, hM⟩ K35 hK35
               obtain ⟨hi1, hin9⟩ := hinv36
               refine wp_seq_k (fun K37 hK37 => ?_)
               refine wp_seq_k (fun K38 hK38 => ?_)
               refine wp_region_lit ?_
               refine seq_do hA rfl rfl rfl (does_move rfl) ?_
               intro a hA
               refine seq_do (v := .pointer (some ⟨g2, 10, none⟩)) hA rfl rfl rfl (does_field LiS_fld_31_5 rfl rfl) ?_
               intro a hA
               refine seq_do hA rfl rfl rfl (m_load1 hM LiS_is1_22 rfl 1 rfl rfl) ?_
               intro a hA
               refine seq_do (v := .int .i64 (((t.ts.length : Nat) : Int))) hA rfl rfl rfl (does_len Tryd.underlying22 rfl) ?_
               intro a hA
               rcases Bool.eq_false_or_eq_true (decide (((j : Nat) : Int) < ((t.ts.length : Nat) : Int))) with hb39 | hb39
               · have hb39' := of_decide_eq_true hb39
                 refine seq_do (v := .bool true) hA rfl rfl rfl (does_bin rfl rfl (fun w => (bin_lss w).trans (by rw [hb39]))) ?_
                 intro a hA
                 refine seq_end ?_
                 refine hK38 _ _ ?_
                 refine wp_cond_true (hA.ev rfl) ?_
                 refine wp_skip ?_
                 refine hK37 _ _ ?_
                 refine wp_seq_k (fun K40 hK40 => ?_)
                 refine wp_block ?_
                 refine wp_seq_k (fun K41 hK41 => ?_)
                 obtain ⟨t1, bt1, ot1, it1, mt1, rt1_, lt1, Ht1⟩ := kidT ht (i := j) (by omega)
                 obtain ⟨u1, bu1, ou1, iu1, mu1, ru1_, lu1, Hu1⟩ := kidT hu (i := j) (by omega)
                 refine wp_draw (S := fun w1 => Mg w w1 (.obj g4 (.cells (u.d.cells u.ts.length).toArray 31) :: .obj g2 (.cells (t.d.cells t.ts.length).toArray 31) :: [])) (by kernel_rfl) ?_
                 replace hM := hM.drew
                 refine any_tk (v := .pointer (some ⟨g2, 10, none⟩)) hA 0 rfl rfl rfl rfl hP (hM.sub (.cons_cons _ (.cons_cons _ (List.nil_sublist _)))) (fun w1 hM => does_field LiS_fld_31_5 rfl rfl) ?_
                 intro a hA
                 refine any_tk hA 1 rfl rfl rfl rfl hP (hM.sub (.cons_cons _ (.cons_cons _ (List.nil_sublist _)))) (fun w1 hM => m_load1 hM LiS_is1_22 rfl 1 rfl rfl) ?_
                 intro a hA
                 refine any_tk hA 2 rfl rfl rfl rfl hP (hM.sub (.cons_cons _ (.cons_cons _ (List.nil_sublist _)))) (fun w1 hM => does_move rfl) ?_
                 intro a hA
                 refine any_tk (v := .pointer (some ⟨bt1, ot1 + j * 11, none⟩)) hA 3 rfl rfl rfl rfl hP (hM.sub (.cons_cons _ (.cons_cons _ (List.nil_sublist _)))) (fun w1 hM => does_indexD (k := j) Tryd.underlying22 (by kernel_rfl) rfl rfl rfl lt1 (by omega)) ?_
                 intro a hA
                 refine any_tk hA 4 rfl rfl rfl rfl hP (hM.sub (.cons_cons _ (.cons_cons _ (List.nil_sublist _)))) (fun w1 hM => m_loadHS hM Ht1 LiS_isS_31 rfl rfl) ?_
                 intro a hA
                 refine any_tk (v := .pointer (some ⟨g4, 10, none⟩)) hA 5 rfl rfl rfl rfl hP (hM.sub (.cons_cons _ (.cons_cons _ (List.nil_sublist _)))) (fun w1 hM => does_field LiS_fld_31_5 rfl rfl) ?_
                 intro a hA
                 refine any_tk hA 6 rfl rfl rfl rfl hP (hM.sub (.cons_cons _ (.cons_cons _ (List.nil_sublist _)))) (fun w1 hM => m_load1 hM LiS_is1_22 rfl 0 rfl rfl) ?_
                 intro a hA
                 refine any_tk hA 7 rfl rfl rfl rfl hP (hM.sub (.cons_cons _ (.cons_cons _ (List.nil_sublist _)))) (fun w1 hM => does_move rfl) ?_
                 intro a hA
                 refine any_tk (v := .pointer (some ⟨bu1, ou1 + j * 11, none⟩)) hA 8 rfl rfl rfl rfl hP (hM.sub (.cons_cons _ (.cons_cons _ (List.nil_sublist _)))) (fun w1 hM => does_indexD (k := j) Tryd.underlying22 (by kernel_rfl) rfl rfl rfl lu1 (by omega)) ?_
                 intro a hA
                 refine any_tk hA 9 rfl rfl rfl rfl hP (hM.sub (.cons_cons _ (.cons_cons _ (List.nil_sublist _)))) (fun w1 hM => m_loadHS hM Hu1 LiS_isS_31 rfl rfl) ?_
                 intro a hA
                 rcases Bool.eq_false_or_eq_true (sameT t1.tr u1.tr) with hb42 | hb42
                 · refine any_one (by kernel_rfl) (op_call hA 10 rfl rfl rfl rfl (enters_func rfl rfl (fun w => by kernel_rfl)) ((hb42 ▸ ih (by have := bulkT mt1; omega) (Dt.keep hM.bel _ rt1_) (Dt.keep hM.bel _ ru1_))) ?_)
                   rintro _ w44 ⟨rfl, hb43⟩
                   replace hM := hM.call hb43
                   refine ⟨_, rfl, (hM.sub (.cons_cons _ (.cons_cons _ (List.nil_sublist _)))), ?_⟩
                   intro a hA
                   refine any_tk (v := .bool false) hA 11 rfl rfl rfl rfl hP (hM.sub (.cons_cons _ (.cons_cons _ (List.nil_sublist _)))) (fun w1 hM => does_un rfl un_not) ?_
                   intro a hA
                   refine any_end (by kernel_rfl) ?_
                   refine hK41 _ _ ?_
                   refine wp_cond_false (hA.ev rfl) ?_
                   refine wp_skip ?_
                   refine hK40 _ _ ?_
                   refine wp_region_lit ?_
                   refine seq_do hA rfl rfl rfl (does_move rfl) ?_
                   intro a hA
                   refine seq_do (v := .int .i64 (((j + 1 : Nat) : Int))) hA rfl rfl rfl (does_bin rfl rfl (fun w => (bin_add (i64In (by omega) (by omega)) w).trans (by rw [show (((j : Nat) : Int) + 1 : Int) = ((j + 1 : Nat) : Int) from by omega]))) ?_
                   intro a hA
                   refine seq_do hA rfl rfl rfl (does_assign rfl) ?_
                   intro a hA
                   refine seq_end ?_
                   refine hK35 _ _ _ (by omega) ⟨j + 1, rfl, ⟨by omega, by rw [hin9, sameL_go it1 iu1, hb42, Bool.true_and]⟩, hA.keep _ ⟨rfl, rfl, rfl, rfl, rfl, rfl, rfl, rfl, rfl, rfl, rfl, rfl, rfl, rfl, rfl, rfl, rfl, rfl, rfl, rfl, rfl, rfl, rfl, rfl, rfl, rfl, rfl, rfl, rfl, rfl, rfl, rfl, rfl, rfl, rfl, rfl, rfl, rfl, rfl, rfl, rfl, rfl, rfl, rfl, rfl, rfl, rfl, rfl, rfl, rfl, rfl, rfl, rfl, rfl, rfl, rfl, trivial⟩, hM⟩
                 · refine any_one (by kernel_rfl) (op_call hA 10 rfl rfl rfl rfl (enters_func rfl rfl (fun w => by kernel_rfl)) ((hb42 ▸ ih (by have := bulkT mt1; omega) (Dt.keep hM.bel _ rt1_) (Dt.keep hM.bel _ ru1_))) ?_)
                   rintro _ w46 ⟨rfl, hb45⟩
                   replace hM := hM.call hb45
                   refine ⟨_, rfl, (hM.sub (.cons_cons _ (.cons_cons _ (List.nil_sublist _)))), ?_⟩
                   intro a hA
                   refine any_tk (v := .bool true) hA 11 rfl rfl rfl rfl hP (hM.sub (.cons_cons _ (.cons_cons _ (List.nil_sublist _)))) (fun w1 hM => does_un rfl un_not) ?_
                   intro a hA
                   refine any_end (by kernel_rfl) ?_
                   refine hK41 _ _ ?_
                   refine wp_cond_true (hA.ev rfl) ?_
                   refine wp_seq_k (fun K47 hK47 => ?_)
                   refine wp_region_lit ?_
                   refine seq_do hA rfl rfl rfl (does_assign rfl) ?_
                   intro a hA
                   refine seq_end ?_
                   refine hK47 _ _ ?_
                   refine wp_ret ?_
                   refine hret _ _ ?_
                   refine ends (v := .bool false) hA rfl (.cons (res_tmp rfl) .nil) rfl ?_
                   exact ⟨by rw [hsy, hin9, sameL_go it1 iu1, hb42]; rfl, hM.bel⟩
               · have hb39' := of_decide_eq_false hb39
                 refine seq_do (v := .bool false) hA rfl rfl rfl (does_bin rfl rfl (fun w => (bin_lss w).trans (by rw [hb39]))) ?_
                 intro a hA
                 refine seq_end ?_
                 refine hK38 _ _ ?_
                 refine wp_cond_false (hA.ev rfl) ?_
                 refine wp_exit ?_
                 refine hK32 _ _ ?_
                 refine wp_seq_k (fun K48 hK48 => ?_)
                 refine wp_region_lit ?_
                 refine seq_do hA rfl rfl rfl (does_assign rfl) ?_
                 intro a hA
                 refine seq_end ?_
                 refine hK48 _ _ ?_
                 refine wp_ret ?_
                 refine hret _ _ ?_
                 refine ends (v := .bool true) hA rfl (.cons (res_tmp rfl) .nil) rfl ?_
                 exact ⟨by rw [hsy, hin9, sameL_end (by omega)], hM.bel⟩
           · refine seq_call hA rfl rfl rfl (enters_func rfl rfl (fun w => by kernel_rfl)) (alikeD_any (Dt.keep hM.bel _ ht) (Dt.keep hM.bel _ hu) hb17) ?_
             rintro _ w50 ⟨rfl, hb49⟩
             replace hM := hM.call hb49
             refine ⟨_, rfl, ?_⟩
             intro a hA
             refine seq_do (v := .bool true) hA rfl rfl rfl (does_un rfl un_not) ?_
             intro a hA
             refine seq_do (v := .bool true) hA rfl rfl rfl (does_pick rfl rfl rfl rfl) ?_
             intro a hA
             refine seq_end ?_
             refine hK7 _ _ ?_
             refine wp_cond_true (hA.ev rfl) ?_
             refine wp_seq_k (fun K51 hK51 => ?_)
             refine wp_region_lit ?_
             refine seq_do hA rfl rfl rfl (does_assign rfl) ?_
             intro a hA
             refine seq_end ?_
             refine hK51 _ _ ?_
             refine wp_ret ?_
             refine hret _ _ ?_
             refine ends (v := .bool false) hA rfl (.cons (res_tmp rfl) .nil) rfl ?_
             exact ⟨by rw [same_no (.inr (.inr (.inr (.inr (.inr hb17)))))], hM.bel⟩
     · have hb12' := of_decide_eq_false hb12
       refine seq_do (v := .bool true) hA rfl rfl rfl (does_bin rfl rfl (fun w => (bin_neqS Tryd.underlying9 w).trans (by rw [hb12] <;> rfl))) ?_
       intro a hA
       refine seq_do (v := .bool true) hA rfl rfl rfl (does_pick rfl rfl rfl rfl) ?_
       intro a hA
       refine seq_do hA rfl rfl rfl (does_move rfl) ?_
       intro a hA
       refine seq_skip hA rfl rfl rfl ?_
       intro a hA
       refine seq_skip hA rfl rfl rfl ?_
       intro a hA
       refine seq_skip hA rfl rfl rfl ?_
       intro a hA
       refine seq_skip hA rfl rfl rfl ?_
       intro a hA
       refine seq_skip hA rfl rfl rfl ?_
       intro a hA
       refine seq_skip hA rfl rfl rfl ?_
       intro a hA
       refine seq_skip hA rfl rfl rfl ?_
       intro a hA
       refine seq_do (v := .bool true) hA rfl rfl rfl (does_pick rfl rfl rfl rfl) ?_
       intro a hA
       refine seq_do hA rfl rfl rfl (does_move rfl) ?_
       intro a hA
       refine seq_skip hA rfl rfl rfl ?_
       intro a hA
       refine seq_skip hA rfl rfl rfl ?_
       intro a hA
       refine seq_skip hA rfl rfl rfl ?_
       intro a hA
       refine seq_skip hA rfl rfl rfl ?_
       intro a hA
       refine seq_skip hA rfl rfl rfl ?_
       intro a hA
       refine seq_skip hA rfl rfl rfl ?_
       intro a hA
       refine seq_skip hA rfl rfl rfl ?_
       intro a hA
       refine seq_do (v := .bool true) hA rfl rfl rfl (does_pick rfl rfl rfl rfl) ?_
       intro a hA
       refine seq_do hA rfl rfl rfl (does_move rfl) ?_
       intro a hA
       refine seq_skip hA rfl rfl rfl ?_
       intro a hA
       refine seq_skip hA rfl rfl rfl ?_
       intro a hA
       refine seq_skip hA rfl rfl rfl ?_
       intro a hA
       refine seq_skip hA rfl rfl rfl ?_
       intro a hA
       refine seq_skip hA rfl rfl rfl ?_
       intro a hA
       refine seq_skip hA rfl rfl rfl ?_
       intro a hA
       refine seq_do (v := .bool true) hA rfl rfl rfl (does_pick rfl rfl rfl rfl) ?_
       intro a hA
       refine seq_end ?_
       refine hK7 _ _ ?_
       refine wp_cond_true (hA.ev rfl) ?_
       refine wp_seq_k (fun K52 hK52 => ?_)
       refine wp_region_lit ?_
       refine seq_do hA rfl rfl rfl (does_assign rfl) ?_
       intro a hA
       refine seq_end ?_
       refine hK52 _ _ ?_
       refine wp_ret ?_
       refine hret _ _ ?_
       refine ends (v := .bool false) hA rfl (.cons (res_tmp rfl) .nil) rfl ?_
       exact ⟨by rw [same_no (.inr (.inr (.inl hb12')))], hM.bel⟩
theorem rsames_all : ∀ n, RSames n
  | 0 => fun h => absurd h (Nat.not_lt_zero _)
  | n + 1 => rsames_step (rsames_all n)
end Go.Proofs.YtbnjomifogjdfaaDoor.G
namespace Go.Proofs.YtbnjomifogjdfaaDoor.G
open Go.RowKit
set_option linter.unusedVariables false
set_option linter.unusedSimpArgs false
theorem nodesL_append : ∀ a b : List Tr, nodesL (a ++ b) = nodesL a + nodesL b
  | [], b => by simp [nodesL]
  | t :: a, b => by rw [List.cons_append, nodesL, nodesL, nodesL_append a b]; omega
theorem nodesL_rev : ∀ a : List Tr, nodesL a.reverse = nodesL a
  | [] => rfl
  | t :: a => by rw [List.reverse_cons, nodesL_append, nodesL_rev a, nodesL, nodesL, nodesL]; omega
/-- A list is sound. -/
def OkL (L : List Tr) : Prop := L.all (deepT 2) = true ∧ nodesL L + L.length + 1 ≤ 20000 ∧ L.all (allT shapeT) = true
theorem okL_iff (L : List Tr) : soundT shapeT (linkT L nilT) = true ↔ OkL L := by
  rw [sound_link]
  have h1 : deepT 1 nilT = true := by rfl
  have h2 : allT shapeT nilT = true := by rfl
  have h3 : nodesT nilT = 1 := by rfl
  rw [h3]
  unfold OkL
  constructor
  · rintro ⟨⟨a, _⟩, b, c, _⟩; exact ⟨a, b, c⟩
  · rintro ⟨a, b, c⟩; exact ⟨⟨a, h1⟩, b, c, h2⟩
theorem OkL.of {L M : List Tr} (h : OkL L) (hm : ∀ x ∈ M, x ∈ L) (hn : nodesL M + M.length ≤ nodesL L + L.length) : OkL M := ⟨List.all_eq_true.2 fun x hx => List.all_eq_true.1 h.1 x (hm x hx), by have := h.2.1; omega, List.all_eq_true.2 fun x hx => List.all_eq_true.1 h.2.2 x (hm x hx)⟩
theorem zero_unsound : soundT shapeT zeroT = false := by rfl
theorem ofS_yes {A : List Tr} (h : OkL A) : ofS A = linkT A nilT := by unfold ofS; rw [fitS_yes ((okL_iff A).2 h)]
theorem ofS_sound {A : List Tr} (h : soundT shapeT (ofS A) = true) : OkL A ∧ ofS A = linkT A nilT := by
  by_cases hc : soundT shapeT (linkT A nilT) = true
  · exact ⟨(okL_iff A).1 hc, ofS_yes ((okL_iff A).1 hc)⟩
  · unfold ofS at h
    rw [fitS_no (Bool.eq_false_iff.2 hc), zero_unsound] at h
    cases h
theorem app2 {p q : Tr} : appS [p, q] = if (soundT shapeT p && soundT shapeT q) = true then (match asList p with | none => (zeroT, 10) | some P => fitS P q) else (zeroT, 2) := by
  unfold appS
  by_cases h : (soundT shapeT p && soundT shapeT q) = true
  · rw [if_pos h, if_neg (by simpa using h), if_neg (by simp)]
    show (match joinS [p] with | none => _ | some xs => _) = _
    rw [joinS, joinS]
    cases asList p with
    | none => rfl
    | some P => simp only [List.append_nil]; rfl
  · rw [if_neg h, if_pos (by simpa using h)]
theorem app2_lists {P Q : List Tr} (hP : OkL P) (hQ : OkL Q) : appS [linkT P nilT, linkT Q nilT] = fitS (P ++ Q) nilT := by
  rw [app2, (okL_iff P).2 hP, (okL_iff Q).2 hQ, if_pos (show (true && true) = true from rfl), asList_link]
  show fitS P (linkT Q nilT) = _
  unfold fitS
  rw [← link_append]
theorem app2_ok {P Q : List Tr} (h : OkL (P ++ Q)) : appS [linkT P nilT, linkT Q nilT] = (linkT (P ++ Q) nilT, 0) := by
  have hP : OkL P := h.of (fun x hx => List.mem_append_left _ hx) (by rw [nodesL_append, List.length_append]; omega)
  have hQ : OkL Q := h.of (fun x hx => List.mem_append_right _ hx) (by rw [nodesL_append, List.length_append]; omega)
  rw [app2_lists hP hQ, fitS_yes ((okL_iff _).2 h)]
theorem app2_zero {p q : Tr} (h : (appS [p, q]).2 = 0) : (soundT shapeT p = true ∧ soundT shapeT q = true) ∧ ∃ P, asList p = some P ∧ soundT shapeT (linkT P q) = true ∧ appS [p, q] = (linkT P q, 0) := by
  rw [app2] at h ⊢
  by_cases hc : (soundT shapeT p && soundT shapeT q) = true
  · rw [if_pos hc] at h ⊢
    rw [Bool.and_eq_true] at hc
    cases ha : asList p with
    | none => rw [ha] at h; cases h
    | some P =>
      rw [ha] at h
      simp only at h
      by_cases hs : soundT shapeT (linkT P q) = true
      · exact ⟨hc, P, rfl, hs, by simp only; rw [fitS_yes hs]⟩
      · rw [fitS_no (Bool.eq_false_iff.2 hs)] at h; cases h
  · rw [if_neg hc] at h; cases h
theorem app3_ok {A B C : List Tr} (h : OkL (A ++ B ++ C)) : appS [linkT A nilT, linkT B nilT, linkT C nilT] = (linkT (A ++ B ++ C) nilT, 0) := by
  have hA : OkL A := h.of (fun x hx => List.mem_append_left _ (List.mem_append_left _ hx)) (by simp only [nodesL_append, List.length_append]; omega)
  have hB : OkL B := h.of (fun x hx => List.mem_append_left _ (List.mem_append_right _ hx)) (by simp only [nodesL_append, List.length_append]; omega)
  have hC : OkL C := h.of (fun x hx => List.mem_append_right _ hx) (by simp only [nodesL_append, List.length_append]; omega)
  unfold appS
  rw [if_neg (by simp [(okL_iff A).2 hA, (okL_iff B).2 hB, (okL_iff C).2 hC]), if_neg (by simp)]
  show (match joinS [linkT A nilT, linkT B nilT] with | none => _ | some xs => fitS xs (linkT C nilT)) = _
  rw [joinS, joinS, joinS, asList_link, asList_link]
  simp only [List.append_nil]
  rw [fitS_yes (by rw [← link_append]; exact (okL_iff _).2 h), ← link_append]
theorem rev_ok {A : List Tr} (h : OkL A) : revS (linkT A nilT) = (linkT A.reverse nilT, 0) := by
  unfold revS
  rw [if_neg (by rw [(okL_iff A).2 h]; decide), asList_link]
theorem tail_ok {A B : List Tr} {n : Int} (h : OkL (A ++ B)) (hn : n = A.length) : tailS (linkT (A ++ B) nilT) n = (linkT B nilT, 0) := by
  unfold tailS
  rw [if_neg (by rw [(okL_iff _).2 h]; decide), asList_link]
  show (if _ then _ else _) = _
  rw [if_neg (by rw [List.length_append]; omega), hn, Int.toNat_natCast, List.drop_left]
theorem joins_math {A B C : List Tr} (h1 : (appS [ofS A, ofS B]).2 = 0) (h2 : (appS [(appS [ofS A, ofS B]).1, ofS C]).2 = 0) :
    (tailS (appS [(appS [ofS A, ofS B]).1, ofS C]).1 ((A.length : Int) + B.length)).2 = 0 ∧ (appS [(appS [ofS A, ofS B]).1, ofS C]).1 = (appS [ofS A, (appS [ofS B, ofS C]).1]).1 ∧ (appS [(appS [ofS A, ofS B]).1, ofS C]).1 = (appS [ofS A, ofS B, ofS C]).1 ∧ (tailS (appS [(appS [ofS A, ofS B]).1, ofS C]).1 ((A.length : Int) + B.length)).1 = ofS C ∧ (revS (appS [ofS A, ofS B]).1).1 = (appS [(revS (ofS B)).1, (revS (ofS A)).1]).1 := by
  obtain ⟨⟨sA, sB⟩, P, hP, hs, he⟩ := app2_zero h1
  obtain ⟨oA, eA⟩ := ofS_sound sA
  obtain ⟨oB, eB⟩ := ofS_sound sB
  rw [eA, asList_link] at hP
  cases hP
  rw [eB] at hs
  rw [eA, eB] at he h2 ⊢
  rw [← link_append] at hs he
  have oAB := (okL_iff _).1 hs
  rw [he] at h2 ⊢
  simp only at h2 ⊢
  obtain ⟨⟨_, sC⟩, P, hP, hs2, he2⟩ := app2_zero h2
  obtain ⟨oC, eC⟩ := ofS_sound sC
  rw [asList_link] at hP
  cases hP
  rw [eC] at hs2 he2 ⊢
  rw [← link_append] at hs2 he2
  have oABC := (okL_iff _).1 hs2
  have oBC : OkL (B ++ C) := oABC.of (fun x hx => by rw [List.append_assoc]; exact List.mem_append_right _ hx) (by simp only [nodesL_append, List.length_append]; omega)
  have oR : OkL (B.reverse ++ A.reverse) := oAB.of (fun x hx => by rw [← List.reverse_append] at hx; exact List.mem_reverse.1 hx) (by simp only [nodesL_append, nodesL_rev, List.length_append, List.length_reverse]; omega)
  rw [he2, app2_ok oBC]
  simp only
  rw [app2_ok (by rw [← List.append_assoc]; exact oABC), app3_ok oABC, tail_ok (A := A ++ B) oABC (by rw [List.length_append]; omega), rev_ok oAB, rev_ok oA, rev_ok oB]
  simp only
  rw [app2_ok oR, List.reverse_append, List.append_assoc]
  exact ⟨trivial, rfl, trivial, trivial, rfl⟩
/-! ### How much the answers hold -/
theorem fit_bulk (xs : List Tr) (z : Tr) : (fitS xs z).1.bulk ≤ Tr.bulks xs + xs.length + z.bulk + 1 := by
  unfold fitS
  split
  · show (linkT xs z).bulk ≤ _; rw [link_bulk]; omega
  · show zeroT.bulk ≤ _; rw [show zeroT.bulk = 1 from rfl]; omega
theorem blen : ∀ xs : List Tr, xs.length ≤ Tr.bulks xs
  | [] => Nat.le_refl _
  | t :: xs => by
    have := blen xs
    have h2 : 1 ≤ t.bulk := by cases t; rw [trbulk_mk]; omega
    rw [Tr.bulks, List.length_cons]; omega
theorem of_bulk (xs : List Tr) : (ofS xs).bulk ≤ Tr.bulks xs + Tr.bulks xs + 2 := by
  have h1 := fit_bulk xs nilT
  have h2 := blen xs
  rw [show nilT.bulk = 1 from rfl] at h1
  unfold ofS
  omega
theorem join_bulk : ∀ {L xs : List Tr}, joinS L = some xs → Tr.bulks xs + xs.length ≤ Tr.bulks L
  | [], xs, h => by cases h; exact Nat.le_refl _
  | t :: L, xs, h => by
    rw [joinS] at h
    cases h1 : asList t with
    | none => rw [h1] at h; cases h
    | some a =>
      cases h2 : joinS L with
      | none => rw [h1, h2] at h; cases h
      | some b =>
        rw [h1, h2] at h
        cases h
        have h3 := asList_bulk h1
        have h4 := join_bulk h2
        rw [bulks_append, Tr.bulks, List.length_append]
        omega
theorem getD_bulk {L : List Tr} (h : L ≠ []) : Tr.bulks (L.take (L.length - 1)) + (L.getD (L.length - 1) nilT).bulk = Tr.bulks L := by
  have hl : L.length - 1 < L.length := by have := List.length_pos_iff.2 h; omega
  conv => rhs; rw [← List.take_append_drop (L.length - 1) L, bulks_append, List.drop_eq_getElem_cons hl, List.drop_of_length_le (by omega)]
  rw [List.getD_eq_getElem?_getD, List.getElem?_eq_getElem hl, Tr.bulks, Tr.bulks]
  rfl
theorem app_bulk (L : List Tr) : (appS L).1.bulk ≤ Tr.bulks L + 1 := by
  unfold appS
  split
  · show zeroT.bulk ≤ _; rw [show zeroT.bulk = 1 from rfl]; omega
  · split
    · show nilT.bulk ≤ _; rw [show nilT.bulk = 1 from rfl]; omega
    · rename_i hne
      have hg := getD_bulk hne
      cases hj : joinS (L.take (L.length - 1)) with
      | none => show zeroT.bulk ≤ _; rw [show zeroT.bulk = 1 from rfl]; omega
      | some xs =>
        have h1 := fit_bulk xs (L.getD (L.length - 1) nilT)
        have h2 := join_bulk hj
        show (fitS xs _).1.bulk ≤ _
        omega
theorem rev_bulk (t : Tr) : (revS t).1.bulk ≤ t.bulk + 1 := by
  unfold revS
  split
  · show zeroT.bulk ≤ _; rw [show zeroT.bulk = 1 from rfl]; omega
  · cases h : asList t with
    | none => show zeroT.bulk ≤ _; rw [show zeroT.bulk = 1 from rfl]; omega
    | some xs =>
      have h1 := asList_bulk h
      have h2 : Tr.bulks xs.reverse = Tr.bulks xs := by
        have key : ∀ ts : List Tr, Tr.bulks ts.reverse = Tr.bulks ts := by
          intro ts
          induction ts with
          | nil => rfl
          | cons t ts ih => rw [List.reverse_cons, bulks_append, ih, Tr.bulks, Tr.bulks, Tr.bulks]; omega
        exact key xs
      show (linkT _ _).bulk ≤ _
      rw [link_bulk, h2, List.length_reverse, show nilT.bulk = 1 from rfl]
      omega
/-! ### A fixed fact -/
def bareD (k : Int) : Dt := .mk ⟨k, 0, ⟨Q6.zero, none, 0, none, 0, none, 0, none, 0⟩, ⟨#[]⟩, none, 0, [], none, 0⟩ []
theorem awake_of : revS (ofS [(bareD 2).tr, (bareD 10).tr]) = (linkT [(bareD 10).tr, (bareD 2).tr] nilT, 0) := by
  have h : OkL [(bareD 2).tr, (bareD 10).tr] := by
    unfold bareD
    rw [Dt.tr_mk, Dt.tr_mk]
    exact ⟨by rfl, by decide, by rfl⟩
  rw [ofS_yes h, rev_ok h]
  rfl
theorem two_bare (w : World) : ∀ t ∈ [bareD 2, bareD 10], t.rd w := fun t ht => by
  rcases List.mem_cons.1 ht with h | h
  · rw [h]; exact bare_rd w 2 (by decide) (by decide)
  · rw [List.mem_singleton.1 h]; exact bare_rd w 10 (by decide) (by decide)
theorem pair_form {t : Dt} {a b : Tr} (h : t.tr = .mk 8 0 Q6.zero ⟨#[]⟩ [] [a, b]) : t.d.k = 8 ∧ t.ts.length = 2 ∧ ∀ u, t.ts[0]? = some u → u.tr = a := by
  cases t with
  | mk d ts =>
    rw [Dt.tr_mk] at h
    injection h with h1 _ _ _ _ h2
    refine ⟨h1, ?_, fun u hu => ?_⟩
    · have := congrArg List.length h2; rw [List.length_map] at this; exact this
    · have := congrArg (fun l => l[0]?) h2
      simp only [List.getElem?_map] at this
      simp only [Dt.ts] at hu
      rw [hu] at this
      simpa using this
end Go.Proofs.YtbnjomifogjdfaaDoor.G
namespace Go.Proofs.YtbnjomifogjdfaaDoor.G
open Go.RowKit
set_option linter.unusedVariables false
set_option linter.unusedSimpArgs false
set_option maxRecDepth 100000
theorem LiJ_is1_22 : Is1 Tryd.prog 22 := ⟨⟨_, Tryd.underlying22, rfl⟩, by kernel_rfl⟩
theorem LiJ_is1_3 : Is1 Tryd.prog 3 := ⟨⟨_, Tryd.underlying3, rfl⟩, by kernel_rfl⟩
theorem LiJ_fld_31_0 : FieldAt Tryd.prog 31 0 0 := ⟨_, _, Tryd.underlying31, rfl, rfl, by kernel_rfl⟩
theorem LiJ_fld_31_5 : FieldAt Tryd.prog 31 5 10 := ⟨_, _, Tryd.underlying31, rfl, rfl, by kernel_rfl⟩
theorem LiJ_isS_31 : IsS Tryd.prog 31 11 := ⟨⟨_, Tryd.underlying31⟩, by kernel_rfl⟩
theorem awake_any {w : World} (hT : Tabs8 w) : Calls Tryd.prog 4 #[] w fun e w' => e = .returned (.bool true) ∧ Below w.heap.size w w' := by
 have hM : Mg w w ([]) := Mg.start w
 refine walk_of (l := []) Tryd.func4 rfl Tryd.ntmps4 rfl rfl ?_
 intro Q hret hnorm hP a hA
 refine wp_seq_k (fun K1 hK1 => ?_)
 refine wp_region_lit ?_
 refine seq_do hA rfl rfl rfl (does_assign rfl) ?_
 intro a hA
 refine seq_end ?_
 refine hK1 _ _ ?_
 refine wp_seq_k (fun K2 hK2 => ?_)
 refine wp_region_lit ?_
 refine seq_do (v := .agg #[.int .i64 2, .int .i64 0, .bool false, .slice none 0 0, .slice none 0 0, .bool false, .slice none 0 0, .slice none 0 0, .string (⟨#[]⟩), .slice none 0 0, .slice none 0 0]) hA rfl rfl rfl (does_build rfl (fun w => by kernel_rfl)) ?_
 intro a hA
 refine seq_do (v := .agg #[.int .i64 10, .int .i64 0, .bool false, .slice none 0 0, .slice none 0 0, .bool false, .slice none 0 0, .slice none 0 0, .string (⟨#[]⟩), .slice none 0 0, .slice none 0 0]) hA rfl rfl rfl (does_build rfl (fun w => by kernel_rfl)) ?_
 intro a hA
 refine s_litE (e := 31) (sz := 11) (m := 2) (vs := cellsOf [bareD 2, bareD 10]) hA hM rfl rfl rfl (does_buildSlice rfl (by kernel_rfl)) rfl rfl (.inl (by decide)) ?_
 intro g3 w4 hM a hA
 refine seq_call hA rfl rfl rfl (enters_func rfl rfl (fun w => by kernel_rfl)) (of_any (ts := [bareD 2, bareD 10]) (rt_own (hM.has 0 rfl)).1 (two_bare _) (by decide) (hT.below hM.bel)) ?_
 rintro _ w6 ⟨x, rfl, ⟨hrx, -, htx⟩, hb5⟩
 have hbx := of_bulk [(bareD 2).tr, (bareD 10).tr]
 have hbx9 : Tr.bulks [(bareD 2).tr, (bareD 10).tr] = 2 := by rfl
 replace hM := hM.call hb5
 refine ⟨_, rfl, ?_⟩
 intro a hA
 have hB1 := hM.bel
 replace hT := hT.below hM.bel
 replace hM : Mg w6 w6 [] := Mg.start w6
 refine s_new (vs := [.int .i64 0, .int .i64 0, .bool false, .slice none 0 0, .slice none 0 0, .bool false, .slice none 0 0, .slice none 0 0, .string (⟨#[]⟩), .slice none 0 0, .slice none 0 0]) (t := 31) hA hM rfl rfl rfl (fun g => .pointer (some ⟨g, 0, none⟩)) (does_alloc (z := .agg #[.int .i64 0, .int .i64 0, .bool false, .slice none 0 0, .slice none 0 0, .bool false, .slice none 0 0, .slice none 0 0, .string (⟨#[]⟩), .slice none 0 0, .slice none 0 0]) (by kernel_rfl) rfl) (by decide) ?_
 intro g7 w8 hM a hA
 refine s_store (us := [.int .i64 x.d.k, .int .i64 x.d.n, .bool x.d.y.q.b1, .slice x.d.y.o1 x.d.y.q.t1.length x.d.y.c1, .slice x.d.y.o2 x.d.y.q.q1.length x.d.y.c2, .bool x.d.y.q.b2, .slice x.d.y.o3 x.d.y.q.t2.length x.d.y.c3, .slice x.d.y.o4 x.d.y.q.q2.length x.d.y.c4, .string x.d.s, .slice x.d.ro x.d.rl.length x.d.rc, .slice x.d.lo x.ts.length x.d.lc]) (L' := (.obj g7 (.cells (x.d.cells x.ts.length).toArray 31) :: [])) hA hM rfl rfl (m_store rfl rfl rfl (by kernel_rfl) hM 0 rfl rfl rfl) 0 rfl rfl rfl ?_
 intro w9 hM
 refine seq_end ?_
 refine hK2 _ _ ?_
 refine wp_seq_k (fun K10 hK10 => ?_)
 refine wp_region_lit ?_
 refine seq_do hA rfl rfl rfl (m_loadS hM LiJ_isS_31 rfl 0 rfl (cs := [.int .i64 x.d.k, .int .i64 x.d.n, .bool x.d.y.q.b1, .slice x.d.y.o1 x.d.y.q.t1.length x.d.y.c1, .slice x.d.y.o2 x.d.y.q.q1.length x.d.y.c2, .bool x.d.y.q.b2, .slice x.d.y.o3 x.d.y.q.t2.length x.d.y.c3, .slice x.d.y.o4 x.d.y.q.q2.length x.d.y.c4, .string x.d.s, .slice x.d.ro x.d.rl.length x.d.rc, .slice x.d.lo x.ts.length x.d.lc]) rfl rfl) ?_
 intro a hA
 refine seq_call hA rfl rfl rfl (enters_func rfl rfl (fun w => by kernel_rfl)) (reverse_any (t := x) (Dt.keep hM.bel _ hrx) (by have h9 : x.tr.bulk ≤ 6 := (by rw [htx]; show (ofS [(bareD 2).tr, (bareD 10).tr]).bulk ≤ 6; omega); omega) (hT.below hM.bel)) ?_
 rintro _ w12 ⟨r, kr, rfl, ⟨hrr, -, htr⟩, hb11⟩
 replace hM := hM.call hb11
 refine ⟨_, rfl, ?_⟩
 intro a hA
 have hB2 := hB1.trans (hM.bel.mono hB1.size)
 replace hT := hT.below hM.bel
 replace hrx := Dt.keep hM.bel _ hrx
 have hHg7 := hM.here 0 (cs := [.int .i64 x.d.k, .int .i64 x.d.n, .bool x.d.y.q.b1, .slice x.d.y.o1 x.d.y.q.t1.length x.d.y.c1, .slice x.d.y.o2 x.d.y.q.q1.length x.d.y.c2, .bool x.d.y.q.b2, .slice x.d.y.o3 x.d.y.q.t2.length x.d.y.c3, .slice x.d.y.o4 x.d.y.q.q2.length x.d.y.c4, .string x.d.s, .slice x.d.ro x.d.rl.length x.d.rc, .slice x.d.lo x.ts.length x.d.lc]) rfl
 replace hM : Mg w12 w12 [] := Mg.start w12
 refine seq_do hA rfl rfl rfl (does_move rfl) ?_
 intro a hA
 refine seq_do (v := .agg (r.d.cells r.ts.length).toArray) hA rfl rfl rfl (does_extract (vs := [.agg (r.d.cells r.ts.length).toArray, .int .i64 kr]) rfl rfl) ?_
 intro a hA
 refine seq_do (v := .int .i64 kr) hA rfl rfl rfl (does_extract (vs := [.agg (r.d.cells r.ts.length).toArray, .int .i64 kr]) rfl rfl) ?_
 intro a hA
 refine s_new (vs := [.int .i64 0, .int .i64 0, .bool false, .slice none 0 0, .slice none 0 0, .bool false, .slice none 0 0, .slice none 0 0, .string (⟨#[]⟩), .slice none 0 0, .slice none 0 0]) (t := 31) hA hM rfl rfl rfl (fun g => .pointer (some ⟨g, 0, none⟩)) (does_alloc (z := .agg #[.int .i64 0, .int .i64 0, .bool false, .slice none 0 0, .slice none 0 0, .bool false, .slice none 0 0, .slice none 0 0, .string (⟨#[]⟩), .slice none 0 0, .slice none 0 0]) (by kernel_rfl) rfl) (by decide) ?_
 intro g13 w14 hM a hA
 refine s_store (us := [.int .i64 r.d.k, .int .i64 r.d.n, .bool r.d.y.q.b1, .slice r.d.y.o1 r.d.y.q.t1.length r.d.y.c1, .slice r.d.y.o2 r.d.y.q.q1.length r.d.y.c2, .bool r.d.y.q.b2, .slice r.d.y.o3 r.d.y.q.t2.length r.d.y.c3, .slice r.d.y.o4 r.d.y.q.q2.length r.d.y.c4, .string r.d.s, .slice r.d.ro r.d.rl.length r.d.rc, .slice r.d.lo r.ts.length r.d.lc]) (L' := (.obj g13 (.cells (r.d.cells r.ts.length).toArray 31) :: [])) hA hM rfl rfl (m_store rfl rfl rfl (by kernel_rfl) hM 0 rfl rfl rfl) 0 rfl rfl rfl ?_
 intro w15 hM
 refine seq_do hA rfl rfl rfl (does_assign rfl) ?_
 intro a hA
 refine seq_end ?_
 refine hK10 _ _ ?_
 refine wp_seq_k (fun K16 hK16 => ?_)
 have e9 : (r.tr, kr) = (linkT [(bareD 10).tr, (bareD 2).tr] nilT, 0) := htr.trans (by rw [htx]; exact awake_of)
 obtain ⟨f1, f2, f3⟩ := pair_form (congrArg Prod.fst e9)
 have f4 : kr = 0 := congrArg Prod.snd e9
 obtain ⟨r0, br0, or0, ir0, mr0, rr0_, lr0, Hr0⟩ := kidT hrr (i := 0) (by omega)
 have f5 : r0.d.k = 10 := by rw [← tr_k, f3 _ ir0]; rfl
 refine wp_region_lit ?_
 refine seq_do hA rfl rfl rfl (does_move rfl) ?_
 intro a hA
 refine seq_do (v := .bool true) hA rfl rfl rfl (does_bin rfl rfl (fun w => (bin_eql w).trans (by rw [show ((kr == 0)) = true from (beq_iff_eq.2 f4)]))) ?_
 intro a hA
 refine seq_do hA rfl rfl rfl (does_move rfl) ?_
 intro a hA
 refine seq_do (v := .pointer (some ⟨g13, 0, none⟩)) hA rfl rfl rfl (does_field LiJ_fld_31_0 rfl rfl) ?_
 intro a hA
 refine seq_do hA rfl rfl rfl (m_load1 hM LiJ_is1_3 rfl 0 rfl rfl) ?_
 intro a hA
 refine seq_do (v := .bool true) hA rfl rfl rfl (does_bin rfl rfl (fun w => (bin_eql w).trans (by rw [show ((r.d.k == 8)) = true from (beq_iff_eq.2 f1)]))) ?_
 intro a hA
 refine seq_do (v := .bool true) hA rfl rfl rfl (does_pick rfl rfl rfl rfl) ?_
 intro a hA
 refine seq_do hA rfl rfl rfl (does_move rfl) ?_
 intro a hA
 refine seq_do (v := .pointer (some ⟨g13, 10, none⟩)) hA rfl rfl rfl (does_field LiJ_fld_31_5 rfl rfl) ?_
 intro a hA
 refine seq_do hA rfl rfl rfl (m_load1 hM LiJ_is1_22 rfl 0 rfl rfl) ?_
 intro a hA
 refine seq_do (v := .int .i64 (((r.ts.length : Nat) : Int))) hA rfl rfl rfl (does_len Tryd.underlying22 rfl) ?_
 intro a hA
 refine seq_do (v := .bool true) hA rfl rfl rfl (does_bin rfl rfl (fun w => (bin_eql w).trans (by rw [show ((((r.ts.length : Nat) : Int) == 2)) = true from (beq_iff_eq.2 (by omega))]))) ?_
 intro a hA
 refine seq_do (v := .bool true) hA rfl rfl rfl (does_pick rfl rfl rfl rfl) ?_
 intro a hA
 refine seq_do hA rfl rfl rfl (does_move rfl) ?_
 intro a hA
 refine seq_do (v := .pointer (some ⟨g13, 10, none⟩)) hA rfl rfl rfl (does_field LiJ_fld_31_5 rfl rfl) ?_
 intro a hA
 refine seq_do hA rfl rfl rfl (m_load1 hM LiJ_is1_22 rfl 0 rfl rfl) ?_
 intro a hA
 refine seq_do (v := .pointer (some ⟨br0, or0 + 0 * 11, none⟩)) hA rfl rfl rfl (does_indexD (k := 0) Tryd.underlying22 (by kernel_rfl) rfl rfl rfl lr0 (by omega)) ?_
 intro a hA
 refine seq_do (v := .pointer (some ⟨br0, or0 + 0 * 11, none⟩)) hA rfl rfl rfl (does_field LiJ_fld_31_0 rfl rfl) ?_
 intro a hA
 refine seq_do hA rfl rfl rfl (m_loadH (j := 0) hM Hr0 LiJ_is1_3 rfl rfl rfl) ?_
 intro a hA
 refine seq_do (v := .bool true) hA rfl rfl rfl (does_bin rfl rfl (fun w => (bin_eql w).trans (by rw [show ((r0.d.k == 10)) = true from (beq_iff_eq.2 f5)]))) ?_
 intro a hA
 refine seq_do (v := .bool true) hA rfl rfl rfl (does_pick rfl rfl rfl rfl) ?_
 intro a hA
 refine seq_do hA rfl rfl rfl (does_assign rfl) ?_
 intro a hA
 refine seq_end ?_
 refine hK16 _ _ ?_
 refine wp_ret ?_
 refine hret _ _ ?_
 refine ends (v := .bool true) hA rfl (.cons (res_tmp rfl) .nil) rfl ?_
 exact ⟨rfl, hB2.trans (hM.bel.mono hB2.size)⟩
set_option maxHeartbeats 1000000 in
theorem listsJoins_any {w : World} {sa sb sc : Option Addr} {ca cb cc : Nat} {la lb lc : List Dt} (hRa : Rt w sa la) (hDa : ∀ t ∈ la, t.rd w) (hRb : Rt w sb lb) (hDb : ∀ t ∈ lb, t.rd w) (hRc : Rt w sc lc) (hDc : ∀ t ∈ lc, t.rd w) (hT : Tabs8 w) (hba : Tr.bulks (la.map Dt.tr) + Tr.bulks (lb.map Dt.tr) + Tr.bulks (lc.map Dt.tr) ≤ 3145728) : Calls Tryd.prog 3 #[.slice sa la.length ca, .slice sb lb.length cb, .slice sc lc.length cc] w fun e w' => e = .returned (.bool true) ∧ Below w.heap.size w w' := by
 have hla := bulks_len la
 have hlb := bulks_len lb
 have hlc := bulks_len lc
 have hM : Mg w w ([]) := Mg.start w
 refine walk_of (l := [(0, .slice sa la.length ca), (1, .slice sb lb.length cb), (2, .slice sc lc.length cc)]) Tryd.func3 rfl Tryd.ntmps3 rfl rfl ?_
 intro Q hret hnorm hP a hA
 refine wp_seq_k (fun K1 hK1 => ?_)
 refine wp_region_lit ?_
 refine seq_do hA rfl rfl rfl (does_assign rfl) ?_
 intro a hA
 refine seq_end ?_
 refine hK1 _ _ ?_
 refine wp_seq_k (fun K2 hK2 => ?_)
 refine wp_seq_k (fun K3 hK3 => ?_)
 refine wp_region_lit ?_
 refine seq_do hA rfl rfl rfl (does_move rfl) ?_
 intro a hA
 refine seq_do (v := .int .i64 (((la.length : Nat) : Int))) hA rfl rfl rfl (does_len Tryd.underlying22 rfl) ?_
 intro a hA
 refine seq_do hA rfl rfl rfl (does_move rfl) ?_
 intro a hA
 refine seq_do (v := .int .i64 (((lb.length : Nat) : Int))) hA rfl rfl rfl (does_len Tryd.underlying22 rfl) ?_
 intro a hA
 refine seq_do (v := .int .i64 (((la.length + lb.length : Nat) : Int))) hA rfl rfl rfl (does_bin rfl rfl (ar_add ((in_i64 (by omega) (by omega)).trans (by omega)))) ?_
 intro a hA
 refine seq_do hA rfl rfl rfl (does_move rfl) ?_
 intro a hA
 refine seq_do (v := .int .i64 (((lc.length : Nat) : Int))) hA rfl rfl rfl (does_len Tryd.underlying22 rfl) ?_
 intro a hA
 refine seq_do (v := .int .i64 (((la.length + lb.length + lc.length : Nat) : Int))) hA rfl rfl rfl (does_bin rfl rfl (ar_add ((in_i64 (by omega) (by omega)).trans (by omega)))) ?_
 intro a hA
 rcases Bool.eq_false_or_eq_true (decide (200 < ((la.length + lb.length + lc.length : Nat) : Int))) with hb4 | hb4
 · have hb4' := of_decide_eq_true hb4
   refine seq_do (v := .bool true) hA rfl rfl rfl (does_bin rfl rfl (fun w => (bin_gtr w).trans (by rw [hb4]))) ?_
   intro a hA
   refine seq_end ?_
   refine hK3 _ _ ?_
   refine wp_cond_true (hA.ev rfl) ?_
   refine wp_seq_k (fun K5 hK5 => ?_)
   refine wp_region_lit ?_
   refine seq_call hA rfl rfl rfl (enters_func rfl rfl (fun w => by kernel_rfl)) (awake_any (hT.below hM.bel)) ?_
   rintro _ w7 ⟨rfl, hb6⟩
   replace hM := hM.call hb6
   refine ⟨_, rfl, ?_⟩
   intro a hA
   refine seq_do hA rfl rfl rfl (does_assign rfl) ?_
   intro a hA
   refine seq_end ?_
   refine hK5 _ _ ?_
   refine wp_ret ?_
   refine hret _ _ ?_
   refine ends (v := .bool true) hA rfl (.cons (res_tmp rfl) .nil) rfl ?_
   exact ⟨rfl, hM.bel⟩
 · have hb4' := of_decide_eq_false hb4
   refine seq_do (v := .bool false) hA rfl rfl rfl (does_bin rfl rfl (fun w => (bin_gtr w).trans (by rw [hb4]))) ?_
   intro a hA
   refine seq_end ?_
   refine hK3 _ _ ?_
   refine wp_cond_false (hA.ev rfl) ?_
   refine wp_skip ?_
   refine hK2 _ _ ?_
   refine wp_seq_k (fun K8 hK8 => ?_)
   refine wp_region_lit ?_
   refine seq_do hA rfl rfl rfl (does_move rfl) ?_
   intro a hA
   refine seq_call hA rfl rfl rfl (enters_func rfl rfl (fun w => by kernel_rfl)) (of_any (hRa.below hM.bel) (fun t ht => Dt.keep hM.bel _ (hDa t ht)) (by omega) (hT.below hM.bel)) ?_
   rintro _ w10 ⟨x, rfl, ⟨hrx, -, htx⟩, hb9⟩
   have hbx := of_bulk (la.map Dt.tr)
   rw [← htx] at hbx
   replace hM := hM.call hb9
   refine ⟨_, rfl, ?_⟩
   intro a hA
   have hB1 := hM.bel
   replace hT := hT.below hM.bel
   replace hRa := hRa.below hM.bel
   replace hDa := fun t ht => Dt.keep hM.bel _ (hDa t ht)
   replace hRb := hRb.below hM.bel
   replace hDb := fun t ht => Dt.keep hM.bel _ (hDb t ht)
   replace hRc := hRc.below hM.bel
   replace hDc := fun t ht => Dt.keep hM.bel _ (hDc t ht)
   replace hM : Mg w10 w10 [] := Mg.start w10
   refine seq_do hA rfl rfl rfl (does_move rfl) ?_
   intro a hA
   refine seq_call hA rfl rfl rfl (enters_func rfl rfl (fun w => by kernel_rfl)) (of_any (hRb.below hM.bel) (fun t ht => Dt.keep hM.bel _ (hDb t ht)) (by omega) (hT.below hM.bel)) ?_
   rintro _ w12 ⟨y, rfl, ⟨hry, -, hty⟩, hb11⟩
   have hby := of_bulk (lb.map Dt.tr)
   rw [← hty] at hby
   replace hM := hM.call hb11
   refine ⟨_, rfl, ?_⟩
   intro a hA
   have hB2 := hB1.trans (hM.bel.mono hB1.size)
   replace hT := hT.below hM.bel
   replace hRa := hRa.below hM.bel
   replace hDa := fun t ht => Dt.keep hM.bel _ (hDa t ht)
   replace hRb := hRb.below hM.bel
   replace hDb := fun t ht => Dt.keep hM.bel _ (hDb t ht)
   replace hRc := hRc.below hM.bel
   replace hDc := fun t ht => Dt.keep hM.bel _ (hDc t ht)
   replace hrx := Dt.keep hM.bel _ hrx
   replace hM : Mg w12 w12 [] := Mg.start w12
   refine seq_do hA rfl rfl rfl (does_move rfl) ?_
   intro a hA
   refine seq_call hA rfl rfl rfl (enters_func rfl rfl (fun w => by kernel_rfl)) (of_any (hRc.below hM.bel) (fun t ht => Dt.keep hM.bel _ (hDc t ht)) (by omega) (hT.below hM.bel)) ?_
   rintro _ w14 ⟨z, rfl, ⟨hrz, -, htz⟩, hb13⟩
   have hbz := of_bulk (lc.map Dt.tr)
   rw [← htz] at hbz
   replace hM := hM.call hb13
   refine ⟨_, rfl, ?_⟩
   intro a hA
   have hB3 := hB2.trans (hM.bel.mono hB2.size)
   replace hT := hT.below hM.bel
   replace hRa := hRa.below hM.bel
   replace hDa := fun t ht => Dt.keep hM.bel _ (hDa t ht)
   replace hRb := hRb.below hM.bel
   replace hDb := fun t ht => Dt.keep hM.bel _ (hDb t ht)
   replace hRc := hRc.below hM.bel
   replace hDc := fun t ht => Dt.keep hM.bel _ (hDc t ht)
   replace hrx := Dt.keep hM.bel _ hrx
   replace hry := Dt.keep hM.bel _ hry
   replace hM : Mg w14 w14 [] := Mg.start w14
   refine s_new (vs := [.int .i64 0, .int .i64 0, .bool false, .slice none 0 0, .slice none 0 0, .bool false, .slice none 0 0, .slice none 0 0, .string (⟨#[]⟩), .slice none 0 0, .slice none 0 0]) (t := 31) hA hM rfl rfl rfl (fun g => .pointer (some ⟨g, 0, none⟩)) (does_alloc (z := .agg #[.int .i64 0, .int .i64 0, .bool false, .slice none 0 0, .slice none 0 0, .bool false, .slice none 0 0, .slice none 0 0, .string (⟨#[]⟩), .slice none 0 0, .slice none 0 0]) (by kernel_rfl) rfl) (by decide) ?_
   intro g15 w16 hM a hA
   refine s_new (vs := [.int .i64 0, .int .i64 0, .bool false, .slice none 0 0, .slice none 0 0, .bool false, .slice none 0 0, .slice none 0 0, .string (⟨#[]⟩), .slice none 0 0, .slice none 0 0]) (t := 31) hA hM rfl rfl rfl (fun g => .pointer (some ⟨g, 0, none⟩)) (does_alloc (z := .agg #[.int .i64 0, .int .i64 0, .bool false, .slice none 0 0, .slice none 0 0, .bool false, .slice none 0 0, .slice none 0 0, .string (⟨#[]⟩), .slice none 0 0, .slice none 0 0]) (by kernel_rfl) rfl) (by decide) ?_
   intro g17 w18 hM a hA
   refine s_new (vs := [.int .i64 0, .int .i64 0, .bool false, .slice none 0 0, .slice none 0 0, .bool false, .slice none 0 0, .slice none 0 0, .string (⟨#[]⟩), .slice none 0 0, .slice none 0 0]) (t := 31) hA hM rfl rfl rfl (fun g => .pointer (some ⟨g, 0, none⟩)) (does_alloc (z := .agg #[.int .i64 0, .int .i64 0, .bool false, .slice none 0 0, .slice none 0 0, .bool false, .slice none 0 0, .slice none 0 0, .string (⟨#[]⟩), .slice none 0 0, .slice none 0 0]) (by kernel_rfl) rfl) (by decide) ?_
   intro g19 w20 hM a hA
   refine s_store (us := [.int .i64 x.d.k, .int .i64 x.d.n, .bool x.d.y.q.b1, .slice x.d.y.o1 x.d.y.q.t1.length x.d.y.c1, .slice x.d.y.o2 x.d.y.q.q1.length x.d.y.c2, .bool x.d.y.q.b2, .slice x.d.y.o3 x.d.y.q.t2.length x.d.y.c3, .slice x.d.y.o4 x.d.y.q.q2.length x.d.y.c4, .string x.d.s, .slice x.d.ro x.d.rl.length x.d.rc, .slice x.d.lo x.ts.length x.d.lc]) (L' := (.obj g19 (.cells #[.int .i64 0, .int .i64 0, .bool false, .slice none 0 0, .slice none 0 0, .bool false, .slice none 0 0, .slice none 0 0, .string (⟨#[]⟩), .slice none 0 0, .slice none 0 0] 31) :: .obj g17 (.cells #[.int .i64 0, .int .i64 0, .bool false, .slice none 0 0, .slice none 0 0, .bool false, .slice none 0 0, .slice none 0 0, .string (⟨#[]⟩), .slice none 0 0, .slice none 0 0] 31) :: .obj g15 (.cells (x.d.cells x.ts.length).toArray 31) :: [])) hA hM rfl rfl (m_store rfl rfl rfl (by kernel_rfl) hM 2 rfl rfl rfl) 2 rfl rfl rfl ?_
   intro w21 hM
   refine s_store (us := [.int .i64 y.d.k, .int .i64 y.d.n, .bool y.d.y.q.b1, .slice y.d.y.o1 y.d.y.q.t1.length y.d.y.c1, .slice y.d.y.o2 y.d.y.q.q1.length y.d.y.c2, .bool y.d.y.q.b2, .slice y.d.y.o3 y.d.y.q.t2.length y.d.y.c3, .slice y.d.y.o4 y.d.y.q.q2.length y.d.y.c4, .string y.d.s, .slice y.d.ro y.d.rl.length y.d.rc, .slice y.d.lo y.ts.length y.d.lc]) (L' := (.obj g19 (.cells #[.int .i64 0, .int .i64 0, .bool false, .slice none 0 0, .slice none 0 0, .bool false, .slice none 0 0, .slice none 0 0, .string (⟨#[]⟩), .slice none 0 0, .slice none 0 0] 31) :: .obj g17 (.cells (y.d.cells y.ts.length).toArray 31) :: .obj g15 (.cells (x.d.cells x.ts.length).toArray 31) :: [])) hA hM rfl rfl (m_store rfl rfl rfl (by kernel_rfl) hM 1 rfl rfl rfl) 1 rfl rfl rfl ?_
   intro w22 hM
   refine s_store (us := [.int .i64 z.d.k, .int .i64 z.d.n, .bool z.d.y.q.b1, .slice z.d.y.o1 z.d.y.q.t1.length z.d.y.c1, .slice z.d.y.o2 z.d.y.q.q1.length z.d.y.c2, .bool z.d.y.q.b2, .slice z.d.y.o3 z.d.y.q.t2.length z.d.y.c3, .slice z.d.y.o4 z.d.y.q.q2.length z.d.y.c4, .string z.d.s, .slice z.d.ro z.d.rl.length z.d.rc, .slice z.d.lo z.ts.length z.d.lc]) (L' := (.obj g19 (.cells (z.d.cells z.ts.length).toArray 31) :: .obj g17 (.cells (y.d.cells y.ts.length).toArray 31) :: .obj g15 (.cells (x.d.cells x.ts.length).toArray 31) :: [])) hA hM rfl rfl (m_store rfl rfl rfl (by kernel_rfl) hM 0 rfl rfl rfl) 0 rfl rfl rfl ?_
   intro w23 hM
   refine seq_end ?_
   refine hK8 _ _ ?_
   refine wp_seq_k (fun K24 hK24 => ?_)
   refine wp_region_lit ?_
   refine seq_do hA rfl rfl rfl (m_loadS hM LiJ_isS_31 rfl 2 rfl (cs := [.int .i64 x.d.k, .int .i64 x.d.n, .bool x.d.y.q.b1, .slice x.d.y.o1 x.d.y.q.t1.length x.d.y.c1, .slice x.d.y.o2 x.d.y.q.q1.length x.d.y.c2, .bool x.d.y.q.b2, .slice x.d.y.o3 x.d.y.q.t2.length x.d.y.c3, .slice x.d.y.o4 x.d.y.q.q2.length x.d.y.c4, .string x.d.s, .slice x.d.ro x.d.rl.length x.d.rc, .slice x.d.lo x.ts.length x.d.lc]) rfl rfl) ?_
   intro a hA
   refine seq_do hA rfl rfl rfl (m_loadS hM LiJ_isS_31 rfl 1 rfl (cs := [.int .i64 y.d.k, .int .i64 y.d.n, .bool y.d.y.q.b1, .slice y.d.y.o1 y.d.y.q.t1.length y.d.y.c1, .slice y.d.y.o2 y.d.y.q.q1.length y.d.y.c2, .bool y.d.y.q.b2, .slice y.d.y.o3 y.d.y.q.t2.length y.d.y.c3, .slice y.d.y.o4 y.d.y.q.q2.length y.d.y.c4, .string y.d.s, .slice y.d.ro y.d.rl.length y.d.rc, .slice y.d.lo y.ts.length y.d.lc]) rfl rfl) ?_
   intro a hA
   refine s_litE (e := 31) (sz := 11) (m := 2) (vs := cellsOf [x, y]) hA hM rfl rfl rfl (does_buildSlice rfl (by kernel_rfl)) rfl rfl (.inl (by decide)) ?_
   intro g25 w26 hM a hA
   refine seq_call hA rfl rfl rfl (enters_func rfl rfl (fun w => by kernel_rfl)) (append_any (ts := [x, y]) (rt_own (hM.has 0 rfl)).1 (fun t ht => by simp only [List.mem_cons, List.not_mem_nil, or_false] at ht; rcases ht with rfl | rfl <;> exact Dt.keep hM.bel _ (by assumption)) (by simp) (by simp only [List.map_cons, List.map_nil, Tr.bulks]; omega) (hT.below hM.bel)) ?_
   rintro _ w28 ⟨xy, kxy, rfl, ⟨hrxy, -, htxy⟩, hb27⟩
   replace htxy : (xy.tr, kxy) = appS [x.tr, y.tr] := htxy
   have hbxy := app_bulk [x.tr, y.tr]
   rw [← htxy] at hbxy
   simp only [Tr.bulks] at hbxy
   replace hM := hM.call hb27
   refine ⟨_, rfl, ?_⟩
   intro a hA
   have hB4 := hB3.trans (hM.bel.mono hB3.size)
   replace hT := hT.below hM.bel
   replace hRa := hRa.below hM.bel
   replace hDa := fun t ht => Dt.keep hM.bel _ (hDa t ht)
   replace hRb := hRb.below hM.bel
   replace hDb := fun t ht => Dt.keep hM.bel _ (hDb t ht)
   replace hRc := hRc.below hM.bel
   replace hDc := fun t ht => Dt.keep hM.bel _ (hDc t ht)
   replace hrx := Dt.keep hM.bel _ hrx
   replace hry := Dt.keep hM.bel _ hry
   replace hrz := Dt.keep hM.bel _ hrz
   have hHg19 := hM.here 1 (cs := [.int .i64 z.d.k, .int .i64 z.d.n, .bool z.d.y.q.b1, .slice z.d.y.o1 z.d.y.q.t1.length z.d.y.c1, .slice z.d.y.o2 z.d.y.q.q1.length z.d.y.c2, .bool z.d.y.q.b2, .slice z.d.y.o3 z.d.y.q.t2.length z.d.y.c3, .slice z.d.y.o4 z.d.y.q.q2.length z.d.y.c4, .string z.d.s, .slice z.d.ro z.d.rl.length z.d.rc, .slice z.d.lo z.ts.length z.d.lc]) rfl
   have hHg17 := hM.here 2 (cs := [.int .i64 y.d.k, .int .i64 y.d.n, .bool y.d.y.q.b1, .slice y.d.y.o1 y.d.y.q.t1.length y.d.y.c1, .slice y.d.y.o2 y.d.y.q.q1.length y.d.y.c2, .bool y.d.y.q.b2, .slice y.d.y.o3 y.d.y.q.t2.length y.d.y.c3, .slice y.d.y.o4 y.d.y.q.q2.length y.d.y.c4, .string y.d.s, .slice y.d.ro y.d.rl.length y.d.rc, .slice y.d.lo y.ts.length y.d.lc]) rfl
   have hHg15 := hM.here 3 (cs := [.int .i64 x.d.k, .int .i64 x.d.n, .bool x.d.y.q.b1, .slice x.d.y.o1 x.d.y.q.t1.length x.d.y.c1, .slice x.d.y.o2 x.d.y.q.q1.length x.d.y.c2, .bool x.d.y.q.b2, .slice x.d.y.o3 x.d.y.q.t2.length x.d.y.c3, .slice x.d.y.o4 x.d.y.q.q2.length x.d.y.c4, .string x.d.s, .slice x.d.ro x.d.rl.length x.d.rc, .slice x.d.lo x.ts.length x.d.lc]) rfl
   replace hM : Mg w28 w28 [] := Mg.start w28
   refine seq_do hA rfl rfl rfl (does_move rfl) ?_
   intro a hA
   refine seq_do (v := .agg (xy.d.cells xy.ts.length).toArray) hA rfl rfl rfl (does_extract (vs := [.agg (xy.d.cells xy.ts.length).toArray, .int .i64 kxy]) rfl rfl) ?_
   intro a hA
   refine seq_do (v := .int .i64 kxy) hA rfl rfl rfl (does_extract (vs := [.agg (xy.d.cells xy.ts.length).toArray, .int .i64 kxy]) rfl rfl) ?_
   intro a hA
   refine s_new (vs := [.int .i64 0, .int .i64 0, .bool false, .slice none 0 0, .slice none 0 0, .bool false, .slice none 0 0, .slice none 0 0, .string (⟨#[]⟩), .slice none 0 0, .slice none 0 0]) (t := 31) hA hM rfl rfl rfl (fun g => .pointer (some ⟨g, 0, none⟩)) (does_alloc (z := .agg #[.int .i64 0, .int .i64 0, .bool false, .slice none 0 0, .slice none 0 0, .bool false, .slice none 0 0, .slice none 0 0, .string (⟨#[]⟩), .slice none 0 0, .slice none 0 0]) (by kernel_rfl) rfl) (by decide) ?_
   intro g29 w30 hM a hA
   refine s_store (us := [.int .i64 xy.d.k, .int .i64 xy.d.n, .bool xy.d.y.q.b1, .slice xy.d.y.o1 xy.d.y.q.t1.length xy.d.y.c1, .slice xy.d.y.o2 xy.d.y.q.q1.length xy.d.y.c2, .bool xy.d.y.q.b2, .slice xy.d.y.o3 xy.d.y.q.t2.length xy.d.y.c3, .slice xy.d.y.o4 xy.d.y.q.q2.length xy.d.y.c4, .string xy.d.s, .slice xy.d.ro xy.d.rl.length xy.d.rc, .slice xy.d.lo xy.ts.length xy.d.lc]) (L' := (.obj g29 (.cells (xy.d.cells xy.ts.length).toArray 31) :: [])) hA hM rfl rfl (m_store rfl rfl rfl (by kernel_rfl) hM 0 rfl rfl rfl) 0 rfl rfl rfl ?_
   intro w31 hM
   refine seq_do hA rfl rfl rfl (does_assign rfl) ?_
   intro a hA
   refine seq_end ?_
   refine hK24 _ _ ?_
   refine wp_seq_k (fun K32 hK32 => ?_)
   refine wp_region_lit ?_
   refine seq_do hA rfl rfl rfl (m_loadS hM LiJ_isS_31 rfl 0 rfl (cs := [.int .i64 xy.d.k, .int .i64 xy.d.n, .bool xy.d.y.q.b1, .slice xy.d.y.o1 xy.d.y.q.t1.length xy.d.y.c1, .slice xy.d.y.o2 xy.d.y.q.q1.length xy.d.y.c2, .bool xy.d.y.q.b2, .slice xy.d.y.o3 xy.d.y.q.t2.length xy.d.y.c3, .slice xy.d.y.o4 xy.d.y.q.q2.length xy.d.y.c4, .string xy.d.s, .slice xy.d.ro xy.d.rl.length xy.d.rc, .slice xy.d.lo xy.ts.length xy.d.lc]) rfl rfl) ?_
   intro a hA
   refine seq_do hA rfl rfl rfl (m_loadHS hM hHg19 LiJ_isS_31 rfl rfl) ?_
   intro a hA
   refine s_litE (e := 31) (sz := 11) (m := 2) (vs := cellsOf [xy, z]) hA hM rfl rfl rfl (does_buildSlice rfl (by kernel_rfl)) rfl rfl (.inl (by decide)) ?_
   intro g33 w34 hM a hA
   refine seq_call hA rfl rfl rfl (enters_func rfl rfl (fun w => by kernel_rfl)) (append_any (ts := [xy, z]) (rt_own (hM.has 0 rfl)).1 (fun t ht => by simp only [List.mem_cons, List.not_mem_nil, or_false] at ht; rcases ht with rfl | rfl <;> exact Dt.keep hM.bel _ (by assumption)) (by simp) (by simp only [List.map_cons, List.map_nil, Tr.bulks]; omega) (hT.below hM.bel)) ?_
   rintro _ w36 ⟨le, kle, rfl, ⟨hrle, -, htle⟩, hb35⟩
   replace htle : (le.tr, kle) = appS [xy.tr, z.tr] := htle
   have hble := app_bulk [xy.tr, z.tr]
   rw [← htle] at hble
   simp only [Tr.bulks] at hble
   replace hM := hM.call hb35
   refine ⟨_, rfl, ?_⟩
   intro a hA
   have hB5 := hB4.trans (hM.bel.mono hB4.size)
   replace hT := hT.below hM.bel
   replace hHg19 := hHg19.below hM.bel
   replace hHg17 := hHg17.below hM.bel
   replace hHg15 := hHg15.below hM.bel
   replace hRa := hRa.below hM.bel
   replace hDa := fun t ht => Dt.keep hM.bel _ (hDa t ht)
   replace hRb := hRb.below hM.bel
   replace hDb := fun t ht => Dt.keep hM.bel _ (hDb t ht)
   replace hRc := hRc.below hM.bel
   replace hDc := fun t ht => Dt.keep hM.bel _ (hDc t ht)
   replace hrx := Dt.keep hM.bel _ hrx
   replace hry := Dt.keep hM.bel _ hry
   replace hrz := Dt.keep hM.bel _ hrz
   replace hrxy := Dt.keep hM.bel _ hrxy
   have hHg29 := hM.here 1 (cs := [.int .i64 xy.d.k, .int .i64 xy.d.n, .bool xy.d.y.q.b1, .slice xy.d.y.o1 xy.d.y.q.t1.length xy.d.y.c1, .slice xy.d.y.o2 xy.d.y.q.q1.length xy.d.y.c2, .bool xy.d.y.q.b2, .slice xy.d.y.o3 xy.d.y.q.t2.length xy.d.y.c3, .slice xy.d.y.o4 xy.d.y.q.q2.length xy.d.y.c4, .string xy.d.s, .slice xy.d.ro xy.d.rl.length xy.d.rc, .slice xy.d.lo xy.ts.length xy.d.lc]) rfl
   replace hM : Mg w36 w36 [] := Mg.start w36
   refine seq_do hA rfl rfl rfl (does_move rfl) ?_
   intro a hA
   refine seq_do (v := .agg (le.d.cells le.ts.length).toArray) hA rfl rfl rfl (does_extract (vs := [.agg (le.d.cells le.ts.length).toArray, .int .i64 kle]) rfl rfl) ?_
   intro a hA
   refine seq_do (v := .int .i64 kle) hA rfl rfl rfl (does_extract (vs := [.agg (le.d.cells le.ts.length).toArray, .int .i64 kle]) rfl rfl) ?_
   intro a hA
   refine s_new (vs := [.int .i64 0, .int .i64 0, .bool false, .slice none 0 0, .slice none 0 0, .bool false, .slice none 0 0, .slice none 0 0, .string (⟨#[]⟩), .slice none 0 0, .slice none 0 0]) (t := 31) hA hM rfl rfl rfl (fun g => .pointer (some ⟨g, 0, none⟩)) (does_alloc (z := .agg #[.int .i64 0, .int .i64 0, .bool false, .slice none 0 0, .slice none 0 0, .bool false, .slice none 0 0, .slice none 0 0, .string (⟨#[]⟩), .slice none 0 0, .slice none 0 0]) (by kernel_rfl) rfl) (by decide) ?_
   intro g37 w38 hM a hA
   refine s_store (us := [.int .i64 le.d.k, .int .i64 le.d.n, .bool le.d.y.q.b1, .slice le.d.y.o1 le.d.y.q.t1.length le.d.y.c1, .slice le.d.y.o2 le.d.y.q.q1.length le.d.y.c2, .bool le.d.y.q.b2, .slice le.d.y.o3 le.d.y.q.t2.length le.d.y.c3, .slice le.d.y.o4 le.d.y.q.q2.length le.d.y.c4, .string le.d.s, .slice le.d.ro le.d.rl.length le.d.rc, .slice le.d.lo le.ts.length le.d.lc]) (L' := (.obj g37 (.cells (le.d.cells le.ts.length).toArray 31) :: [])) hA hM rfl rfl (m_store rfl rfl rfl (by kernel_rfl) hM 0 rfl rfl rfl) 0 rfl rfl rfl ?_
   intro w39 hM
   refine seq_do hA rfl rfl rfl (does_assign rfl) ?_
   intro a hA
   refine seq_end ?_
   refine hK32 _ _ ?_
   refine wp_seq_k (fun K40 hK40 => ?_)
   refine wp_seq_k (fun K41 hK41 => ?_)
   refine wp_region_lit ?_
   refine seq_call hA rfl rfl rfl (enters_func rfl rfl (fun w => by kernel_rfl)) (awake_any (hT.below hM.bel)) ?_
   rintro _ w43 ⟨rfl, hb42⟩
   replace hM := hM.call hb42
   refine ⟨_, rfl, ?_⟩
   intro a hA
   refine seq_do (v := .bool false) hA rfl rfl rfl (does_un rfl un_not) ?_
   intro a hA
   refine seq_do hA rfl rfl rfl (does_move rfl) ?_
   intro a hA
   refine seq_do hA rfl rfl rfl (does_move rfl) ?_
   intro a hA
   rcases Bool.eq_false_or_eq_true ((kxy != 0)) with hb44 | hb44
   · have hb44' := bne_iff_ne.1 hb44
     refine seq_do (v := .bool true) hA rfl rfl rfl (does_bin rfl rfl (fun w => (bin_neq w).trans (by rw [hb44]))) ?_
     intro a hA
     refine seq_do (v := .bool true) hA rfl rfl rfl (does_pick rfl rfl rfl rfl) ?_
     intro a hA
     refine seq_do hA rfl rfl rfl (does_move rfl) ?_
     intro a hA
     refine seq_skip hA rfl rfl rfl ?_
     intro a hA
     refine seq_skip hA rfl rfl rfl ?_
     intro a hA
     refine seq_do (v := .bool true) hA rfl rfl rfl (does_pick rfl rfl rfl rfl) ?_
     intro a hA
     refine seq_end ?_
     refine hK41 _ _ ?_
     refine wp_cond_true (hA.ev rfl) ?_
     refine wp_seq_k (fun K45 hK45 => ?_)
     refine wp_region_lit ?_
     refine seq_call hA rfl rfl rfl (enters_func rfl rfl (fun w => by kernel_rfl)) (awake_any (hT.below hM.bel)) ?_
     rintro _ w47 ⟨rfl, hb46⟩
     replace hM := hM.call hb46
     refine ⟨_, rfl, ?_⟩
     intro a hA
     refine seq_do hA rfl rfl rfl (does_assign rfl) ?_
     intro a hA
     refine seq_end ?_
     refine hK45 _ _ ?_
     refine wp_ret ?_
     refine hret _ _ ?_
     refine ends (v := .bool true) hA rfl (.cons (res_tmp rfl) .nil) rfl ?_
     exact ⟨rfl, hB5.trans (hM.bel.mono hB5.size)⟩
   · have hb44' := bne_eq_false_iff_eq.1 hb44
     refine seq_do (v := .bool false) hA rfl rfl rfl (does_bin rfl rfl (fun w => (bin_neq w).trans (by rw [hb44]))) ?_
     intro a hA
     refine seq_do (v := .bool false) hA rfl rfl rfl (does_pick rfl rfl rfl rfl) ?_
     intro a hA
     refine seq_do hA rfl rfl rfl (does_move rfl) ?_
     intro a hA
     refine seq_do hA rfl rfl rfl (does_move rfl) ?_
     intro a hA
     rcases Bool.eq_false_or_eq_true ((kle != 0)) with hb48 | hb48
     · have hb48' := bne_iff_ne.1 hb48
       refine seq_do (v := .bool true) hA rfl rfl rfl (does_bin rfl rfl (fun w => (bin_neq w).trans (by rw [hb48]))) ?_
       intro a hA
       refine seq_do (v := .bool true) hA rfl rfl rfl (does_pick rfl rfl rfl rfl) ?_
       intro a hA
       refine seq_end ?_
       refine hK41 _ _ ?_
       refine wp_cond_true (hA.ev rfl) ?_
       refine wp_seq_k (fun K49 hK49 => ?_)
       refine wp_region_lit ?_
       refine seq_call hA rfl rfl rfl (enters_func rfl rfl (fun w => by kernel_rfl)) (awake_any (hT.below hM.bel)) ?_
       rintro _ w51 ⟨rfl, hb50⟩
       replace hM := hM.call hb50
       refine ⟨_, rfl, ?_⟩
       intro a hA
       refine seq_do hA rfl rfl rfl (does_assign rfl) ?_
       intro a hA
       refine seq_end ?_
       refine hK49 _ _ ?_
       refine wp_ret ?_
       refine hret _ _ ?_
       refine ends (v := .bool true) hA rfl (.cons (res_tmp rfl) .nil) rfl ?_
       exact ⟨rfl, hB5.trans (hM.bel.mono hB5.size)⟩
     · have hb48' := bne_eq_false_iff_eq.1 hb48
       refine seq_do (v := .bool false) hA rfl rfl rfl (does_bin rfl rfl (fun w => (bin_neq w).trans (by rw [hb48]))) ?_
       intro a hA
       refine seq_do (v := .bool false) hA rfl rfl rfl (does_pick rfl rfl rfl rfl) ?_
       intro a hA
       refine seq_end ?_
       refine hK41 _ _ ?_
       refine wp_cond_false (hA.ev rfl) ?_
       refine wp_skip ?_
       refine hK40 _ _ ?_
       refine wp_seq_k (fun K52 hK52 => ?_)
       refine wp_region_lit ?_
       refine seq_do hA rfl rfl rfl (m_loadHS hM hHg17 LiJ_isS_31 rfl rfl) ?_
       intro a hA
       refine seq_do hA rfl rfl rfl (m_loadHS hM hHg19 LiJ_isS_31 rfl rfl) ?_
       intro a hA
       refine s_litE (e := 31) (sz := 11) (m := 2) (vs := cellsOf [y, z]) hA hM rfl rfl rfl (does_buildSlice rfl (by kernel_rfl)) rfl rfl (.inl (by decide)) ?_
       intro g53 w54 hM a hA
       refine seq_call hA rfl rfl rfl (enters_func rfl rfl (fun w => by kernel_rfl)) (append_any (ts := [y, z]) (rt_own (hM.has 0 rfl)).1 (fun t ht => by simp only [List.mem_cons, List.not_mem_nil, or_false] at ht; rcases ht with rfl | rfl <;> exact Dt.keep hM.bel _ (by assumption)) (by simp) (by simp only [List.map_cons, List.map_nil, Tr.bulks]; omega) (hT.below hM.bel)) ?_
       rintro _ w56 ⟨yz, kyz, rfl, ⟨hryz, -, htyz⟩, hb55⟩
       replace htyz : (yz.tr, kyz) = appS [y.tr, z.tr] := htyz
       have hbyz := app_bulk [y.tr, z.tr]
       rw [← htyz] at hbyz
       simp only [Tr.bulks] at hbyz
       replace hM := hM.call hb55
       refine ⟨_, rfl, ?_⟩
       intro a hA
       have hB6 := hB5.trans (hM.bel.mono hB5.size)
       replace hT := hT.below hM.bel
       replace hHg19 := hHg19.below hM.bel
       replace hHg17 := hHg17.below hM.bel
       replace hHg15 := hHg15.below hM.bel
       replace hHg29 := hHg29.below hM.bel
       replace hRa := hRa.below hM.bel
       replace hDa := fun t ht => Dt.keep hM.bel _ (hDa t ht)
       replace hRb := hRb.below hM.bel
       replace hDb := fun t ht => Dt.keep hM.bel _ (hDb t ht)
       replace hRc := hRc.below hM.bel
       replace hDc := fun t ht => Dt.keep hM.bel _ (hDc t ht)
       replace hrx := Dt.keep hM.bel _ hrx
       replace hry := Dt.keep hM.bel _ hry
       replace hrz := Dt.keep hM.bel _ hrz
       replace hrxy := Dt.keep hM.bel _ hrxy
       replace hrle := Dt.keep hM.bel _ hrle
       have hHg37 := hM.here 1 (cs := [.int .i64 le.d.k, .int .i64 le.d.n, .bool le.d.y.q.b1, .slice le.d.y.o1 le.d.y.q.t1.length le.d.y.c1, .slice le.d.y.o2 le.d.y.q.q1.length le.d.y.c2, .bool le.d.y.q.b2, .slice le.d.y.o3 le.d.y.q.t2.length le.d.y.c3, .slice le.d.y.o4 le.d.y.q.q2.length le.d.y.c4, .string le.d.s, .slice le.d.ro le.d.rl.length le.d.rc, .slice le.d.lo le.ts.length le.d.lc]) rfl
       replace hM : Mg w56 w56 [] := Mg.start w56
       refine seq_do hA rfl rfl rfl (does_move rfl) ?_
       intro a hA
       refine seq_do (v := .agg (yz.d.cells yz.ts.length).toArray) hA rfl rfl rfl (does_extract (vs := [.agg (yz.d.cells yz.ts.length).toArray, .int .i64 kyz]) rfl rfl) ?_
       intro a hA
       refine seq_do (v := .int .i64 kyz) hA rfl rfl rfl (does_extract (vs := [.agg (yz.d.cells yz.ts.length).toArray, .int .i64 kyz]) rfl rfl) ?_
       intro a hA
       refine s_new (vs := [.int .i64 0, .int .i64 0, .bool false, .slice none 0 0, .slice none 0 0, .bool false, .slice none 0 0, .slice none 0 0, .string (⟨#[]⟩), .slice none 0 0, .slice none 0 0]) (t := 31) hA hM rfl rfl rfl (fun g => .pointer (some ⟨g, 0, none⟩)) (does_alloc (z := .agg #[.int .i64 0, .int .i64 0, .bool false, .slice none 0 0, .slice none 0 0, .bool false, .slice none 0 0, .slice none 0 0, .string (⟨#[]⟩), .slice none 0 0, .slice none 0 0]) (by kernel_rfl) rfl) (by decide) ?_
       intro g57 w58 hM a hA
       refine s_store (us := [.int .i64 yz.d.k, .int .i64 yz.d.n, .bool yz.d.y.q.b1, .slice yz.d.y.o1 yz.d.y.q.t1.length yz.d.y.c1, .slice yz.d.y.o2 yz.d.y.q.q1.length yz.d.y.c2, .bool yz.d.y.q.b2, .slice yz.d.y.o3 yz.d.y.q.t2.length yz.d.y.c3, .slice yz.d.y.o4 yz.d.y.q.q2.length yz.d.y.c4, .string yz.d.s, .slice yz.d.ro yz.d.rl.length yz.d.rc, .slice yz.d.lo yz.ts.length yz.d.lc]) (L' := (.obj g57 (.cells (yz.d.cells yz.ts.length).toArray 31) :: [])) hA hM rfl rfl (m_store rfl rfl rfl (by kernel_rfl) hM 0 rfl rfl rfl) 0 rfl rfl rfl ?_
       intro w59 hM
       refine seq_do hA rfl rfl rfl (does_assign rfl) ?_
       intro a hA
       refine seq_end ?_
       refine hK52 _ _ ?_
       refine wp_seq_k (fun K60 hK60 => ?_)
       refine wp_region_lit ?_
       refine seq_do hA rfl rfl rfl (m_loadHS hM hHg15 LiJ_isS_31 rfl rfl) ?_
       intro a hA
       refine seq_do hA rfl rfl rfl (m_loadS hM LiJ_isS_31 rfl 0 rfl (cs := [.int .i64 yz.d.k, .int .i64 yz.d.n, .bool yz.d.y.q.b1, .slice yz.d.y.o1 yz.d.y.q.t1.length yz.d.y.c1, .slice yz.d.y.o2 yz.d.y.q.q1.length yz.d.y.c2, .bool yz.d.y.q.b2, .slice yz.d.y.o3 yz.d.y.q.t2.length yz.d.y.c3, .slice yz.d.y.o4 yz.d.y.q.q2.length yz.d.y.c4, .string yz.d.s, .slice yz.d.ro yz.d.rl.length yz.d.rc, .slice yz.d.lo yz.ts.length yz.d.lc]) rfl rfl) ?_
       intro a hA
       refine s_litE (e := 31) (sz := 11) (m := 2) (vs := cellsOf [x, yz]) hA hM rfl rfl rfl (does_buildSlice rfl (by kernel_rfl)) rfl rfl (.inl (by decide)) ?_
       intro g61 w62 hM a hA
       refine seq_call hA rfl rfl rfl (enters_func rfl rfl (fun w => by kernel_rfl)) (append_any (ts := [x, yz]) (rt_own (hM.has 0 rfl)).1 (fun t ht => by simp only [List.mem_cons, List.not_mem_nil, or_false] at ht; rcases ht with rfl | rfl <;> exact Dt.keep hM.bel _ (by assumption)) (by simp) (by simp only [List.map_cons, List.map_nil, Tr.bulks]; omega) (hT.below hM.bel)) ?_
       rintro _ w64 ⟨ri, kri, rfl, ⟨hrri, -, htri⟩, hb63⟩
       replace htri : (ri.tr, kri) = appS [x.tr, yz.tr] := htri
       have hbri := app_bulk [x.tr, yz.tr]
       rw [← htri] at hbri
       simp only [Tr.bulks] at hbri
       replace hM := hM.call hb63
       refine ⟨_, rfl, ?_⟩
       intro a hA
       have hB7 := hB6.trans (hM.bel.mono hB6.size)
       replace hT := hT.below hM.bel
       replace hHg19 := hHg19.below hM.bel
       replace hHg17 := hHg17.below hM.bel
       replace hHg15 := hHg15.below hM.bel
       replace hHg29 := hHg29.below hM.bel
       replace hHg37 := hHg37.below hM.bel
       replace hRa := hRa.below hM.bel
       replace hDa := fun t ht => Dt.keep hM.bel _ (hDa t ht)
       replace hRb := hRb.below hM.bel
       replace hDb := fun t ht => Dt.keep hM.bel _ (hDb t ht)
       replace hRc := hRc.below hM.bel
       replace hDc := fun t ht => Dt.keep hM.bel _ (hDc t ht)
       replace hrx := Dt.keep hM.bel _ hrx
       replace hry := Dt.keep hM.bel _ hry
       replace hrz := Dt.keep hM.bel _ hrz
       replace hrxy := Dt.keep hM.bel _ hrxy
       replace hrle := Dt.keep hM.bel _ hrle
       replace hryz := Dt.keep hM.bel _ hryz
       have hHg57 := hM.here 1 (cs := [.int .i64 yz.d.k, .int .i64 yz.d.n, .bool yz.d.y.q.b1, .slice yz.d.y.o1 yz.d.y.q.t1.length yz.d.y.c1, .slice yz.d.y.o2 yz.d.y.q.q1.length yz.d.y.c2, .bool yz.d.y.q.b2, .slice yz.d.y.o3 yz.d.y.q.t2.length yz.d.y.c3, .slice yz.d.y.o4 yz.d.y.q.q2.length yz.d.y.c4, .string yz.d.s, .slice yz.d.ro yz.d.rl.length yz.d.rc, .slice yz.d.lo yz.ts.length yz.d.lc]) rfl
       replace hM : Mg w64 w64 [] := Mg.start w64
       refine seq_do hA rfl rfl rfl (does_move rfl) ?_
       intro a hA
       refine seq_do (v := .agg (ri.d.cells ri.ts.length).toArray) hA rfl rfl rfl (does_extract (vs := [.agg (ri.d.cells ri.ts.length).toArray, .int .i64 kri]) rfl rfl) ?_
       intro a hA
       refine seq_do (v := .int .i64 kri) hA rfl rfl rfl (does_extract (vs := [.agg (ri.d.cells ri.ts.length).toArray, .int .i64 kri]) rfl rfl) ?_
       intro a hA
       refine s_new (vs := [.int .i64 0, .int .i64 0, .bool false, .slice none 0 0, .slice none 0 0, .bool false, .slice none 0 0, .slice none 0 0, .string (⟨#[]⟩), .slice none 0 0, .slice none 0 0]) (t := 31) hA hM rfl rfl rfl (fun g => .pointer (some ⟨g, 0, none⟩)) (does_alloc (z := .agg #[.int .i64 0, .int .i64 0, .bool false, .slice none 0 0, .slice none 0 0, .bool false, .slice none 0 0, .slice none 0 0, .string (⟨#[]⟩), .slice none 0 0, .slice none 0 0]) (by kernel_rfl) rfl) (by decide) ?_
       intro g65 w66 hM a hA
       refine s_store (us := [.int .i64 ri.d.k, .int .i64 ri.d.n, .bool ri.d.y.q.b1, .slice ri.d.y.o1 ri.d.y.q.t1.length ri.d.y.c1, .slice ri.d.y.o2 ri.d.y.q.q1.length ri.d.y.c2, .bool ri.d.y.q.b2, .slice ri.d.y.o3 ri.d.y.q.t2.length ri.d.y.c3, .slice ri.d.y.o4 ri.d.y.q.q2.length ri.d.y.c4, .string ri.d.s, .slice ri.d.ro ri.d.rl.length ri.d.rc, .slice ri.d.lo ri.ts.length ri.d.lc]) (L' := (.obj g65 (.cells (ri.d.cells ri.ts.length).toArray 31) :: [])) hA hM rfl rfl (m_store rfl rfl rfl (by kernel_rfl) hM 0 rfl rfl rfl) 0 rfl rfl rfl ?_
       intro w67 hM
       refine seq_do hA rfl rfl rfl (does_assign rfl) ?_
       intro a hA
       refine seq_end ?_
       refine hK60 _ _ ?_
       refine wp_seq_k (fun K68 hK68 => ?_)
       refine wp_region_lit ?_
       refine seq_do hA rfl rfl rfl (m_loadHS hM hHg15 LiJ_isS_31 rfl rfl) ?_
       intro a hA
       refine seq_do hA rfl rfl rfl (m_loadHS hM hHg17 LiJ_isS_31 rfl rfl) ?_
       intro a hA
       refine seq_do hA rfl rfl rfl (m_loadHS hM hHg19 LiJ_isS_31 rfl rfl) ?_
       intro a hA
       refine s_litE (e := 31) (sz := 11) (m := 3) (vs := cellsOf [x, y, z]) hA hM rfl rfl rfl (does_buildSlice rfl (by kernel_rfl)) rfl rfl (.inl (by decide)) ?_
       intro g69 w70 hM a hA
       refine seq_call hA rfl rfl rfl (enters_func rfl rfl (fun w => by kernel_rfl)) (append_any (ts := [x, y, z]) (rt_own (hM.has 0 rfl)).1 (fun t ht => by simp only [List.mem_cons, List.not_mem_nil, or_false] at ht; rcases ht with rfl | rfl | rfl <;> exact Dt.keep hM.bel _ (by assumption)) (by simp) (by simp only [List.map_cons, List.map_nil, Tr.bulks]; omega) (hT.below hM.bel)) ?_
       rintro _ w72 ⟨al, kal, rfl, ⟨hral, -, htal⟩, hb71⟩
       replace htal : (al.tr, kal) = appS [x.tr, y.tr, z.tr] := htal
       have hbal := app_bulk [x.tr, y.tr, z.tr]
       rw [← htal] at hbal
       simp only [Tr.bulks] at hbal
       replace hM := hM.call hb71
       refine ⟨_, rfl, ?_⟩
       intro a hA
       have hB8 := hB7.trans (hM.bel.mono hB7.size)
       replace hT := hT.below hM.bel
       replace hHg19 := hHg19.below hM.bel
       replace hHg17 := hHg17.below hM.bel
       replace hHg15 := hHg15.below hM.bel
       replace hHg29 := hHg29.below hM.bel
       replace hHg37 := hHg37.below hM.bel
       replace hHg57 := hHg57.below hM.bel
       replace hRa := hRa.below hM.bel
       replace hDa := fun t ht => Dt.keep hM.bel _ (hDa t ht)
       replace hRb := hRb.below hM.bel
       replace hDb := fun t ht => Dt.keep hM.bel _ (hDb t ht)
       replace hRc := hRc.below hM.bel
       replace hDc := fun t ht => Dt.keep hM.bel _ (hDc t ht)
       replace hrx := Dt.keep hM.bel _ hrx
       replace hry := Dt.keep hM.bel _ hry
       replace hrz := Dt.keep hM.bel _ hrz
       replace hrxy := Dt.keep hM.bel _ hrxy
       replace hrle := Dt.keep hM.bel _ hrle
       replace hryz := Dt.keep hM.bel _ hryz
       replace hrri := Dt.keep hM.bel _ hrri
       have hHg65 := hM.here 1 (cs := [.int .i64 ri.d.k, .int .i64 ri.d.n, .bool ri.d.y.q.b1, .slice ri.d.y.o1 ri.d.y.q.t1.length ri.d.y.c1, .slice ri.d.y.o2 ri.d.y.q.q1.length ri.d.y.c2, .bool ri.d.y.q.b2, .slice ri.d.y.o3 ri.d.y.q.t2.length ri.d.y.c3, .slice ri.d.y.o4 ri.d.y.q.q2.length ri.d.y.c4, .string ri.d.s, .slice ri.d.ro ri.d.rl.length ri.d.rc, .slice ri.d.lo ri.ts.length ri.d.lc]) rfl
       replace hM : Mg w72 w72 [] := Mg.start w72
       refine seq_do hA rfl rfl rfl (does_move rfl) ?_
       intro a hA
       refine seq_do (v := .agg (al.d.cells al.ts.length).toArray) hA rfl rfl rfl (does_extract (vs := [.agg (al.d.cells al.ts.length).toArray, .int .i64 kal]) rfl rfl) ?_
       intro a hA
       refine seq_do (v := .int .i64 kal) hA rfl rfl rfl (does_extract (vs := [.agg (al.d.cells al.ts.length).toArray, .int .i64 kal]) rfl rfl) ?_
       intro a hA
       refine s_new (vs := [.int .i64 0, .int .i64 0, .bool false, .slice none 0 0, .slice none 0 0, .bool false, .slice none 0 0, .slice none 0 0, .string (⟨#[]⟩), .slice none 0 0, .slice none 0 0]) (t := 31) hA hM rfl rfl rfl (fun g => .pointer (some ⟨g, 0, none⟩)) (does_alloc (z := .agg #[.int .i64 0, .int .i64 0, .bool false, .slice none 0 0, .slice none 0 0, .bool false, .slice none 0 0, .slice none 0 0, .string (⟨#[]⟩), .slice none 0 0, .slice none 0 0]) (by kernel_rfl) rfl) (by decide) ?_
       intro g73 w74 hM a hA
       refine s_store (us := [.int .i64 al.d.k, .int .i64 al.d.n, .bool al.d.y.q.b1, .slice al.d.y.o1 al.d.y.q.t1.length al.d.y.c1, .slice al.d.y.o2 al.d.y.q.q1.length al.d.y.c2, .bool al.d.y.q.b2, .slice al.d.y.o3 al.d.y.q.t2.length al.d.y.c3, .slice al.d.y.o4 al.d.y.q.q2.length al.d.y.c4, .string al.d.s, .slice al.d.ro al.d.rl.length al.d.rc, .slice al.d.lo al.ts.length al.d.lc]) (L' := (.obj g73 (.cells (al.d.cells al.ts.length).toArray 31) :: [])) hA hM rfl rfl (m_store rfl rfl rfl (by kernel_rfl) hM 0 rfl rfl rfl) 0 rfl rfl rfl ?_
       intro w75 hM
       refine seq_do hA rfl rfl rfl (does_assign rfl) ?_
       intro a hA
       refine seq_end ?_
       refine hK68 _ _ ?_
       refine wp_seq_k (fun K76 hK76 => ?_)
       refine wp_region_lit ?_
       refine seq_do hA rfl rfl rfl (m_loadHS hM hHg37 LiJ_isS_31 rfl rfl) ?_
       intro a hA
       refine seq_do hA rfl rfl rfl (does_move rfl) ?_
       intro a hA
       refine seq_do (v := .int .i64 (((la.length : Nat) : Int))) hA rfl rfl rfl (does_len Tryd.underlying22 rfl) ?_
       intro a hA
       refine seq_do hA rfl rfl rfl (does_move rfl) ?_
       intro a hA
       refine seq_do (v := .int .i64 (((lb.length : Nat) : Int))) hA rfl rfl rfl (does_len Tryd.underlying22 rfl) ?_
       intro a hA
       refine seq_do (v := .int .i64 (((la.length + lb.length : Nat) : Int))) hA rfl rfl rfl (does_bin rfl rfl (ar_add ((in_i64 (by omega) (by omega)).trans (by omega)))) ?_
       intro a hA
       refine seq_call hA rfl rfl rfl (enters_func rfl rfl (fun w => by kernel_rfl)) (tail_any (t := le) (Dt.keep hM.bel _ hrle) (by omega) (hT.below hM.bel)) ?_
       rintro _ w78 ⟨tl, ktl, rfl, ⟨hrtl, -, httl⟩, hb77⟩
       replace hM := hM.call hb77
       refine ⟨_, rfl, ?_⟩
       intro a hA
       have hB9 := hB8.trans (hM.bel.mono hB8.size)
       replace hT := hT.below hM.bel
       replace hHg19 := hHg19.below hM.bel
       replace hHg17 := hHg17.below hM.bel
       replace hHg15 := hHg15.below hM.bel
       replace hHg29 := hHg29.below hM.bel
       replace hHg37 := hHg37.below hM.bel
       replace hHg57 := hHg57.below hM.bel
       replace hHg65 := hHg65.below hM.bel
       replace hRa := hRa.below hM.bel
       replace hDa := fun t ht => Dt.keep hM.bel _ (hDa t ht)
       replace hRb := hRb.below hM.bel
       replace hDb := fun t ht => Dt.keep hM.bel _ (hDb t ht)
       replace hRc := hRc.below hM.bel
       replace hDc := fun t ht => Dt.keep hM.bel _ (hDc t ht)
       replace hrx := Dt.keep hM.bel _ hrx
       replace hry := Dt.keep hM.bel _ hry
       replace hrz := Dt.keep hM.bel _ hrz
       replace hrxy := Dt.keep hM.bel _ hrxy
       replace hrle := Dt.keep hM.bel _ hrle
       replace hryz := Dt.keep hM.bel _ hryz
       replace hrri := Dt.keep hM.bel _ hrri
       replace hral := Dt.keep hM.bel _ hral
       have hHg73 := hM.here 0 (cs := [.int .i64 al.d.k, .int .i64 al.d.n, .bool al.d.y.q.b1, .slice al.d.y.o1 al.d.y.q.t1.length al.d.y.c1, .slice al.d.y.o2 al.d.y.q.q1.length al.d.y.c2, .bool al.d.y.q.b2, .slice al.d.y.o3 al.d.y.q.t2.length al.d.y.c3, .slice al.d.y.o4 al.d.y.q.q2.length al.d.y.c4, .string al.d.s, .slice al.d.ro al.d.rl.length al.d.rc, .slice al.d.lo al.ts.length al.d.lc]) rfl
       replace hM : Mg w78 w78 [] := Mg.start w78
       refine seq_do hA rfl rfl rfl (does_move rfl) ?_
       intro a hA
       refine seq_do (v := .agg (tl.d.cells tl.ts.length).toArray) hA rfl rfl rfl (does_extract (vs := [.agg (tl.d.cells tl.ts.length).toArray, .int .i64 ktl]) rfl rfl) ?_
       intro a hA
       refine seq_do (v := .int .i64 ktl) hA rfl rfl rfl (does_extract (vs := [.agg (tl.d.cells tl.ts.length).toArray, .int .i64 ktl]) rfl rfl) ?_
       intro a hA
       refine s_new (vs := [.int .i64 0, .int .i64 0, .bool false, .slice none 0 0, .slice none 0 0, .bool false, .slice none 0 0, .slice none 0 0, .string (⟨#[]⟩), .slice none 0 0, .slice none 0 0]) (t := 31) hA hM rfl rfl rfl (fun g => .pointer (some ⟨g, 0, none⟩)) (does_alloc (z := .agg #[.int .i64 0, .int .i64 0, .bool false, .slice none 0 0, .slice none 0 0, .bool false, .slice none 0 0, .slice none 0 0, .string (⟨#[]⟩), .slice none 0 0, .slice none 0 0]) (by kernel_rfl) rfl) (by decide) ?_
       intro g79 w80 hM a hA
       refine s_store (us := [.int .i64 tl.d.k, .int .i64 tl.d.n, .bool tl.d.y.q.b1, .slice tl.d.y.o1 tl.d.y.q.t1.length tl.d.y.c1, .slice tl.d.y.o2 tl.d.y.q.q1.length tl.d.y.c2, .bool tl.d.y.q.b2, .slice tl.d.y.o3 tl.d.y.q.t2.length tl.d.y.c3, .slice tl.d.y.o4 tl.d.y.q.q2.length tl.d.y.c4, .string tl.d.s, .slice tl.d.ro tl.d.rl.length tl.d.rc, .slice tl.d.lo tl.ts.length tl.d.lc]) (L' := (.obj g79 (.cells (tl.d.cells tl.ts.length).toArray 31) :: [])) hA hM rfl rfl (m_store rfl rfl rfl (by kernel_rfl) hM 0 rfl rfl rfl) 0 rfl rfl rfl ?_
       intro w81 hM
       refine seq_do hA rfl rfl rfl (does_assign rfl) ?_
       intro a hA
       refine seq_end ?_
       refine hK76 _ _ ?_
       refine wp_seq_k (fun K82 hK82 => ?_)
       refine wp_region_lit ?_
       refine seq_do hA rfl rfl rfl (m_loadHS hM hHg29 LiJ_isS_31 rfl rfl) ?_
       intro a hA
       refine seq_call hA rfl rfl rfl (enters_func rfl rfl (fun w => by kernel_rfl)) (reverse_any (t := xy) (Dt.keep hM.bel _ hrxy) (by omega) (hT.below hM.bel)) ?_
       rintro _ w84 ⟨rr, krr, rfl, ⟨hrrr, -, htrr⟩, hb83⟩
       have hbrr := rev_bulk xy.tr
       rw [← htrr] at hbrr
       simp only at hbrr
       replace hM := hM.call hb83
       refine ⟨_, rfl, ?_⟩
       intro a hA
       have hB10 := hB9.trans (hM.bel.mono hB9.size)
       replace hT := hT.below hM.bel
       replace hHg19 := hHg19.below hM.bel
       replace hHg17 := hHg17.below hM.bel
       replace hHg15 := hHg15.below hM.bel
       replace hHg29 := hHg29.below hM.bel
       replace hHg37 := hHg37.below hM.bel
       replace hHg57 := hHg57.below hM.bel
       replace hHg65 := hHg65.below hM.bel
       replace hHg73 := hHg73.below hM.bel
       replace hRa := hRa.below hM.bel
       replace hDa := fun t ht => Dt.keep hM.bel _ (hDa t ht)
       replace hRb := hRb.below hM.bel
       replace hDb := fun t ht => Dt.keep hM.bel _ (hDb t ht)
       replace hRc := hRc.below hM.bel
       replace hDc := fun t ht => Dt.keep hM.bel _ (hDc t ht)
       replace hrx := Dt.keep hM.bel _ hrx
       replace hry := Dt.keep hM.bel _ hry
       replace hrz := Dt.keep hM.bel _ hrz
       replace hrxy := Dt.keep hM.bel _ hrxy
       replace hrle := Dt.keep hM.bel _ hrle
       replace hryz := Dt.keep hM.bel _ hryz
       replace hrri := Dt.keep hM.bel _ hrri
       replace hral := Dt.keep hM.bel _ hral
       replace hrtl := Dt.keep hM.bel _ hrtl
       have hHg79 := hM.here 0 (cs := [.int .i64 tl.d.k, .int .i64 tl.d.n, .bool tl.d.y.q.b1, .slice tl.d.y.o1 tl.d.y.q.t1.length tl.d.y.c1, .slice tl.d.y.o2 tl.d.y.q.q1.length tl.d.y.c2, .bool tl.d.y.q.b2, .slice tl.d.y.o3 tl.d.y.q.t2.length tl.d.y.c3, .slice tl.d.y.o4 tl.d.y.q.q2.length tl.d.y.c4, .string tl.d.s, .slice tl.d.ro tl.d.rl.length tl.d.rc, .slice tl.d.lo tl.ts.length tl.d.lc]) rfl
       replace hM : Mg w84 w84 [] := Mg.start w84
       refine seq_do hA rfl rfl rfl (does_move rfl) ?_
       intro a hA
       refine seq_do (v := .agg (rr.d.cells rr.ts.length).toArray) hA rfl rfl rfl (does_extract (vs := [.agg (rr.d.cells rr.ts.length).toArray, .int .i64 krr]) rfl rfl) ?_
       intro a hA
       refine seq_do (v := .int .i64 krr) hA rfl rfl rfl (does_extract (vs := [.agg (rr.d.cells rr.ts.length).toArray, .int .i64 krr]) rfl rfl) ?_
       intro a hA
       refine s_new (vs := [.int .i64 0, .int .i64 0, .bool false, .slice none 0 0, .slice none 0 0, .bool false, .slice none 0 0, .slice none 0 0, .string (⟨#[]⟩), .slice none 0 0, .slice none 0 0]) (t := 31) hA hM rfl rfl rfl (fun g => .pointer (some ⟨g, 0, none⟩)) (does_alloc (z := .agg #[.int .i64 0, .int .i64 0, .bool false, .slice none 0 0, .slice none 0 0, .bool false, .slice none 0 0, .slice none 0 0, .string (⟨#[]⟩), .slice none 0 0, .slice none 0 0]) (by kernel_rfl) rfl) (by decide) ?_
       intro g85 w86 hM a hA
       refine s_store (us := [.int .i64 rr.d.k, .int .i64 rr.d.n, .bool rr.d.y.q.b1, .slice rr.d.y.o1 rr.d.y.q.t1.length rr.d.y.c1, .slice rr.d.y.o2 rr.d.y.q.q1.length rr.d.y.c2, .bool rr.d.y.q.b2, .slice rr.d.y.o3 rr.d.y.q.t2.length rr.d.y.c3, .slice rr.d.y.o4 rr.d.y.q.q2.length rr.d.y.c4, .string rr.d.s, .slice rr.d.ro rr.d.rl.length rr.d.rc, .slice rr.d.lo rr.ts.length rr.d.lc]) (L' := (.obj g85 (.cells (rr.d.cells rr.ts.length).toArray 31) :: [])) hA hM rfl rfl (m_store rfl rfl rfl (by kernel_rfl) hM 0 rfl rfl rfl) 0 rfl rfl rfl ?_
       intro w87 hM
       refine seq_do hA rfl rfl rfl (does_assign rfl) ?_
       intro a hA
       refine seq_end ?_
       refine hK82 _ _ ?_
       refine wp_seq_k (fun K88 hK88 => ?_)
       refine wp_region_lit ?_
       refine seq_do hA rfl rfl rfl (m_loadHS hM hHg15 LiJ_isS_31 rfl rfl) ?_
       intro a hA
       refine seq_call hA rfl rfl rfl (enters_func rfl rfl (fun w => by kernel_rfl)) (reverse_any (t := x) (Dt.keep hM.bel _ hrx) (by omega) (hT.below hM.bel)) ?_
       rintro _ w90 ⟨rx, krx, rfl, ⟨hrrx, -, htrx⟩, hb89⟩
       have hbrx := rev_bulk x.tr
       rw [← htrx] at hbrx
       simp only at hbrx
       replace hM := hM.call hb89
       refine ⟨_, rfl, ?_⟩
       intro a hA
       have hB11 := hB10.trans (hM.bel.mono hB10.size)
       replace hT := hT.below hM.bel
       replace hHg19 := hHg19.below hM.bel
       replace hHg17 := hHg17.below hM.bel
       replace hHg15 := hHg15.below hM.bel
       replace hHg29 := hHg29.below hM.bel
       replace hHg37 := hHg37.below hM.bel
       replace hHg57 := hHg57.below hM.bel
       replace hHg65 := hHg65.below hM.bel
       replace hHg73 := hHg73.below hM.bel
       replace hHg79 := hHg79.below hM.bel
       replace hRa := hRa.below hM.bel
       replace hDa := fun t ht => Dt.keep hM.bel _ (hDa t ht)
       replace hRb := hRb.below hM.bel
       replace hDb := fun t ht => Dt.keep hM.bel _ (hDb t ht)
       replace hRc := hRc.below hM.bel
       replace hDc := fun t ht => Dt.keep hM.bel _ (hDc t ht)
       replace hrx := Dt.keep hM.bel _ hrx
       replace hry := Dt.keep hM.bel _ hry
       replace hrz := Dt.keep hM.bel _ hrz
       replace hrxy := Dt.keep hM.bel _ hrxy
       replace hrle := Dt.keep hM.bel _ hrle
       replace hryz := Dt.keep hM.bel _ hryz
       replace hrri := Dt.keep hM.bel _ hrri
       replace hral := Dt.keep hM.bel _ hral
       replace hrtl := Dt.keep hM.bel _ hrtl
       replace hrrr := Dt.keep hM.bel _ hrrr
       have hHg85 := hM.here 0 (cs := [.int .i64 rr.d.k, .int .i64 rr.d.n, .bool rr.d.y.q.b1, .slice rr.d.y.o1 rr.d.y.q.t1.length rr.d.y.c1, .slice rr.d.y.o2 rr.d.y.q.q1.length rr.d.y.c2, .bool rr.d.y.q.b2, .slice rr.d.y.o3 rr.d.y.q.t2.length rr.d.y.c3, .slice rr.d.y.o4 rr.d.y.q.q2.length rr.d.y.c4, .string rr.d.s, .slice rr.d.ro rr.d.rl.length rr.d.rc, .slice rr.d.lo rr.ts.length rr.d.lc]) rfl
       replace hM : Mg w90 w90 [] := Mg.start w90
       refine seq_do hA rfl rfl rfl (does_move rfl) ?_
       intro a hA
       refine seq_do (v := .agg (rx.d.cells rx.ts.length).toArray) hA rfl rfl rfl (does_extract (vs := [.agg (rx.d.cells rx.ts.length).toArray, .int .i64 krx]) rfl rfl) ?_
       intro a hA
       refine seq_do (v := .int .i64 krx) hA rfl rfl rfl (does_extract (vs := [.agg (rx.d.cells rx.ts.length).toArray, .int .i64 krx]) rfl rfl) ?_
       intro a hA
       refine s_new (vs := [.int .i64 0, .int .i64 0, .bool false, .slice none 0 0, .slice none 0 0, .bool false, .slice none 0 0, .slice none 0 0, .string (⟨#[]⟩), .slice none 0 0, .slice none 0 0]) (t := 31) hA hM rfl rfl rfl (fun g => .pointer (some ⟨g, 0, none⟩)) (does_alloc (z := .agg #[.int .i64 0, .int .i64 0, .bool false, .slice none 0 0, .slice none 0 0, .bool false, .slice none 0 0, .slice none 0 0, .string (⟨#[]⟩), .slice none 0 0, .slice none 0 0]) (by kernel_rfl) rfl) (by decide) ?_
       intro g91 w92 hM a hA
       refine s_store (us := [.int .i64 rx.d.k, .int .i64 rx.d.n, .bool rx.d.y.q.b1, .slice rx.d.y.o1 rx.d.y.q.t1.length rx.d.y.c1, .slice rx.d.y.o2 rx.d.y.q.q1.length rx.d.y.c2, .bool rx.d.y.q.b2, .slice rx.d.y.o3 rx.d.y.q.t2.length rx.d.y.c3, .slice rx.d.y.o4 rx.d.y.q.q2.length rx.d.y.c4, .string rx.d.s, .slice rx.d.ro rx.d.rl.length rx.d.rc, .slice rx.d.lo rx.ts.length rx.d.lc]) (L' := (.obj g91 (.cells (rx.d.cells rx.ts.length).toArray 31) :: [])) hA hM rfl rfl (m_store rfl rfl rfl (by kernel_rfl) hM 0 rfl rfl rfl) 0 rfl rfl rfl ?_
       intro w93 hM
       refine seq_do hA rfl rfl rfl (does_assign rfl) ?_
       intro a hA
       refine seq_end ?_
       refine hK88 _ _ ?_
       refine wp_seq_k (fun K94 hK94 => ?_)
       refine wp_region_lit ?_
       refine seq_do hA rfl rfl rfl (m_loadHS hM hHg17 LiJ_isS_31 rfl rfl) ?_
       intro a hA
       refine seq_call hA rfl rfl rfl (enters_func rfl rfl (fun w => by kernel_rfl)) (reverse_any (t := y) (Dt.keep hM.bel _ hry) (by omega) (hT.below hM.bel)) ?_
       rintro _ w96 ⟨ry, kry, rfl, ⟨hrry, -, htry⟩, hb95⟩
       have hbry := rev_bulk y.tr
       rw [← htry] at hbry
       simp only at hbry
       replace hM := hM.call hb95
       refine ⟨_, rfl, ?_⟩
       intro a hA
       have hB12 := hB11.trans (hM.bel.mono hB11.size)
       replace hT := hT.below hM.bel
       replace hHg19 := hHg19.below hM.bel
       replace hHg17 := hHg17.below hM.bel
       replace hHg15 := hHg15.below hM.bel
       replace hHg29 := hHg29.below hM.bel
       replace hHg37 := hHg37.below hM.bel
       replace hHg57 := hHg57.below hM.bel
       replace hHg65 := hHg65.below hM.bel
       replace hHg73 := hHg73.below hM.bel
       replace hHg79 := hHg79.below hM.bel
       replace hHg85 := hHg85.below hM.bel
       replace hRa := hRa.below hM.bel
       replace hDa := fun t ht => Dt.keep hM.bel _ (hDa t ht)
       replace hRb := hRb.below hM.bel
       replace hDb := fun t ht => Dt.keep hM.bel _ (hDb t ht)
       replace hRc := hRc.below hM.bel
       replace hDc := fun t ht => Dt.keep hM.bel _ (hDc t ht)
       replace hrx := Dt.keep hM.bel _ hrx
       replace hry := Dt.keep hM.bel _ hry
       replace hrz := Dt.keep hM.bel _ hrz
       replace hrxy := Dt.keep hM.bel _ hrxy
       replace hrle := Dt.keep hM.bel _ hrle
       replace hryz := Dt.keep hM.bel _ hryz
       replace hrri := Dt.keep hM.bel _ hrri
       replace hral := Dt.keep hM.bel _ hral
       replace hrtl := Dt.keep hM.bel _ hrtl
       replace hrrr := Dt.keep hM.bel _ hrrr
       replace hrrx := Dt.keep hM.bel _ hrrx
       have hHg91 := hM.here 0 (cs := [.int .i64 rx.d.k, .int .i64 rx.d.n, .bool rx.d.y.q.b1, .slice rx.d.y.o1 rx.d.y.q.t1.length rx.d.y.c1, .slice rx.d.y.o2 rx.d.y.q.q1.length rx.d.y.c2, .bool rx.d.y.q.b2, .slice rx.d.y.o3 rx.d.y.q.t2.length rx.d.y.c3, .slice rx.d.y.o4 rx.d.y.q.q2.length rx.d.y.c4, .string rx.d.s, .slice rx.d.ro rx.d.rl.length rx.d.rc, .slice rx.d.lo rx.ts.length rx.d.lc]) rfl
       replace hM : Mg w96 w96 [] := Mg.start w96
       refine seq_do hA rfl rfl rfl (does_move rfl) ?_
       intro a hA
       refine seq_do (v := .agg (ry.d.cells ry.ts.length).toArray) hA rfl rfl rfl (does_extract (vs := [.agg (ry.d.cells ry.ts.length).toArray, .int .i64 kry]) rfl rfl) ?_
       intro a hA
       refine seq_do (v := .int .i64 kry) hA rfl rfl rfl (does_extract (vs := [.agg (ry.d.cells ry.ts.length).toArray, .int .i64 kry]) rfl rfl) ?_
       intro a hA
       refine s_new (vs := [.int .i64 0, .int .i64 0, .bool false, .slice none 0 0, .slice none 0 0, .bool false, .slice none 0 0, .slice none 0 0, .string (⟨#[]⟩), .slice none 0 0, .slice none 0 0]) (t := 31) hA hM rfl rfl rfl (fun g => .pointer (some ⟨g, 0, none⟩)) (does_alloc (z := .agg #[.int .i64 0, .int .i64 0, .bool false, .slice none 0 0, .slice none 0 0, .bool false, .slice none 0 0, .slice none 0 0, .string (⟨#[]⟩), .slice none 0 0, .slice none 0 0]) (by kernel_rfl) rfl) (by decide) ?_
       intro g97 w98 hM a hA
       refine s_store (us := [.int .i64 ry.d.k, .int .i64 ry.d.n, .bool ry.d.y.q.b1, .slice ry.d.y.o1 ry.d.y.q.t1.length ry.d.y.c1, .slice ry.d.y.o2 ry.d.y.q.q1.length ry.d.y.c2, .bool ry.d.y.q.b2, .slice ry.d.y.o3 ry.d.y.q.t2.length ry.d.y.c3, .slice ry.d.y.o4 ry.d.y.q.q2.length ry.d.y.c4, .string ry.d.s, .slice ry.d.ro ry.d.rl.length ry.d.rc, .slice ry.d.lo ry.ts.length ry.d.lc]) (L' := (.obj g97 (.cells (ry.d.cells ry.ts.length).toArray 31) :: [])) hA hM rfl rfl (m_store rfl rfl rfl (by kernel_rfl) hM 0 rfl rfl rfl) 0 rfl rfl rfl ?_
       intro w99 hM
       refine seq_do hA rfl rfl rfl (does_assign rfl) ?_
       intro a hA
       refine seq_end ?_
       refine hK94 _ _ ?_
       refine wp_seq_k (fun K100 hK100 => ?_)
       refine wp_region_lit ?_
       refine seq_do hA rfl rfl rfl (m_loadS hM LiJ_isS_31 rfl 0 rfl (cs := [.int .i64 ry.d.k, .int .i64 ry.d.n, .bool ry.d.y.q.b1, .slice ry.d.y.o1 ry.d.y.q.t1.length ry.d.y.c1, .slice ry.d.y.o2 ry.d.y.q.q1.length ry.d.y.c2, .bool ry.d.y.q.b2, .slice ry.d.y.o3 ry.d.y.q.t2.length ry.d.y.c3, .slice ry.d.y.o4 ry.d.y.q.q2.length ry.d.y.c4, .string ry.d.s, .slice ry.d.ro ry.d.rl.length ry.d.rc, .slice ry.d.lo ry.ts.length ry.d.lc]) rfl rfl) ?_
       intro a hA
       refine seq_do hA rfl rfl rfl (m_loadHS hM hHg91 LiJ_isS_31 rfl rfl) ?_
       intro a hA
       refine s_litE (e := 31) (sz := 11) (m := 2) (vs := cellsOf [ry, rx]) hA hM rfl rfl rfl (does_buildSlice rfl (by kernel_rfl)) rfl rfl (.inl (by decide)) ?_
       intro g101 w102 hM a hA
       refine seq_call hA rfl rfl rfl (enters_func rfl rfl (fun w => by kernel_rfl)) (append_any (ts := [ry, rx]) (rt_own (hM.has 0 rfl)).1 (fun t ht => by simp only [List.mem_cons, List.not_mem_nil, or_false] at ht; rcases ht with rfl | rfl <;> exact Dt.keep hM.bel _ (by assumption)) (by simp) (by simp only [List.map_cons, List.map_nil, Tr.bulks]; omega) (hT.below hM.bel)) ?_
       rintro _ w104 ⟨ot, kot, rfl, ⟨hrot, -, htot⟩, hb103⟩
       replace htot : (ot.tr, kot) = appS [ry.tr, rx.tr] := htot
       have hbot := app_bulk [ry.tr, rx.tr]
       rw [← htot] at hbot
       simp only [Tr.bulks] at hbot
       replace hM := hM.call hb103
       refine ⟨_, rfl, ?_⟩
       intro a hA
       have hB13 := hB12.trans (hM.bel.mono hB12.size)
       replace hT := hT.below hM.bel
       replace hHg19 := hHg19.below hM.bel
       replace hHg17 := hHg17.below hM.bel
       replace hHg15 := hHg15.below hM.bel
       replace hHg29 := hHg29.below hM.bel
       replace hHg37 := hHg37.below hM.bel
       replace hHg57 := hHg57.below hM.bel
       replace hHg65 := hHg65.below hM.bel
       replace hHg73 := hHg73.below hM.bel
       replace hHg79 := hHg79.below hM.bel
       replace hHg85 := hHg85.below hM.bel
       replace hHg91 := hHg91.below hM.bel
       replace hRa := hRa.below hM.bel
       replace hDa := fun t ht => Dt.keep hM.bel _ (hDa t ht)
       replace hRb := hRb.below hM.bel
       replace hDb := fun t ht => Dt.keep hM.bel _ (hDb t ht)
       replace hRc := hRc.below hM.bel
       replace hDc := fun t ht => Dt.keep hM.bel _ (hDc t ht)
       replace hrx := Dt.keep hM.bel _ hrx
       replace hry := Dt.keep hM.bel _ hry
       replace hrz := Dt.keep hM.bel _ hrz
       replace hrxy := Dt.keep hM.bel _ hrxy
       replace hrle := Dt.keep hM.bel _ hrle
       replace hryz := Dt.keep hM.bel _ hryz
       replace hrri := Dt.keep hM.bel _ hrri
       replace hral := Dt.keep hM.bel _ hral
       replace hrtl := Dt.keep hM.bel _ hrtl
       replace hrrr := Dt.keep hM.bel _ hrrr
       replace hrrx := Dt.keep hM.bel _ hrrx
       replace hrry := Dt.keep hM.bel _ hrry
       have hHg97 := hM.here 1 (cs := [.int .i64 ry.d.k, .int .i64 ry.d.n, .bool ry.d.y.q.b1, .slice ry.d.y.o1 ry.d.y.q.t1.length ry.d.y.c1, .slice ry.d.y.o2 ry.d.y.q.q1.length ry.d.y.c2, .bool ry.d.y.q.b2, .slice ry.d.y.o3 ry.d.y.q.t2.length ry.d.y.c3, .slice ry.d.y.o4 ry.d.y.q.q2.length ry.d.y.c4, .string ry.d.s, .slice ry.d.ro ry.d.rl.length ry.d.rc, .slice ry.d.lo ry.ts.length ry.d.lc]) rfl
       replace hM : Mg w104 w104 [] := Mg.start w104
       refine seq_do hA rfl rfl rfl (does_move rfl) ?_
       intro a hA
       refine seq_do (v := .agg (ot.d.cells ot.ts.length).toArray) hA rfl rfl rfl (does_extract (vs := [.agg (ot.d.cells ot.ts.length).toArray, .int .i64 kot]) rfl rfl) ?_
       intro a hA
       refine seq_do (v := .int .i64 kot) hA rfl rfl rfl (does_extract (vs := [.agg (ot.d.cells ot.ts.length).toArray, .int .i64 kot]) rfl rfl) ?_
       intro a hA
       refine s_new (vs := [.int .i64 0, .int .i64 0, .bool false, .slice none 0 0, .slice none 0 0, .bool false, .slice none 0 0, .slice none 0 0, .string (⟨#[]⟩), .slice none 0 0, .slice none 0 0]) (t := 31) hA hM rfl rfl rfl (fun g => .pointer (some ⟨g, 0, none⟩)) (does_alloc (z := .agg #[.int .i64 0, .int .i64 0, .bool false, .slice none 0 0, .slice none 0 0, .bool false, .slice none 0 0, .slice none 0 0, .string (⟨#[]⟩), .slice none 0 0, .slice none 0 0]) (by kernel_rfl) rfl) (by decide) ?_
       intro g105 w106 hM a hA
       refine s_store (us := [.int .i64 ot.d.k, .int .i64 ot.d.n, .bool ot.d.y.q.b1, .slice ot.d.y.o1 ot.d.y.q.t1.length ot.d.y.c1, .slice ot.d.y.o2 ot.d.y.q.q1.length ot.d.y.c2, .bool ot.d.y.q.b2, .slice ot.d.y.o3 ot.d.y.q.t2.length ot.d.y.c3, .slice ot.d.y.o4 ot.d.y.q.q2.length ot.d.y.c4, .string ot.d.s, .slice ot.d.ro ot.d.rl.length ot.d.rc, .slice ot.d.lo ot.ts.length ot.d.lc]) (L' := (.obj g105 (.cells (ot.d.cells ot.ts.length).toArray 31) :: [])) hA hM rfl rfl (m_store rfl rfl rfl (by kernel_rfl) hM 0 rfl rfl rfl) 0 rfl rfl rfl ?_
       intro w107 hM
       refine seq_do hA rfl rfl rfl (does_assign rfl) ?_
       intro a hA
       refine seq_end ?_
       refine hK100 _ _ ?_
       refine wp_seq_k (fun K108 hK108 => ?_)
       have q1 : (appS [ofS (la.map Dt.tr), ofS (lb.map Dt.tr)]).2 = 0 := by rw [← htx, ← hty, ← htxy]; exact hb44'
       have q2 : xy.tr = (appS [ofS (la.map Dt.tr), ofS (lb.map Dt.tr)]).1 := by rw [← htx, ← hty, ← htxy]
       have q3 : (appS [(appS [ofS (la.map Dt.tr), ofS (lb.map Dt.tr)]).1, ofS (lc.map Dt.tr)]).2 = 0 := by rw [← q2, ← htz, ← htle]; exact hb48'
       obtain ⟨m1, m2, m3, m4, m5⟩ := joins_math q1 q3
       rw [← q2, ← htz, ← htle] at m1 m2 m3 m4
       rw [← htx, ← hty, ← htyz] at m2
       rw [← htri] at m2
       rw [← htx, ← hty, ← htal] at m3
       rw [← q2, ← htrr, ← htx, ← hty, ← htrx, ← htry] at m5
       rw [← htot] at m5
       simp only [List.length_map] at m1 m4
       rw [show ((la.length : Int) + (lb.length : Int)) = ((la.length + lb.length : Nat) : Int) by omega, ← httl] at m1 m4
       simp only at m1 m2 m3 m4 m5
       refine wp_region_lit ?_
       refine seq_do hA rfl rfl rfl (does_move rfl) ?_
       intro a hA
       refine seq_do (v := .bool true) hA rfl rfl rfl (does_bin rfl rfl (fun w => (bin_eql w).trans (by rw [show ((ktl == 0)) = true from (beq_iff_eq.2 m1)]))) ?_
       intro a hA
       refine seq_do hA rfl rfl rfl (does_move rfl) ?_
       intro a hA
       refine seq_do hA rfl rfl rfl (m_loadHS hM hHg37 LiJ_isS_31 rfl rfl) ?_
       intro a hA
       refine seq_do hA rfl rfl rfl (m_loadHS hM hHg65 LiJ_isS_31 rfl rfl) ?_
       intro a hA
       refine seq_call hA rfl rfl rfl (enters_func rfl rfl (fun w => by kernel_rfl)) ((((sameT_eq le.tr ri.tr).2 m2) ▸ rsames_all (le.tr.bulk + 1) (t := le) (u := ri) (Nat.lt_succ_self _) (Dt.keep hM.bel _ hrle) (Dt.keep hM.bel _ hrri))) ?_
       rintro _ w110 ⟨rfl, hb109⟩
       replace hM := hM.call hb109
       refine ⟨_, rfl, ?_⟩
       intro a hA
       refine seq_do (v := .bool true) hA rfl rfl rfl (does_pick rfl rfl rfl rfl) ?_
       intro a hA
       refine seq_do hA rfl rfl rfl (does_move rfl) ?_
       intro a hA
       refine seq_do hA rfl rfl rfl (m_loadHS hM hHg37 LiJ_isS_31 rfl rfl) ?_
       intro a hA
       refine seq_do hA rfl rfl rfl (m_loadHS hM hHg73 LiJ_isS_31 rfl rfl) ?_
       intro a hA
       refine seq_call hA rfl rfl rfl (enters_func rfl rfl (fun w => by kernel_rfl)) ((((sameT_eq le.tr al.tr).2 m3) ▸ rsames_all (le.tr.bulk + 1) (t := le) (u := al) (Nat.lt_succ_self _) (Dt.keep hM.bel _ hrle) (Dt.keep hM.bel _ hral))) ?_
       rintro _ w112 ⟨rfl, hb111⟩
       replace hM := hM.call hb111
       refine ⟨_, rfl, ?_⟩
       intro a hA
       refine seq_do (v := .bool true) hA rfl rfl rfl (does_pick rfl rfl rfl rfl) ?_
       intro a hA
       refine seq_do hA rfl rfl rfl (does_move rfl) ?_
       intro a hA
       refine seq_do hA rfl rfl rfl (m_loadHS hM hHg79 LiJ_isS_31 rfl rfl) ?_
       intro a hA
       refine seq_do hA rfl rfl rfl (m_loadHS hM hHg19 LiJ_isS_31 rfl rfl) ?_
       intro a hA
       refine seq_call hA rfl rfl rfl (enters_func rfl rfl (fun w => by kernel_rfl)) ((((sameT_eq tl.tr z.tr).2 m4) ▸ rsames_all (tl.tr.bulk + 1) (t := tl) (u := z) (Nat.lt_succ_self _) (Dt.keep hM.bel _ hrtl) (Dt.keep hM.bel _ hrz))) ?_
       rintro _ w114 ⟨rfl, hb113⟩
       replace hM := hM.call hb113
       refine ⟨_, rfl, ?_⟩
       intro a hA
       refine seq_do (v := .bool true) hA rfl rfl rfl (does_pick rfl rfl rfl rfl) ?_
       intro a hA
       refine seq_do hA rfl rfl rfl (does_move rfl) ?_
       intro a hA
       refine seq_do hA rfl rfl rfl (m_loadHS hM hHg85 LiJ_isS_31 rfl rfl) ?_
       intro a hA
       refine seq_do hA rfl rfl rfl (m_loadS hM LiJ_isS_31 rfl 0 rfl (cs := [.int .i64 ot.d.k, .int .i64 ot.d.n, .bool ot.d.y.q.b1, .slice ot.d.y.o1 ot.d.y.q.t1.length ot.d.y.c1, .slice ot.d.y.o2 ot.d.y.q.q1.length ot.d.y.c2, .bool ot.d.y.q.b2, .slice ot.d.y.o3 ot.d.y.q.t2.length ot.d.y.c3, .slice ot.d.y.o4 ot.d.y.q.q2.length ot.d.y.c4, .string ot.d.s, .slice ot.d.ro ot.d.rl.length ot.d.rc, .slice ot.d.lo ot.ts.length ot.d.lc]) rfl rfl) ?_
       intro a hA
       refine seq_call hA rfl rfl rfl (enters_func rfl rfl (fun w => by kernel_rfl)) ((((sameT_eq rr.tr ot.tr).2 m5) ▸ rsames_all (rr.tr.bulk + 1) (t := rr) (u := ot) (Nat.lt_succ_self _) (Dt.keep hM.bel _ hrrr) (Dt.keep hM.bel _ hrot))) ?_
       rintro _ w116 ⟨rfl, hb115⟩
       replace hM := hM.call hb115
       refine ⟨_, rfl, ?_⟩
       intro a hA
       refine seq_do (v := .bool true) hA rfl rfl rfl (does_pick rfl rfl rfl rfl) ?_
       intro a hA
       refine seq_do hA rfl rfl rfl (does_assign rfl) ?_
       intro a hA
       refine seq_end ?_
       refine hK108 _ _ ?_
       refine wp_ret ?_
       refine hret _ _ ?_
       refine ends (v := .bool true) hA rfl (.cons (res_tmp rfl) .nil) rfl ?_
       exact ⟨rfl, hB13.trans (hM.bel.mono hB13.size)⟩
end Go.Proofs.YtbnjomifogjdfaaDoor.G
namespace Go.Proofs.YtbnjomifogjdfaaDoor
set_option linter.unusedVariables false

section
variable {H : Type}
theorem bulk_pos (d : DataW H) : 0 < Rows.uptoBulk d := by
  unfold Rows.uptoBulk
  split <;> omega
theorem bulk_len : ∀ l : List (DataW H), l.length ≤ Rows.uptoBulkAll l
  | [] => by simp
  | d :: l => by
    have h1 := bulk_pos d
    have h2 := bulk_len l
    simp only [Rows.uptoBulkAll, List.length_cons]
    omega
theorem bulk_row (xs ys : List (DataW H)) : xs.length ≤ Rows.uptoBulk (.slice xs ys) := by
  have := bulk_len xs
  simp only [Rows.uptoBulk]
  omega
theorem bulk_in {d : DataW H} : ∀ {l : List (DataW H)}, d ∈ l → Rows.uptoBulk d ≤ Rows.uptoBulkAll l
  | c :: l, h => by
    simp only [Rows.uptoBulkAll]
    rcases List.mem_cons.1 h with rfl | h
    · omega
    · have := bulk_in h
      omega
theorem bulk_at {l : List (DataW H)} (hk : Rows.uptoSmall H l = true) {j : Nat} {d : DataW H} (hd : l[j]? = some d) : Rows.uptoBulk d ≤ 1048576 :=
  Nat.le_trans (bulk_in (List.mem_of_getElem? hd)) (of_decide_eq_true hk)
end
end Go.Proofs.YtbnjomifogjdfaaDoor
namespace Go.Proofs.YtbnjomifogjdfaaDoor.G
open Go.ChangeShapes Go.WideShapes Go.ChangeAt Go.RowKit Go.Joins Go.Deep
set_option linter.unusedVariables false
set_option linter.unusedSimpArgs false
set_option maxRecDepth 100000

section
variable {H : Type} {enc : TypeId × Value → H} {W : World}
end
end Go.Proofs.YtbnjomifogjdfaaDoor.G
namespace Go.Proofs.YtbnjomifogjdfaaDoor.G
open Go.ChangeShapes Go.WideShapes Go.ChangeAt Go.RowKit Go.Joins Go.Deep
set_option linter.unusedVariables false
set_option linter.unusedSimpArgs false
set_option maxRecDepth 100000

theorem bytes_row {w : World} {x : Addr} {len cap : Nat} {zs : List Int} (hl : len ≤ cap) (hz : zs.length = cap)
    (hc : ∀ i, i < zs.length → w.cell? (x.add i) = some (.int .u8 (zs.getD i 0))) (hw : ∀ n ∈ zs, (Lit.int .u8 n).wf = true) :
    ∃ l : List UInt8, l.length = len ∧ Rb w (some x) l := by
  have hbd : ∀ n ∈ zs, 0 ≤ n ∧ n < 256 := by
    intro n hn
    have := bounds_u8 (hw n hn)
    omega
  refine ⟨(zs.take len).map b8, by rw [List.length_map, List.length_take]; omega, ⟨fun hne => ?_⟩⟩
  have hlen : ((zs.take len).map b8).length = len := by rw [List.length_map, List.length_take]; omega
  have h0 : 0 < len := by
    apply Classical.byContradiction
    intro h
    have : len = 0 := by omega
    subst this
    simp at hne
  obtain ⟨b, off, spot⟩ := x
  have hspot : spot = none := by
    have := hc 0 (by omega)
    simp only [World.cell?, Addr.add] at this
    split at this
    · cases spot with
      | none => rfl
      | some s => simp at this
    · cases this
  subst hspot
  have hcj : ∀ j, j < len → w.cell? ⟨b, off + j, none⟩ = some (.int .u8 (((((zs.take len).map b8).getD j 0).toNat : Nat) : Int)) := by
    intro j hj
    have h1 := hc j (by omega)
    rw [Addr.add_lit] at h1
    rw [h1]
    have hjz : j < zs.length := by omega
    have h2 := hbd zs[j] (List.getElem_mem hjz)
    have e1 : zs.getD j 0 = zs[j] := by simp [hjz]
    have e2 : ((zs.take len).map b8).getD j 0 = b8 zs[j] := by simp [List.getD_eq_getElem?_getD, hj, hjz]
    rw [e1, e2, b8_val h2.1 h2.2]
  refine ⟨b, off, rfl, ?_, fun j hj => hcj j (by omega)⟩
  have := hcj 0 h0
  apply Classical.byContradiction
  intro h
  simp [World.cell?, Array.getElem?_eq_none (Nat.le_of_not_lt h)] at this
section
variable {H : Type} {enc : TypeId × Value → H} {W : World}
end
theorem Rb.take {w : World} {so : Option Addr} {l : List UInt8} (h : Rb w so l) (n : Nat) : Rb w so (l.take n) := by
  refine ⟨fun hne => ?_⟩
  obtain ⟨b, off, h1, h2, h3⟩ := h.pos (fun k => hne (by rw [k]; simp))
  refine ⟨b, off, h1, h2, fun j hj => ?_⟩
  rw [List.length_take] at hj
  rw [h3 j (by omega), List.getD_eq_getElem?_getD, List.getD_eq_getElem?_getD, List.getElem?_take_of_lt (by omega)]
section
variable {P : Program} {w : World} {l : List (Nat × Value)} {dst : Option Tmp} {ty : TypeId} {pos : String} {after : Array Edge} {guard : Option (Nat × Bool)}
end
end Go.Proofs.YtbnjomifogjdfaaDoor.G
namespace Go.Proofs.YtbnjomifogjdfaaDoor.G
open Go.ChangeShapes Go.WideShapes Go.ChangeAt Go.RowKit Go.Joins Go.Deep
set_option linter.unusedVariables false
set_option linter.unusedSimpArgs false
set_option maxRecDepth 100000

def Nu.cells (y : Nu) : List Value := [.bool y.q.b1, .slice y.o1 y.q.t1.length y.c1, .slice y.o2 y.q.q1.length y.c2, .bool y.q.b2, .slice y.o3 y.q.t2.length y.c3, .slice y.o4 y.q.q2.length y.c4]
theorem cellD_lt {w : World} {b o : Nat} {v : Value} (h : w.cell? ⟨b, o, none⟩ = some v) : b < w.heap.size := by
  apply Classical.byContradiction
  intro k
  simp [World.cell?, Array.getElem?_eq_none (Nat.le_of_not_lt k)] at h
section
variable {H : Type} {enc : TypeId × Value → H} {W : World}
theorem bulk_agg (l : List (DataW H)) : Rows.uptoBulk (.agg l) = Rows.uptoBulkAll l + 1 := by simp only [Rows.uptoBulk]
theorem trodU_bytes {fuel : Nat} {v : Value} {x : DataW H × List MemPlace} (h : DataW.trod enc Tryd.prog W 0 (fun _ => true) true fuel 29 [v] = some x) : ∃ so cap l, v = .slice so (l : List UInt8).length cap ∧ Rb W so l ∧ l.length ≤ cap ∧ cap ≤ 9223372036854775807 ∧ l.length ≤ Rows.uptoBulk x.1 := by
  rcases open_ints Tryd.underlying29 Tryd.underlying5 (by kernel_rfl) h with ⟨hcs, _⟩ | ⟨x, l, c, zs, hcs, _, hl, hm, hz, hx, hcell, hwz⟩
  · simp only [List.cons.injEq, and_true] at hcs
    subst hcs
    exact ⟨none, 0, [], rfl, ⟨fun k => absurd rfl k⟩, Nat.le_refl _, by decide, Nat.zero_le _⟩
  · simp only [List.cons.injEq, and_true] at hcs
    subst hcs
    obtain ⟨us, e, ha⟩ := bytes_row hl (by simpa using hz) hcell hwz
    subst e
    subst hx
    refine ⟨_, _, us, rfl, ha, hl, hm, ?_⟩
    simp only [if_true] at hz
    refine Nat.le_trans ?_ (bulk_row _ _)
    simp only [lits, List.length_map, List.length_take, List.length_drop]
    omega
theorem trodU_words {fuel : Nat} {v : Value} {x : DataW H × List MemPlace} (h : DataW.trod enc Tryd.prog W 0 (fun _ => true) true fuel 24 [v] = some x) : ∃ ao c l, v = .slice ao (l : List Nat).length c ∧ Arg W ao c l ∧ l.length ≤ Rows.uptoBulk x.1 := by
  rcases open_ints Tryd.underlying24 Tryd.underlying68 (by kernel_rfl) h with ⟨hcs, _⟩ | ⟨x, l, c, zs, hcs, _, hl, hm, hz, hx, hcell, hwz⟩
  · cases hcs
    exact ⟨none, 0, [], rfl, arg_nil W, Nat.zero_le _⟩
  · cases hcs
    obtain ⟨us, e, ha⟩ := arg_row hl hm (by simpa using hz) hcell hwz
    subst e
    subst hx
    refine ⟨_, _, us, rfl, ha, ?_⟩
    simp only [if_true] at hz
    refine Nat.le_trans ?_ (bulk_row _ _)
    simp only [lits, List.length_map, List.length_take, List.length_drop]
    omega
theorem trodU_rat {fuel : Nat} {v0 v1 v2 : Value} {x : DataW H × List MemPlace} (h : DataW.trod enc Tryd.prog W 0 (fun _ => true) true fuel 26 [v0, v1, v2] = some x) : ∃ b o1 c1 l1 o2 c2 l2, v0 = .bool b ∧ v1 = .slice o1 (l1 : List Nat).length c1 ∧ v2 = .slice o2 (l2 : List Nat).length c2 ∧ Arg W o1 c1 l1 ∧ Arg W o2 c2 l2 ∧ l1.length + l2.length ≤ Rows.uptoBulk x.1 := by
  obtain ⟨y0, y1, y2, n, hx, _, h0, h1, h2⟩ := trod_struct3 Tryd.underlying26 h
  have e0 : Tryd.prog.cellsOf 4 = 1 := by kernel_rfl
  have e1 : Tryd.prog.cellsOf 24 = 1 := by kernel_rfl
  simp only [e0, e1, List.drop_zero, List.take_succ_cons, List.take_zero, List.drop_succ_cons] at h0 h1 h2
  obtain ⟨b, rfl⟩ := trod_bool h0
  obtain ⟨o1, c1, l1, rfl, a1, k1⟩ := trodU_words h1
  obtain ⟨o2, c2, l2, rfl, a2, k2⟩ := trodU_words h2
  refine ⟨b, o1, c1, l1, o2, c2, l2, rfl, rfl, rfl, a1, a2, ?_⟩
  rw [hx, bulk_agg]
  simp only [Rows.uptoBulkAll]
  omega
theorem trodU_num {fuel : Nat} {cs : List Value} {x : DataW H × List MemPlace} (hl : cs.length = 6) (h : DataW.trod enc Tryd.prog W 0 (fun _ => true) true fuel 28 cs = some x) :
    ∃ y : Nu, cs = y.cells ∧ y.nm W ∧ LenQ y.q ∧ y.q.t1.length + y.q.q1.length + (y.q.t2.length + y.q.q2.length) ≤ Rows.uptoBulk x.1 := by
  match cs, hl with
  | [v0, v1, v2, v3, v4, v5], _ =>
    obtain ⟨y0, y1, n, hx, _, h0, h1⟩ := trod_struct2 Tryd.underlying28 h
    have e : Tryd.prog.cellsOf 26 = 3 := by kernel_rfl
    simp only [e, List.drop_zero, List.take_succ_cons, List.take_zero, List.drop_succ_cons] at h0 h1
    obtain ⟨b1, o1, c1, l1, o2, c2, l2, rfl, rfl, rfl, a1, a2, k1⟩ := trodU_rat h0
    obtain ⟨b2, o3, c3, l3, o4, c4, l4, rfl, rfl, rfl, a3, a4, k2⟩ := trodU_rat h1
    refine ⟨⟨⟨b1, l1, l2, b2, l3, l4⟩, o1, c1, o2, c2, o3, c3, o4, c4⟩, rfl, ⟨⟨a1.rd, a1.nil, a1.caps⟩, ⟨a2.rd, a2.nil, a2.caps⟩, ⟨a3.rd, a3.nil, a3.caps⟩, ⟨a4.rd, a4.nil, a4.caps⟩⟩, ⟨a1.len, a2.len, a3.len, a4.len⟩, ?_⟩
    rw [hx, bulk_agg]
    simp only [Rows.uptoBulkAll]
    omega
/-- One datum, as it lies in a row of cells; and a list of them. -/
def OpenD (H : Type) (enc : TypeId × Value → H) (W : World) (fuel : Nat) : Prop := ∀ (cs : List Value) (x : DataW H × List MemPlace), DataW.trod enc Tryd.prog W 0 (fun _ => true) true fuel 31 cs = some x → ∃ t : Dt, cs = t.cells ∧ t.rd W ∧ t.tr.bulk ≤ Rows.uptoBulk x.1
theorem trodU_data {fuel : Nat} {v : Value} {x : DataW H × List MemPlace} (ih : ∀ n, n < fuel → OpenD H enc W n) (h : DataW.trod enc Tryd.prog W 0 (fun _ => true) true fuel 22 [v] = some x) :
    ∃ lo lc ts, v = .slice lo (ts : List Dt).length lc ∧ ts.length ≤ lc ∧ lc ≤ 9223372036854775807 ∧ Rt W lo ts ∧ (∀ t ∈ ts, t.rd W) ∧ Tr.bulks (ts.map Dt.tr) ≤ Rows.uptoBulk x.1 := by
  rcases DataW.trod_slice Tryd.underlying22 h with ⟨hcs, _⟩ | ⟨a, len, cap, elems, rest, n, hf, hcs, hx, _, hl, hm, hlen, hel, _, _⟩
  · simp only [List.cons.injEq, and_true] at hcs
    subst hcs
    exact ⟨none, 0, [], rfl, Nat.le_refl _, by decide, fun k => absurd rfl k, fun _ k => by simp at k, Nat.zero_le _⟩
  · simp only [List.cons.injEq, and_true] at hcs
    subst hcs
    rw [show Tryd.prog.cellsOf 31 = 11 from by kernel_rfl] at hel
    have each : ∀ i, ∃ t : Dt, i < len → t.rd W ∧ (∀ j v, t.cells[j]? = some v → W.cell? ((a.add (i * 11)).add j) = some v) ∧ ∃ y, elems[i]? = some y ∧ t.tr.bulk ≤ Rows.uptoBulk y.1 := by
      intro i
      by_cases hi : i < len
      · have h1 := hel i hi
        rw [List.getElem?_eq_getElem (by omega)] at h1
        obtain ⟨cs, h2, h3⟩ := Option.bind_eq_some_iff.1 h1
        obtain ⟨_, hlc, hcell⟩ := World.cells?_some h2
        obtain ⟨t, rfl, hr, hb⟩ := ih n (by omega) cs _ h3
        exact ⟨t, fun _ => ⟨hr, fun j v hj => by rw [hcell j (by have := (List.getElem?_eq_some_iff.1 hj).1; rw [hlc] at this; exact this)]; exact hj, _, List.getElem?_eq_getElem (by omega), hb⟩⟩
      · exact ⟨.mk ⟨0, 0, ⟨⟨false, [], [], false, [], []⟩, none, 0, none, 0, none, 0, none, 0⟩, ⟨#[]⟩, none, 0, [], none, 0⟩ [], fun k => absurd k hi⟩
    obtain ⟨F, hF⟩ := Classical.skolem.1 each
    have hget : ∀ (j : Nat) (q : Dt), ((List.range len).map F)[j]? = some q → j < len ∧ q = F j := by
      intro j q hq
      rw [List.getElem?_map] at hq
      obtain ⟨y, h1, h2⟩ := Option.map_eq_some_iff.1 hq
      obtain ⟨h3, h4⟩ := List.getElem?_eq_some_iff.1 h1
      rw [List.length_range] at h3
      rw [List.getElem_range] at h4
      subst h4
      exact ⟨h3, h2.symm⟩
    refine ⟨some a, cap, (List.range len).map F, by simp, by simpa using hl, hm, fun hne => ?_, fun t ht => ?_, ?_⟩
    · have hn : 0 < len := by
        apply Classical.byContradiction
        intro k
        exact hne (by rw [show len = 0 from by omega]; rfl)
      obtain ⟨b, off, spot⟩ := a
      have h0 := (hF 0 hn).2.1 0 _ rfl
      have hspot : spot = none := by simpa [Addr.add] using World.cell?_spot h0
      subst hspot
      refine ⟨b, off, rfl, fun i t hi => ?_⟩
      obtain ⟨hlt, rfl⟩ := hget i t hi
      have hat : ∀ j v, (F i).cells[j]? = some v → W.cell? ⟨b, off + i * 11 + j, none⟩ = some v := fun j v hj => by
        have := (hF i hlt).2.1 j v hj
        rwa [Addr.add_lit, Addr.add_lit] at this
      exact ⟨cellD_lt (hat 0 _ rfl), hat⟩
    · obtain ⟨j, hj⟩ := List.mem_iff_getElem?.1 ht
      obtain ⟨h1, rfl⟩ := hget j t hj
      exact (hF j h1).1
    · rw [hx]
      have key : ∀ m, m ≤ len → Tr.bulks (((List.range m).map F).map Dt.tr) ≤ Rows.uptoBulkAll ((elems.map (·.1)).take m) := by
        intro m
        induction m with
        | zero => intro _; simp [Tr.bulks]
        | succ m ih2 =>
          intro hm2
          have hs : ∀ (l : List Tr) (t : Tr), Tr.bulks (l ++ [t]) = Tr.bulks l + t.bulk := by
            intro l t
            induction l with
            | nil => simp [Tr.bulks]
            | cons u l ih3 => simp only [List.cons_append, Tr.bulks, ih3]; omega
          have hu : ∀ (l : List (DataW H)) (d : DataW H), Rows.uptoBulkAll (l ++ [d]) = Rows.uptoBulkAll l + Rows.uptoBulk d := by
            intro l d
            induction l with
            | nil => simp [Rows.uptoBulkAll]
            | cons u l ih3 => simp only [List.cons_append, Rows.uptoBulkAll, ih3]; omega
          obtain ⟨_, _, y, hy, hb⟩ := hF m (by omega)
          have := ih2 (by omega)
          rw [List.range_succ, List.map_append, List.map_append, List.take_add_one, List.getElem?_map, hy]
          simp only [List.map_cons, List.map_nil, Option.map_some, Option.toList_some]
          rw [hs, hu]
          omega
      have h1 := key len (Nat.le_refl _)
      rw [List.take_of_length_le (by rw [List.length_map]; omega)] at h1
      simp only [Rows.uptoBulk]
      omega
theorem open_dt : ∀ fuel, OpenD H enc W fuel := by
  intro fuel
  induction fuel using Nat.strongRecOn with
  | ind fuel ih =>
    intro cs x h
    obtain ⟨xs, n, hfu, hx, hl, hxl, hf⟩ := DataW.trod_struct Tryd.underlying31 h
    rw [show Tryd.prog.cellsOf 31 = 11 from by kernel_rfl] at hl
    match cs, hl with
    | [v0, v1, v2, v3, v4, v5, v6, v7, v8, v9, v10], _ =>
      match xs, hxl with
      | [x0, x1, x2, x3, x4, x5], _ =>
        have g0 := hf 0 _ rfl
        have g1 := hf 1 _ rfl
        have g2 := hf 2 _ rfl
        have g3 := hf 3 _ rfl
        have g4 := hf 4 _ rfl
        have g5 := hf 5 _ rfl
        have c1 : Tryd.prog.cellsOf 3 = 1 := by kernel_rfl
        have c2 : Tryd.prog.cellsOf 28 = 6 := by kernel_rfl
        have c3 : Tryd.prog.cellsOf 9 = 1 := by kernel_rfl
        have c4 : Tryd.prog.cellsOf 29 = 1 := by kernel_rfl
        have c5 : Tryd.prog.cellsOf 22 = 1 := by kernel_rfl
        simp only [c1, c2, c3, c4, c5, List.drop_zero, List.take_succ_cons, List.take_zero, List.drop_succ_cons, List.getElem?_cons_zero, List.getElem?_cons_succ] at g0 g1 g2 g3 g4 g5
        obtain ⟨k, e0, _, w0⟩ := DataW.trod_int Tryd.underlying3 g0
        obtain ⟨m, e1, _, w1⟩ := DataW.trod_int Tryd.underlying3 g1
        obtain ⟨y, e2, hy, hq, b2⟩ := trodU_num rfl g2
        obtain ⟨s, e3, hs, hsm⟩ := DataW.trod_string Tryd.underlying9 g3
        obtain ⟨ro, rc, rl, e4, hr, hrc, hrm, b4⟩ := trodU_bytes g4
        obtain ⟨lo, lc, ts, e5, hlc, hlm, hrt, hrd, b5⟩ := trodU_data (fun n' hn' => ih n' (by omega)) g5
        have bk := bounds_i64 w0
        have bm := bounds_i64 w1
        refine ⟨.mk ⟨k, m, y, s, ro, rc, rl, lo, lc⟩ ts, ?_, ?_, ?_⟩
        · injection e0 with f0
          injection e1 with f1
          injection e3 with f3
          injection e2 with e20 g
          injection g with e21 g
          injection g with e22 g
          injection g with e23 g
          injection g with e24 g
          injection g with e25 g
          subst f0 f1 f3 e4 e5 e20 e21 e22 e23 e24 e25
          rfl
        · rw [Dt.rd_iff]
          exact ⟨⟨hy, hq, hr, hrc, hrm, bk.1, bk.2, bm.1, bm.2, hsm⟩, hlc, hlm, hrt, hrd⟩
        · rw [Dt.tr_mk, trbulk_mk, hx, bulk_agg]
          have h3 : Rows.uptoBulk x3.1 = s.size + 1 := by
            rw [hs]
            rw [show Rows.uptoBulk (DataW.lit (H := H) (.string s.data.toList)) = s.data.toList.length + 1 from by simp only [Rows.uptoBulk], Array.length_toList]
            rfl
          simp only [List.map_cons, List.map_nil, Rows.uptoBulkAll]
          have := bulk_pos x0.1
          omega
theorem open_data {base : Nat} {v : Value} {d : DataW H} {p : List MemPlace} (hv : Value.okWide Tryd.prog W .any base 22 v) (h : DataW.Trod enc Tryd.prog W 0 (fun _ => true) true 22 v d p) :
    ∃ lo lc ts, v = .slice lo (ts : List Dt).length lc ∧ ts.length ≤ lc ∧ Rt W lo ts ∧ (∀ t ∈ ts, t.rd W) ∧ Tr.bulks (ts.map Dt.tr) ≤ Rows.uptoBulk d := by
  obtain ⟨a, n, c, rfl⟩ := okWide_slice Tryd.underlying22 hv
  obtain ⟨fuel, hf⟩ := h
  obtain ⟨lo, lc, ts, e, h1, _, h2, h3, h4⟩ := trodU_data (v := .slice a n c) (fun n _ => open_dt n) hf
  exact ⟨lo, lc, ts, e, h1, h2, h3, h4⟩
end
end Go.Proofs.YtbnjomifogjdfaaDoor.G
