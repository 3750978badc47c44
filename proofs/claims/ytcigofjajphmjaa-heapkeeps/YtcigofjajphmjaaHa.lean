/- The heap's parts as cells: gaps, words, objects. -/
import Derived.Test.YtcigofjajphmjaaMm
namespace Go.Proofs.Ytcigofjajphmjaa
open Go.RowKit
set_option linter.unusedVariables false
set_option linter.unusedSimpArgs false

/-- Gaps as cells. -/
def gapC : List (Nat × Nat) → List Value
  | [] => []
  | (p, s) :: t => .int .i64 ((p : Nat) : Int) :: .int .i64 ((s : Nat) : Int) :: gapC t
theorem gapC_len : ∀ gs : List (Nat × Nat), (gapC gs).length = gs.length * 2
  | [] => rfl
  | (p, s) :: t => by simp only [gapC, List.length_cons, gapC_len t]; omega
theorem gapC_at : ∀ {gs : List (Nat × Nat)} {i p s : Nat}, gs[i]? = some (p, s) → ((gapC gs).drop (i * 2)).take 2 = [.int .i64 ((p : Nat) : Int), .int .i64 ((s : Nat) : Int)]
  | [], _, _, _, h => by simp at h
  | (a, b) :: t, 0, p, s, h => by simp at h; obtain ⟨rfl, rfl⟩ := h; rfl
  | (a, b) :: t, i + 1, p, s, h => by
    have := gapC_at (gs := t) (i := i) (p := p) (s := s) (by simpa using h)
    rw [show (i + 1) * 2 = i * 2 + 1 + 1 from by omega]
    exact this
theorem over_cons (c : Value) : ∀ (cs vs : List Value) (o : Nat), over (c :: vs) (o + 1) cs = c :: over vs o cs
  | [], _, _ => rfl
  | a :: cs, vs, o => by simp only [over, List.set_cons_succ]; exact over_cons c cs _ (o + 1)
theorem gapC_set : ∀ {gs : List (Nat × Nat)} {i : Nat} (p s : Nat), i < gs.length → over (gapC gs) (i * 2) [.int .i64 ((p : Nat) : Int), .int .i64 ((s : Nat) : Int)] = gapC (gs.set i (p, s))
  | [], i, _, _, h => by simp at h
  | (a, b) :: t, 0, p, s, h => rfl
  | (a, b) :: t, i + 1, p, s, h => by
    rw [show (i + 1) * 2 = (i * 2 + 1) + 1 from by omega]
    simp only [gapC, List.set_cons_succ]
    rw [over_cons, over_cons, gapC_set p s (by simpa using h)]
theorem gapC_one (gs : List (Nat × Nat)) : ∀ v ∈ gapC gs, v.oneCell' = true := by
  induction gs with
  | nil => intro v h; cases h
  | cons g t ih =>
    obtain ⟨p, s⟩ := g
    intro v h
    simp only [gapC, List.mem_cons] at h
    rcases h with rfl | rfl | h
    · rfl
    · rfl
    · exact ih v h
theorem gapC_append (a b : List (Nat × Nat)) : gapC (a ++ b) = gapC a ++ gapC b := by
  induction a with
  | nil => rfl
  | cons g t ih => obtain ⟨p, s⟩ := g; simp only [List.cons_append, gapC, ih]
/-- The first gap that is wide enough. -/
def idxG (n : Nat) : List (Nat × Nat) → Option Nat
  | [] => none
  | g :: t => if n ≤ g.2 then some 0 else (idxG n t).map (· + 1)
def idxZ (n : Nat) (gs : List (Nat × Nat)) : Int := match idxG n gs with | none => -1 | some i => ((i : Nat) : Int)
theorem idxG_hit {n : Nat} : ∀ {gs : List (Nat × Nat)} {i p s : Nat}, (∀ (j : Nat) (g : Nat × Nat), j < i → gs[j]? = some g → ¬ n ≤ g.2) → gs[i]? = some (p, s) → n ≤ s → idxG n gs = some i
  | [], _, _, _, _, h, _ => by simp at h
  | g :: t, 0, p, s, _, h, hs => by simp at h; subst h; simp [idxG, hs]
  | g :: t, i + 1, p, s, hb, h, hs => by
    simp only [idxG]
    rw [if_neg (hb 0 g (by omega) rfl), idxG_hit (i := i) (fun j q hj hq => hb (j + 1) q (by omega) (by simpa using hq)) (by simpa using h) hs]
    rfl
theorem idxG_miss {n : Nat} : ∀ {gs : List (Nat × Nat)}, (∀ (j : Nat) (g : Nat × Nat), gs[j]? = some g → ¬ n ≤ g.2) → idxG n gs = none
  | [], _ => rfl
  | g :: t, hb => by
    simp only [idxG]
    rw [if_neg (hb 0 g rfl), idxG_miss (fun j q hq => hb (j + 1) q (by simpa using hq))]
    rfl
theorem idxG_at {n : Nat} : ∀ {gs : List (Nat × Nat)} {i : Nat}, idxG n gs = some i → ∃ p s, gs[i]? = some (p, s) ∧ n ≤ s
  | [], _, h => by cases h
  | g :: t, i, h => by
    simp only [idxG] at h
    by_cases k : n ≤ g.2
    · rw [if_pos k] at h; cases h; exact ⟨g.1, g.2, rfl, k⟩
    · rw [if_neg k] at h
      obtain ⟨j, hj, rfl⟩ := Option.map_eq_some_iff.1 h
      obtain ⟨p, s, h1, h2⟩ := idxG_at hj
      exact ⟨p, s, by simpa using h1, h2⟩
/-- Words as cells. -/
def cellC : List (Int × Bool) → List Value
  | [] => []
  | (z, b) :: t => .int .i64 z :: .bool b :: cellC t
theorem cellC_len : ∀ ws : List (Int × Bool), (cellC ws).length = ws.length * 2
  | [] => rfl
  | (z, b) :: t => by simp only [cellC, List.length_cons, cellC_len t]; omega
theorem cellC_at : ∀ {ws : List (Int × Bool)} {i : Nat} {z : Int} {b : Bool}, ws[i]? = some (z, b) → ((cellC ws).drop (i * 2)).take 2 = [.int .i64 z, .bool b]
  | [], _, _, _, h => by simp at h
  | (a, c) :: t, 0, z, b, h => by simp at h; obtain ⟨rfl, rfl⟩ := h; rfl
  | (a, c) :: t, i + 1, z, b, h => by
    have := cellC_at (ws := t) (i := i) (z := z) (b := b) (by simpa using h)
    rw [show (i + 1) * 2 = i * 2 + 1 + 1 from by omega]
    exact this
theorem cellC_set : ∀ {ws : List (Int × Bool)} {i : Nat} (z : Int) (b : Bool), i < ws.length → over (cellC ws) (i * 2) [.int .i64 z, .bool b] = cellC (ws.set i (z, b))
  | [], i, _, _, h => by simp at h
  | (a, c) :: t, 0, z, b, h => rfl
  | (a, c) :: t, i + 1, z, b, h => by
    rw [show (i + 1) * 2 = (i * 2 + 1) + 1 from by omega]
    simp only [cellC, List.set_cons_succ]
    rw [over_cons, over_cons, cellC_set z b (by simpa using h)]
theorem cellC_append (a b : List (Int × Bool)) : cellC (a ++ b) = cellC a ++ cellC b := by
  induction a with
  | nil => rfl
  | cons g t ih => obtain ⟨p, s⟩ := g; simp only [List.cons_append, cellC, ih]
theorem cellC_made : ∀ n : Nat, (madeCells #[.int .i64 0, .bool false] (n * 2)).toList = cellC (List.replicate n (0, false)) := by
  intro n
  unfold madeCells
  rw [Array.toList_map, Array.toList_range]
  induction n with
  | zero => rfl
  | succ n ih =>
    rw [show (n + 1) * 2 = n * 2 + 1 + 1 from by omega, List.range_succ, List.range_succ, List.map_append, List.map_append, ih, List.replicate_succ', cellC_append]
    have h0 : n * 2 % 2 = 0 := by omega
    have h1 : (n * 2 + 1) % 2 = 1 := by omega
    simp [cellC, h0, h1]
/-- An object: its handle, its place, the block of its words, their room, its words. -/
structure Ob where
  x : Nat
  p : Nat
  g : Nat
  c : Nat
  ws : List (Int × Bool)
def Ob.sl (o : Ob) : Value := .slice (some ⟨o.g, 0, none⟩) o.ws.length o.c
def Ob.v (o : Ob) : Value := .agg #[.int .i64 ((o.p : Nat) : Int), o.sl]
def Ob.en (o : Ob) : En := ⟨((o.x : Nat) : Int), o.v, o.x - 1⟩
def Ob.row (o : Ob) : Ck := .row 32 2 o.sl o.ws.length (cellC o.ws)
/-- The object of a handle. -/
def fO (z : Int) : List Ob → Option Ob
  | [] => none
  | o :: os => if ((o.x : Nat) : Int) = z then some o else fO z os
theorem atK_en (z : Int) : ∀ os : List Ob, atK z (os.map Ob.en) = (fO z os).map Ob.en
  | [] => rfl
  | o :: os => by
    simp only [List.map_cons, atK, fO]
    by_cases h : ((o.x : Nat) : Int) = z
    · rw [if_pos (show o.en.k = z from h), if_pos h]; rfl
    · rw [if_neg (show ¬ o.en.k = z from h), if_neg h, atK_en z os]
theorem fO_mem {z : Int} : ∀ {os : List Ob} {o : Ob}, fO z os = some o → o ∈ os ∧ ((o.x : Nat) : Int) = z
  | [], _, h => by cases h
  | a :: os, o, h => by
    simp only [fO] at h
    by_cases k : ((a.x : Nat) : Int) = z
    · rw [if_pos k] at h; cases h; exact ⟨by simp, k⟩
    · rw [if_neg k] at h; obtain ⟨h1, h2⟩ := fO_mem h; exact ⟨by simp [h1], h2⟩
theorem fO_none {z : Int} : ∀ {os : List Ob}, (∀ o ∈ os, ((o.x : Nat) : Int) ≠ z) → fO z os = none
  | [], _ => rfl
  | a :: os, h => by
    simp only [fO]
    rw [if_neg (h a (by simp)), fO_none fun o ho => h o (by simp [ho])]
section
variable {P : Program} {w0 w : World} {L : List Ck} {l : List (Nat × Value)} {ops : List Oper} {Q : Exit → Act → World → Prop} {a : Act} {n : Nat} {o : Oper} {d : Nat} {S : World → Prop} {md : Region.Mode} {fuel : Nat} {listed : Array Bool}
/-- A row is made, in a region that draws its order. -/
theorem g_makeE (hA : Sl a n l) (hM : Mg w0 w L) {t e ty : TypeId} {z : Value} {sz by_ : Nat} {dst : Option Tmp} {pos : String} {after : Array Edge} {guard : Option (Nat × Bool)} (ht : P.underlying t = some (.slice e)) (hinfo : (P.info? e).map (fun i => (i.zero, i.size, i.bytes)) = some (some z, sz, by_)) {x y : Operand} {m : Nat} (hx : ev l x = some (.int .i64 ((m : Nat) : Int))) (hy : ev l y = some (.int .i64 ((m : Nat) : Int))) (ho : o = ⟨dst, .makeSlice t x y, ty, pos, after, guard⟩) (i : Nat) (hi : ops[i]? = some o) (hg : passes l ops o = true) (hdst : o.dst = some d) (hd : Nat.blt d n = true) (hb : by_ * m ≤ 281474976710656) (h63 : m ≤ 9223372036854775807) (hnb : e ≠ BY ∨ noBld L)
    (hk : ∀ g w', Mg w0 w' (.row e sz (.slice (some ⟨g, 0, none⟩) m m) m (madeCells z.cells (m * sz)).toList :: L) → S w' ∧ ∀ a', Sl a' n ((d, .slice (some ⟨g, 0, none⟩) m m) :: l) → wpAnyH P md ops.toArray Q S fuel (listed.setIfInBounds i true) a' w') : wpOp P ops.toArray Q i (fun a' w' => S w' ∧ wpAnyH P md ops.toArray Q S fuel (listed.setIfInBounds i true) a' w') a w := by
  subst ho
  obtain ⟨i0, hi0, hzz⟩ := Option.map_eq_some_iff.1 hinfo
  simp only [Prod.mk.injEq] at hzz
  obtain ⟨hz, hs, hbb⟩ := hzz
  obtain ⟨w', hr, hown, hgr⟩ := run_make_full (P := P) (w := w) w0.heap.size t e i0 z sz ht hi0 hz hs .i64 .i64 m (by rw [hbb]; exact hb) (by unfold maxLen; omega) hM.bel.size
  have hbel : Below w.heap.size w w' := ⟨hgr.os, hgr.tape, hgr.output, hgr.size, fun k hk => hgr.block k hk (by simp)⟩
  have h := hk w.heap.size w' (hM.add hbel hown (fun k e => by simp [Ck.at_, Value.ownBlock] at e; omega) (.inr (.inl ⟨_, _, _, _, _, rfl, hnb⟩)))
  refine op_do hA i hi hg hdst hd (v := .slice (some ⟨w.heap.size, 0, none⟩) m m) (w' := w') (fun ρ h => ?_) h.1 h.2
  simp only [execOp, h x _ hx, h y _ hy, Sem.run_bind, hr, Result.andThen_ok, Sem.run_pure]
end
end Go.Proofs.Ytcigofjajphmjaa
