/- What is reached from roots, and when a list of handles is just that. -/
import Derived.Test.YtcigofjajphmjaaHc
namespace Go.Proofs.Ytcigofjajphmjaa
open Go.RowKit
set_option linter.unusedVariables false
set_option linter.unusedSimpArgs false

/-- A root, or named by what is reached. -/
inductive Rc (os : List Ob) (rs : List Int) : Int → Prop where
  | root {x : Int} : x ∈ rs → x ≠ 0 → Rc os rs x
  | ref {x y : Int} {o : Ob} : Rc os rs x → fO x os = some o → (y, true) ∈ o.ws → y ≠ 0 → Rc os rs y
/-- Every Ref names nothing or an object. -/
def Refs (os : List Ob) : Prop := ∀ o ∈ os, ∀ c ∈ o.ws, c.2 = true → c.1 = 0 ∨ (fO c.1 os).isSome = true
structure Vs (os : List Ob) (rs ws : List Int) : Prop where
  nd : ws.Nodup
  nz : (0 : Int) ∉ ws
  ob : ∀ x ∈ ws, (fO x os).isSome = true
  rc : ∀ x ∈ ws, Rc os rs x
theorem vis_mem {ws : List Int} {x y : Int} : y ∈ vis ws x ↔ y ∈ ws ∨ (y = x ∧ x ≠ 0) := by
  unfold vis
  split
  · rename_i h
    rw [List.mem_append, List.mem_singleton]
    constructor
    · rintro (k | k)
      · exact .inl k
      · exact .inr ⟨k, h.1⟩
    · rintro (k | k)
      · exact .inl k
      · exact .inr k.1
  · rename_i h
    constructor
    · exact .inl
    · rintro (k | ⟨rfl, k⟩)
      · exact k
      · apply Classical.byContradiction
        intro q
        exact h ⟨k, q⟩
theorem vis_pre (ws : List Int) (x : Int) : ∃ t, vis ws x = ws ++ t := by
  unfold vis
  split
  · exact ⟨[x], rfl⟩
  · exact ⟨[], by simp⟩
theorem vis_at {ws : List Int} {x z : Int} {i : Nat} (h : ws[i]? = some z) : (vis ws x)[i]? = some z := by
  obtain ⟨t, ht⟩ := vis_pre ws x
  rw [ht, List.getElem?_append_left (List.getElem?_eq_some_iff.1 h).1, h]
theorem vis_le (ws : List Int) (x : Int) : ws.length ≤ (vis ws x).length := by
  obtain ⟨t, ht⟩ := vis_pre ws x
  rw [ht, List.length_append]
  omega
variable {os : List Ob} {rs ws : List Int}
theorem Vs.nil : Vs os rs [] := ⟨List.nodup_nil, by simp, by simp, by simp⟩
theorem Vs.vis (h : Vs os rs ws) {x : Int} (hx : x = 0 ∨ (fO x os).isSome = true) (hr : x ≠ 0 → Rc os rs x) : Vs os rs (vis ws x) := by
  refine ⟨?_, fun k => ?_, fun y hy => ?_, fun y hy => ?_⟩
  · unfold Ytcigofjajphmjaa.vis
    split
    · rename_i k
      exact List.nodup_append.2 ⟨h.nd, by simp, fun a ha b hb e => by rw [List.mem_singleton] at hb; subst hb; subst e; exact k.2 ha⟩
    · exact h.nd
  · rcases vis_mem.1 k with k | ⟨k, k2⟩
    · exact h.nz k
    · exact k2 k.symm
  · rcases vis_mem.1 hy with k | ⟨rfl, k⟩
    · exact h.ob y k
    · exact hx.resolve_left k
  · rcases vis_mem.1 hy with k | ⟨rfl, k⟩
    · exact h.rc y k
    · exact hr k
theorem nodup_le : ∀ (a b : List Int), a.Nodup → (∀ x ∈ a, x ∈ b) → a.length ≤ b.length
  | [], _, _, _ => Nat.zero_le _
  | x :: t, b, hn, hs => by
    obtain ⟨h1, h2⟩ := List.nodup_cons.1 hn
    have hx := hs x (by simp)
    have ih := nodup_le t (b.erase x) h2 (fun y hy => (List.mem_erase_of_ne (fun e : y = x => h1 (by rw [← e]; exact hy))).2 (hs y (by simp [hy])))
    rw [List.length_erase_of_mem hx] at ih
    have : 0 < b.length := List.length_pos_of_mem hx
    simp only [List.length_cons]
    omega
theorem Vs.len (h : Vs os rs ws) : ws.length ≤ os.length := by
  have := nodup_le ws (os.map fun o => ((o.x : Nat) : Int)) h.nd (fun x hx => by
    obtain ⟨o, ho⟩ := Option.isSome_iff_exists.1 (h.ob x hx)
    obtain ⟨h1, h2⟩ := fO_mem ho
    exact List.mem_map.2 ⟨o, h1, h2⟩)
  simpa using this
/-- So many of a list are looked at: what they name is there. -/
def Shut (os : List Ob) (ws : List Int) (i : Nat) : Prop := ∀ k x o, k < i → ws[k]? = some x → fO x os = some o → ∀ y, (y, true) ∈ o.ws → y ≠ 0 → y ∈ ws
theorem Shut.more {i : Nat} (h : Shut os ws i) (hi : i ≤ ws.length) (x : Int) : Shut os (Ytcigofjajphmjaa.vis ws x) i := by
  intro k z o hk hz ho y hy hy0
  obtain ⟨t, ht⟩ := vis_pre ws x
  rw [ht, List.getElem?_append_left (by omega)] at hz
  exact vis_mem.2 (.inl (h k z o hk hz ho y hy hy0))
theorem reach_all (h : Vs os rs ws) (hr : ∀ r ∈ rs, r ≠ 0 → r ∈ ws) (hs : Shut os ws ws.length) (x : Int) : x ∈ ws ↔ Rc os rs x := by
  refine ⟨h.rc x, fun k => ?_⟩
  induction k with
  | root h1 h2 => exact hr _ h1 h2
  | ref h1 h2 h3 h4 ih =>
    obtain ⟨i, hi⟩ := List.mem_iff_getElem?.1 ih
    exact hs i _ _ (List.getElem?_eq_some_iff.1 hi).1 hi h2 _ h3 h4
/-- A row of an object among the pieces. -/
theorem row_mem {o : Ob} (h : o ∈ os) (C X : List Ck) : o.row ∈ C ++ (os.map Ob.row ++ X) := by
  simp only [List.mem_append, List.mem_map]
  exact .inr (.inl ⟨o, h, rfl⟩)
theorem row_in {o : Ob} (h : o ∈ os) {L X : List Ck} (n : Nat) (hL : L.drop n = os.map Ob.row ++ X) : o.row ∈ L := by
  have : o.row ∈ L.drop n := by rw [hL]; simp only [List.mem_append, List.mem_map]; exact .inl ⟨o, h, rfl⟩
  exact List.mem_of_mem_drop this
theorem take_ref {o : Ob} {ws : List Int} {j : Nat} {z : Int} {b : Bool} (hj : o.ws[j]? = some (z, b)) (h : ∀ y, (y, true) ∈ o.ws.take j → y ≠ 0 → y ∈ ws) (hz : b = true → z ≠ 0 → z ∈ ws) : ∀ y, (y, true) ∈ o.ws.take (j + 1) → y ≠ 0 → y ∈ ws := by
  intro y hy h0
  rw [List.take_add_one, hj] at hy
  rcases List.mem_append.1 hy with k | k
  · exact h y k h0
  · simp at k
    obtain ⟨rfl, rfl⟩ := k
    exact hz rfl h0
theorem take_root {ws : List Int} {i : Nat} {z : Int} (hz : rs[i]? = some z) (h : ∀ r ∈ rs.take i, r ≠ 0 → r ∈ ws) : ∀ r ∈ rs.take (i + 1), r ≠ 0 → r ∈ vis ws z := by
  intro r hr h0
  rw [List.take_add_one, hz] at hr
  rcases List.mem_append.1 hr with k | k
  · exact vis_mem.2 (.inl (h r k h0))
  · simp at k
    subst k
    exact vis_mem.2 (.inr ⟨rfl, h0⟩)
theorem Shut.next {i : Nat} {z : Int} {o : Ob} (h : Shut os ws i) (hz : ws[i]? = some z) (ho : fO z os = some o) (hc : ∀ y, (y, true) ∈ o.ws → y ≠ 0 → y ∈ ws) : Shut os ws (i + 1) := by
  intro k x q hk hx hq y hy h0
  by_cases e : k = i
  · subst e
    rw [hz] at hx
    cases hx
    rw [ho] at hq
    cases hq
    exact hc y hy h0
  · exact h k x q (by omega) hx hq y hy h0
section
variable {P : Program} {w0 w : World} {L : List Ck} {l : List (Nat × Value)} {dst : Option Tmp} {ty : TypeId} {pos : String} {after : Array Edge} {guard : Option (Nat × Bool)} {v : Value}
theorem m_ldW (hM : Mg w0 w L) {o : Ob} (hm : o.row ∈ L) {i : Nat} {z : Int} {b : Bool} (hi : o.ws[i]? = some (z, b)) {t : TypeId} (ht : IsS P t 2) {x : Operand} (hx : ev l x = some (.pointer (some ⟨o.g, i * 2, none⟩))) : Does P l ⟨dst, .load t x, ty, pos, after, guard⟩ w (.agg #[.int .i64 z, .bool b]) w := by
  obtain ⟨k, hk⟩ := List.mem_iff_getElem?.1 hm
  exact m_loadES hM k hk ht (cellC_at hi) rfl hx
theorem does_fld {t : TypeId} {x : Operand} {f off : Nat} {cs : List Value} (ht : ∃ fs fld, P.underlying t = some (.struct fs) ∧ fs[f]? = some fld ∧ fld.offset = off ∧ Is1 P fld.type) (hx : ev l x = some (.agg cs.toArray)) (hc : cs[off]? = some v) : Does P l ⟨dst, .field t x f, ty, pos, after, guard⟩ w v w := fun ρ h => by
  obtain ⟨fs, fld, hu, hf, ho, h1⟩ := ht
  obtain ⟨d, hu1, hd⟩ := h1.und
  have h2 : (isAgg fld.type).run P w = .ok false w := by
    cases d <;> first | (simp at hd; done) | simp [isAgg, run_underlying hu1]
  simp [execOp, h x _ hx, Instr.field, run_underlying hu, hf, part, asAgg, h2, ho, hc]
end
end Go.Proofs.Ytcigofjajphmjaa
