/- Ld Ta Qs RdL RdM ShelfH RdN RdO Le Lf Lg Qp RdP RdC RdQ Qo RdR RdS RdT RdU RdV RdW -/
import Derived.Test.YtclkfideaameoaaGreatDoorPdatumb11h
import Derived.Shelf.Strings.Builder1
import Derived.Shelf.Small.Utf8
import Derived.Shelf.Small.Bits
import Derived.Shelf.Small.Strs
import Derived.Shelf.Small.Wraps
import Derived.Shelf.Strings.BuilderF
import Derived.Shelf.Strings.BuilderK
import Derived.Shelf.Strings.BuilderRune
import Derived.Shelf.Utf8.AppendRunePlain
import Derived.Shelf.Utf8.RuneCount
import Derived.Shelf.Strconv.Itoa0
import Derived.Shelf.Strconv.Itoa1
import Derived.Shelf.LaysM
import Derived.Shelf.Strconv.Itoa2
import Derived.Shelf.Strconv.Itoa3
import Derived.Shelf.Strconv.Clone
import Derived.Shelf.Strconv.SyntaxError
import Derived.Shelf.LaysC
import Derived.Shelf.Strconv.ToError
import Derived.Shelf.Strconv.Lower
import Derived.Shelf.Strconv.RangeError
import Derived.Shelf.Strconv.ToErrorRange
import Derived.Shelf.Strings.Search1
import Derived.Shelf.Strings.Search2
import Derived.Shelf.Strings.Cut
import Derived.Shelf.Strings.Shaped
import Derived.Shelf.Strings.Prefix
import Derived.Shelf.Strings.Runes
import Derived.Shelf.Strings.IndexAny
import Derived.Shelf.Strings.AsciiSet
import Derived.Shelf.Strings.IndexAnyAll
import Derived.Shelf.Unicode.DecodeSlow
import Derived.Shelf.Unicode.DecodeAny
import Derived.Test.YtclkfideaameoaaGreatDoorProg
import Derived.Test.YtclkfideaameoaaGreatDoorPdatumb11e
import Derived.RangeFuncNested
import Derived.RangeFuncLeaves
import Derived.LoopNIn
import Derived.Test.YtclkfideaameoaaGreatDoorArith
set_option linter.unusedVariables false
set_option linter.unusedSimpArgs false
set_option maxHeartbeats 1000000
namespace Go.Proofs.YtclkfideaameoaaGreatDoor.G
open Go.RowKit
def zja : Dt := .mk ⟨1, 0, ⟨Q6.zero, none, 0, none, 0, none, 0, none, 0⟩, ⟨#[]⟩, none, 0, [], none, 0⟩ []
def qed : Dt := .mk ⟨0, 0, ⟨Q6.zero, none, 0, none, 0, none, 0, none, 0⟩, ⟨#[]⟩, none, 0, [], none, 0⟩ []
def nilT : Tr := .mk 1 0 Q6.zero ⟨#[]⟩ [] []
def kb : Tr := .mk 0 0 Q6.zero ⟨#[]⟩ [] []
theorem zfj : zja.tr = nilT := by unfold zja nilT; rw [Dt.tr_mk]; rfl
theorem yt : qed.tr = kb := by unfold qed kb; rw [Dt.tr_mk]; rfl
theorem yu : LenQ Q6.zero := ⟨by decide, by decide, by decide, by decide⟩
theorem zga (w : World) (k : Int) (h0 : -9223372036854775808 ≤ k) (h1 : k ≤ 9223372036854775807) : (Dt.mk ⟨k, 0, ⟨Q6.zero, none, 0, none, 0, none, 0, none, 0⟩, ⟨#[]⟩, none, 0, [], none, 0⟩ []).rd w :=
  Dt.rd_iff.2 ⟨⟨⟨Sc.none w, Sc.none w, Sc.none w, Sc.none w⟩, yu, ⟨fun h => absurd rfl h⟩, Nat.le_refl _, by show (0 : Nat) ≤ _; omega, h0, h1, by show (-9223372036854775808 : Int) ≤ 0; omega, by show (0 : Int) ≤ 9223372036854775807; omega, by show (0 : Nat) ≤ _; omega⟩, Nat.le_refl _, by show (0 : Nat) ≤ _; omega, fun h => absurd rfl h, fun t h => by cases h⟩
theorem qii (w : World) : zja.rd w := zga w 1 (by decide) (by decide)
theorem yv (w : World) : qed.rd w := zga w 0 (by decide) (by decide)
def yw : List Tr → Tr → Tr
  | [], z => z
  | t :: ts, z => .mk 8 0 Q6.zero ⟨#[]⟩ [] [t, yw ts z]
theorem jja (t : Dt) : t.tr.k = t.d.k := by cases t; rw [Dt.tr_mk]; rfl
theorem jgb {w : World} {so : Option Addr} {ts : List Dt} (hR : Rt w so ts) (hD : ∀ t ∈ ts, t.rd w) {i : Nat} (hi : i < ts.length) : ∃ t b o, ts[i]? = some t ∧ t ∈ ts ∧ t.rd w ∧ so = some ⟨b, o, none⟩ ∧ Here w b (o + i * 11) (t.d.cells t.ts.length) := by
  obtain ⟨b, o, e, h2⟩ := hR (fun k => by subst k; simp at hi)
  have ht := List.getElem?_eq_getElem hi
  exact ⟨ts[i], b, o, ht, List.getElem_mem hi, hD _ (List.getElem_mem hi), e, h2 i _ ht⟩
def qee (g : Nat) (x z : Dt) : Dt := .mk ⟨8, 0, ⟨Q6.zero, none, 0, none, 0, none, 0, none, 0⟩, ⟨#[]⟩, none, 0, [], some ⟨g, 0, none⟩, 2⟩ [x, z]
theorem qug (g : Nat) (x z : Dt) : (qee g x z).d.cells (qee g x z).ts.length = [.int .i64 8, .int .i64 0, .bool false, .slice none 0 0, .slice none 0 0, .bool false, .slice none 0 0, .slice none 0 0, .string ⟨#[]⟩, .slice none 0 0, .slice (some ⟨g, 0, none⟩) 2 2] := rfl
theorem zoe (g : Nat) (x z : Dt) : (qee g x z).tr = .mk 8 0 Q6.zero ⟨#[]⟩ [] [x.tr, z.tr] := by unfold qee; rw [Dt.tr_mk]; rfl
theorem zjb (w : World) (lo : Option Addr) (lc : Nat) : NdOk w ⟨8, 0, ⟨Q6.zero, none, 0, none, 0, none, 0, none, 0⟩, ⟨#[]⟩, none, 0, [], lo, lc⟩ :=
  ⟨⟨Sc.none w, Sc.none w, Sc.none w, Sc.none w⟩, yu, ⟨fun h => absurd rfl h⟩, Nat.le_refl _, by show (0 : Nat) ≤ _; omega, by show (-9223372036854775808 : Int) ≤ 8; omega, by show (8 : Int) ≤ 9223372036854775807; omega, by show (-9223372036854775808 : Int) ≤ 0; omega, by show (0 : Int) ≤ 9223372036854775807; omega, by show (0 : Nat) ≤ _; omega⟩
theorem quh {w : World} {g : Nat} {x z : Dt} (hg : g < w.heap.size) (hc : ∀ p v, (zv [x, z])[p]? = some v → w.cell? ⟨g, p, none⟩ = some v) (hx : x.rd w) (hz : z.rd w) : (qee g x z).rd w := by
  unfold qee
  refine Dt.rd_iff.2 ⟨zjb w _ _, Nat.le_refl _, by show (2 : Nat) ≤ _; omega, fun _ => ⟨g, 0, rfl, fun i t hi => ⟨hg, fun j v hj => ?_⟩⟩, fun t ht => ?_⟩
  · rw [Nat.zero_add]
    exact hc _ _ (qec hi hj)
  · rcases List.mem_cons.1 ht with h | h
    · rw [h]; exact hx
    · rw [List.mem_singleton.1 h]; exact hz
theorem zof {p : Nat → Prop} {g : Nat} {x z : Dt} (hg : p g) (hx : x.at_ p) (hz : z.at_ p) : (qee g x z).at_ p := by
  unfold qee
  refine Dt.at_iff.2 ⟨⟨fun h => absurd rfl h, fun h => absurd rfl h, fun h => absurd rfl h, fun h => absurd rfl h, fun h => absurd rfl h⟩, fun _ b o e => ?_, fun t ht => ?_⟩
  · cases e; exact hg
  · rcases List.mem_cons.1 ht with h | h
    · rw [h]; exact hx
    · rw [List.mem_singleton.1 h]; exact hz
def Seen (p : Nat → Prop) (w w' : World) : Prop := ∀ b i v, p b → w.cell? ⟨b, i, none⟩ = some v → w'.cell? ⟨b, i, none⟩ = some v
theorem zwa {p : Nat → Prop} {w w' : World} {so : Option Addr} {l : List Nat} (h : Rd w so l) (hi : In p so l) (hk : Seen p w w') : Rd w' so l := by
  refine ⟨h.dig, fun hne => ?_⟩
  obtain ⟨b, off, h1, h2, h3⟩ := h.pos hne
  have h4 : ∀ j, j < l.length → w'.cell? ⟨b, off + j, none⟩ = some (.int .u32 ((l.getD j 0 : Nat) : Int)) := fun j hj => hk _ _ _ (hi hne _ _ h1) (h3 j hj)
  exact ⟨b, off, h1, cell_lt (h4 0 (List.length_pos_iff.2 hne)), h4⟩
theorem zwb {p : Nat → Prop} {w w' : World} {so : Option Addr} {l : List UInt8} (h : Rb w so l) (hi : In p so l) (hk : Seen p w w') : Rb w' so l := by
  refine ⟨fun hne => ?_⟩
  obtain ⟨b, off, h1, h2, h3⟩ := h.pos hne
  exact ⟨b, off, h1, cell_lt (hk _ _ _ (hi hne _ _ h1) (h3 0 (List.length_pos_iff.2 hne))), fun j hj => hk _ _ _ (hi hne _ _ h1) (h3 j hj)⟩
theorem qij {p : Nat → Prop} {w w' : World} {so : Option Addr} {c : Nat} {l : List Nat} (h : Sc w so c l) (hi : In p so l) (hk : Seen p w w') : Sc w' so c l := ⟨zwa h.rd hi hk, h.nil, h.cap⟩
theorem NdOk.seen {p : Nat → Prop} {w w' : World} {d : Nd} (h : NdOk w d) (hi : d.at_ p) (hk : Seen p w w') : NdOk w' d := { h with num := ⟨qij h.num.s1 hi.i1 hk, qij h.num.s2 hi.i2 hk, qij h.num.s3 hi.i3 hk, qij h.num.s4 hi.i4 hk⟩, raw := zwb h.raw hi.i5 hk }
theorem Rt.seen {p : Nat → Prop} {w w' : World} {lo : Option Addr} {ts : List Dt} (h : Rt w lo ts) (hi : In p lo ts) (hk : Seen p w w') : Rt w' lo ts := fun hne => by
  obtain ⟨b, o, e, h2⟩ := h hne
  refine ⟨b, o, e, fun i t hi' => ?_⟩
  have h4 : ∀ j v, t.cells[j]? = some v → w'.cell? ⟨b, o + i * 11 + j, none⟩ = some v := fun j v hj => hk _ _ _ (hi hne _ _ e) ((h2 i t hi').2 j v hj)
  exact ⟨cell_lt (h4 0 _ rfl), h4⟩
theorem Dt.seen {p : Nat → Prop} {w w' : World} (hk : Seen p w w') : ∀ t : Dt, t.rd w → t.at_ p → t.rd w' :=
  Dt.indT fun d ts ih h hi => by
    rw [Dt.rd_iff] at h ⊢
    rw [Dt.at_iff] at hi
    exact ⟨h.1.seen hi.1 hk, h.2.1, h.2.2.1, h.2.2.2.1.seen hi.2.1 hk, fun t ht => ih t ht (h.2.2.2.2 t ht) (hi.2.2 t ht)⟩
def Lives (T : List Ck) (t : Dt) : Prop := ∀ w0 w, Mg w0 w T → t.rd w
theorem Lives.sub {T T' : List Ck} {t : Dt} (h : Lives T t) (hs : T.Sublist T') : Lives T' t := fun w0 w hM => h w0 w (hM.sub hs)
theorem Lives.app {T : List Ck} {t : Dt} (h : Lives T t) (F : List Ck) : Lives (F ++ T) t := h.sub (List.sublist_append_right _ _)
theorem Lives.front {T : List Ck} {t : Dt} (h : Lives T t) (F : List Ck) : Lives (T ++ F) t := h.sub (List.sublist_append_left _ _)
theorem Lives.cons {T : List Ck} {t : Dt} (h : Lives T t) (c : Ck) : Lives (c :: T) t := h.sub (List.sublist_cons_self _ _)
def froz (w : World) : Nat → Nat → List Ck
  | _, 0 => []
  | k, n + 1 => match w.heap[k]? with
    | some o => .obj k o :: froz w (k + 1) n
    | none => froz w (k + 1) n
theorem kl {w : World} : ∀ {n k : Nat} {c : Ck}, c ∈ froz w k n → ∃ b o, c = .obj b o ∧ k ≤ b ∧ w.heap[b]? = some o
  | 0, k, c, h => by cases h
  | n + 1, k, c, h => by
    rw [froz] at h
    cases e : w.heap[k]? with
    | none =>
      rw [e] at h
      obtain ⟨b, o, h1, h2, h3⟩ := kl (n := n) h
      exact ⟨b, o, h1, by omega, h3⟩
    | some o =>
      rw [e] at h
      rcases List.mem_cons.1 h with h | h
      · exact ⟨k, o, h, Nat.le_refl _, e⟩
      · obtain ⟨b, o, h1, h2, h3⟩ := kl (n := n) h
        exact ⟨b, o, h1, by omega, h3⟩
theorem qki {w : World} : ∀ {n k b : Nat} {o : Obj}, k ≤ b → b < k + n → w.heap[b]? = some o → Ck.obj b o ∈ froz w k n
  | 0, k, b, o, h1, h2, _ => by omega
  | n + 1, k, b, o, h1, h2, h => by
    rw [froz]
    by_cases e : k = b
    · subst e; rw [h]; exact List.mem_cons_self
    · have ih := qki (n := n) (k := k + 1) (b := b) (o := o) (by omega) (by omega) h
      cases w.heap[k]? with
      | none => exact ih
      | some o' => exact List.mem_cons_of_mem _ ih
theorem qai {w : World} : ∀ (n k : Nat), (froz w k n).Pairwise Ap
  | 0, k => .nil
  | n + 1, k => by
    rw [froz]
    cases w.heap[k]? with
    | none => exact qai n (k + 1)
    | some o =>
      refine List.pairwise_cons.2 ⟨fun c hc => ?_, qai n (k + 1)⟩
      obtain ⟨b, o', rfl, h2, _⟩ := kl hc
      show k ≠ b
      omega
def made (w w' : World) : List Ck := froz w' w.heap.size (w'.heap.size - w.heap.size)
theorem Mg.freeze {w0 w w' : World} {L : List Ck} (hM : Mg w0 w L) (hnb : xk L) (hb : Below w.heap.size w w') : Mg w0 w' (made w w' ++ L) := by
  have h2 := hM.call hb
  refine ⟨h2.bel, fun c hc => ?_, List.pairwise_append.2 ⟨qai _ _, h2.dis, fun c hc d hd => ?_⟩⟩
  · rcases List.mem_append.1 hc with h | h
    · obtain ⟨b, o, rfl, h3, h4⟩ := kl h
      exact ⟨Nat.le_trans hM.bel.size h3, h4⟩
    · exact h2.all c h
  · obtain ⟨b, o, rfl, h3, h4⟩ := kl hc
    have hl := Ck.lt (hM.all d hd)
    cases d with
    | obj g' o' => intro e; subst e; have := (hl b rfl).2; omega
    | row e' sz' v' n' xs' => intro e; have := (hl b e).2; omega
    | bld b' bs' => exact absurd rfl (hnb _ hd b' bs')
theorem ke {L M : List Ck} (h : xk L) (k : xk M) : xk (L ++ M) := fun c hc => (List.mem_append.1 hc).elim (h c) (k c)
section
variable {α : Type} (f : α → List Value) (m : Nat)
variable {f m} (hf : ∀ x, (f x).length = m)
end
theorem qkj {α : Type} : ∀ (L : List α) (k : Nat) (c : α), L[k]? = some c → L.Perm (c :: L.eraseIdx k)
 | [], _, _, h => by simp at h
 | a :: t, 0, c, h => by cases h; exact .refl _
 | a :: t, k + 1, c, h => ((qkj t k c (by simpa using h)).cons a).trans (.swap c a _)
theorem Mg.bring {w0 w : World} {L L' : List Ck} (h : Mg w0 w L) (k : Nat) {c : Ck} (hk : L[k]? = some c) (hL : c :: L.eraseIdx k = L') : Mg w0 w L' := by
 subst hL
 exact h.perm (qkj L k c hk)
def noU (v : Value) : Bool := match v with | .int .u32 _ => false | _ => true
def Lv (w0 : World) (Z : List Ck) (t : Dt) : Prop := ∀ w, Mg w0 w Z → t.rd w
theorem Lv.sub {w0 : World} {Z Z' : List Ck} {t : Dt} (h : Lv w0 Z t) (hs : Z.Sublist Z') : Lv w0 Z' t := fun w M => h w (M.sub hs)
theorem Lv.app {w0 : World} {Z : List Ck} {t : Dt} (h : Lv w0 Z t) (F : List Ck) : Lv w0 (F ++ Z) t := h.sub (List.sublist_append_right _ _)
def Cu (U : List Ck) : Prop := ∀ c ∈ U, ∃ g vs t, c = .obj g (.cells vs t) ∧ ∀ v ∈ vs.toList, noU v = true
theorem Cu.nil : Cu [] := fun c h => by cases h
theorem Cu.cons {g : Nat} {vs : Array Value} {t : TypeId} {U : List Ck} (h : vs.toList.all noU = true) (hU : Cu U) : Cu (.obj g (.cells vs t) :: U) := fun c hc => by
 rcases List.mem_cons.1 hc with rfl | hc
 ·
  exact ⟨_, _, _, rfl, fun v hv => List.all_eq_true.1 h v hv⟩
 ·
  exact hU c hc
theorem Cu.app {U V : List Ck} (hU : Cu U) (hV : Cu V) : Cu (U ++ V) := fun c hc => (List.mem_append.1 hc).elim (hU c) (hV c)
def Ob (Z : List Ck) : Prop := ∀ c ∈ Z, ∃ g o, c = .obj g o
theorem Ob.nil : Ob [] := fun c h => by cases h
theorem Ob.cons {g : Nat} {o : Obj} {Z : List Ck} (h : Ob Z) : Ob (.obj g o :: Z) := fun c hc => by
 rcases List.mem_cons.1 hc with rfl | hc
 ·
  exact ⟨_, _, rfl⟩
 ·
  exact h c hc
theorem Ob.app {U V : List Ck} (hU : Ob U) (hV : Ob V) : Ob (U ++ V) := fun c hc => (List.mem_append.1 hc).elim (hU c) (hV c)
theorem Cu.ob {U : List Ck} (h : Cu U) : Ob U := fun c hc => by
 obtain ⟨g, vs, t, e, _⟩ := h c hc
 exact ⟨g, _, e⟩
theorem Ob.nob {Z : List Ck} (h : Ob Z) : xk Z := fun c hc b bs e => by
 obtain ⟨g, o, e2⟩ := h c hc
 rw [e2] at e; cases e
theorem Ob.froz {w : World} {k n : Nat} : Ob (froz w k n) := fun c hc => by
 obtain ⟨b, o, e, _⟩ := kl hc
 exact ⟨b, o, e⟩
theorem Ob.made {w w' : World} : Ob (made w w') := Ob.froz
open Classical in
noncomputable def oth (w0 w : World) (L : List Ck) : List Ck := (froz w w0.heap.size (w.heap.size - w0.heap.size)).filter fun c => decide (∀ d ∈ L, ∀ b, c.at_ = some b → d.at_ ≠ some b)
theorem Ob.oth {w0 w : World} {L : List Ck} : Ob (oth w0 w L) := fun c hc => Ob.froz c (List.mem_filter.1 hc).1
theorem Mg.othL {w0 w : World} {L : List Ck} (M : Mg w0 w L) (hnb : xk L) : Mg w0 w (oth w0 w L ++ L) := by
 refine ⟨M.bel, fun c hc => ?_, List.pairwise_append.2 ⟨(qai _ _).filter _, M.dis, fun c hc d hd => ?_⟩⟩
 ·
  rcases List.mem_append.1 hc with h | h
  ·
   obtain ⟨b, o, rfl, h3, h4⟩ := kl (List.mem_filter.1 h).1
   exact ⟨h3, h4⟩
  ·
   exact M.all c h
 ·
  have h5 := of_decide_eq_true (List.mem_filter.1 hc).2
  obtain ⟨b, o, rfl, h3, h4⟩ := kl (List.mem_filter.1 hc).1
  have h6 := h5 d hd b rfl
  cases d with
  | obj g' o' => exact fun e => h6 (by rw [e]; rfl)
  | row e' sz' v' n' xs' => exact h6
  | bld b' bs' => exact absurd rfl (hnb _ hd b' bs')
theorem zjc {w0 w : World} {U Z : List Ck} (M : Mg w0 w (U ++ Z)) (hU : Cu U) (hZ : Ob Z) {t : Dt} (ht : t.rd w) (h1 : t.d.rl = []) (h2 : t.ts = []) : Mg w0 w (U ++ (oth w0 w (U ++ Z) ++ Z)) ∧ Lv w0 (oth w0 w (U ++ Z) ++ Z) t := by
 refine ⟨(M.othL (ke hU.ob.nob hZ.nob)).perm ?_, fun w9 h9 => ?_⟩
 ·
  rw [← List.append_assoc, ← List.append_assoc]
  exact List.Perm.append_right _ List.perm_append_comm
 ·
  have ha : t.at_ fun b => ∀ d ∈ U, d.at_ ≠ some b := by
   have key : ∀ {so : Option Addr} {l : List Nat}, Rd w so l → In (fun b => ∀ d ∈ U, d.at_ ≠ some b) so l := fun hr hne b o e d hd hb => by
    obtain ⟨b', off, k1, k2, k3⟩ := hr.pos hne
    rw [k1] at e; cases e
    obtain ⟨g, vs, ty, rfl, hv⟩ := hU d hd
    cases hb
    have hc := k3 0 (List.length_pos_iff.2 hne)
    have hh := (M.all _ (List.mem_append_left _ hd)).2
    rw [cell_of_row w _ _ vs ty (0, 0) hh] at hc
    have h5 := hv _ (List.mem_of_getElem? (by simpa using hc))
    cases h5
   cases t with
   | mk d ts =>
    simp only [Dt.d, Dt.ts] at h1 h2
    subst h2
    rw [Dt.rd_iff] at ht
    rw [Dt.at_iff]
    exact ⟨⟨key ht.1.num.s1.rd, key ht.1.num.s2.rd, key ht.1.num.s3.rd, key ht.1.num.s4.rd, fun hne => absurd h1 hne⟩, fun hne => absurd rfl hne, fun t ht => by cases ht⟩
  refine Dt.seen (p := fun b => ∀ d ∈ U, d.at_ ≠ some b) (fun b i v hb hc => ?_) t ht ha
  have hlt := cell_lt hc
  have same : w9.heap[b]? = w.heap[b]? := by
   by_cases h0 : b < w0.heap.size
   ·
    exact (h9.bel.block b h0).trans (M.bel.block b h0).symm
   ·
    have h2 : w.heap[b]? = some (w.heap[b]'hlt) := Array.getElem?_eq_getElem hlt
    by_cases hz : ∃ d ∈ Z, d.at_ = some b
    ·
     obtain ⟨d, hd, hb2⟩ := hz
     obtain ⟨g, o, rfl⟩ := hZ d hd
     cases hb2
     exact (h9.all _ (List.mem_append_right _ hd)).2.trans (M.all _ (List.mem_append_right _ hd)).2.symm
    ·
     have h3 : Ck.obj b (w.heap[b]'hlt) ∈ oth w0 w (U ++ Z) := List.mem_filter.2 ⟨qki (by omega) (by simp only at *; omega) h2, decide_eq_true fun d hd b' e => by
      cases e
      rcases List.mem_append.1 hd with h | h
      ·
       exact hb d h
      ·
       exact fun k => hz ⟨d, h, k⟩⟩
     rw [h2]
     exact (h9.all _ (List.mem_append_left _ h3)).2
  unfold World.cell? at hc ⊢
  simp only at hc ⊢
  rw [same]; exact hc
theorem zgb {w0 w : World} {e : TypeId} {sz n : Nat} {v : Value} {xs : List Value} {L : List Ck} (M : Mg w0 w (.row e sz v n xs :: L)) (hL : xk L) : (v = .slice none 0 0 ∧ n = 0 ∧ xs = [] ∧ Mg w0 w L) ∨ ∃ g cap cur, v = .slice (aO g) n cap ∧ n ≤ cap ∧ cap ≤ maxLen ∧ cur.size = cap * sz ∧ cur.toList.take (n * sz) = xs ∧ Mg w0 w (.obj g (.cells cur e) :: L) := by
 have hr : w.ownsRow w0.heap.size e sz v n xs := M.has 0 rfl
 have hM2 : Mg w0 w L := M.sub (List.sublist_cons_self _ _)
 rcases hr.2 with ⟨h1, h2⟩ | ⟨g, cap, cur, h1, h2, h3, h4, h5, h6, h7⟩
 ·
  exact .inl ⟨h1, h2, List.length_eq_zero_iff.1 (by rw [hr.1, h2]; simp), hM2⟩
 ·
  refine .inr ⟨g, cap, cur, h1, h4, h5, h6, h7, hM2.bel, fun c hc => ?_, List.pairwise_cons.2 ⟨fun c hc => ?_, hM2.dis⟩⟩
  ·
   rcases List.mem_cons.1 hc with rfl | hc
   ·
    exact ⟨h2, h3⟩
   ·
    exact hM2.all c hc
  ·
   have ha := (List.pairwise_cons.1 M.dis).1 c hc
   subst h1
   cases c with
   | obj g' o' => exact fun k => ha (by rw [← k]; rfl)
   | row e' sz' v' n' xs' =>
    rcases ha with ha | ha
    ·
     cases ha
    ·
     exact fun k => ha k.symm
   | bld b' bs' => exact absurd rfl (hL _ hc b' bs')
theorem zwc {w0 w : World} {e : TypeId} {sz n g cap : Nat} {cur : Array Value} {xs : List Value} {L : List Ck} (M : Mg w0 w (.obj g (.cells cur e) :: L)) (hL : xk L) (h4 : n ≤ cap) (h5 : cap ≤ maxLen) (h6 : cur.size = cap * sz) (h7 : cur.toList.take (n * sz) = xs) : Mg w0 w (.row e sz (.slice (aO g) n cap) n xs :: L) := by
 have hM2 : Mg w0 w L := M.sub (List.sublist_cons_self _ _)
 have hh := M.has 0 rfl
 refine ⟨hM2.bel, fun c hc => ?_, List.pairwise_cons.2 ⟨fun c hc => ?_, hM2.dis⟩⟩
 ·
  rcases List.mem_cons.1 hc with rfl | hc
  ·
   refine ⟨?_, .inr ⟨g, cap, cur, rfl, hh.1, hh.2, h4, h5, h6, h7⟩⟩
   rw [← h7, List.length_take, Array.length_toList, h6]
   exact Nat.min_eq_left (Nat.mul_le_mul_right _ h4)
  ·
   exact hM2.all c hc
 ·
  have ha := (List.pairwise_cons.1 M.dis).1 c hc
  cases c with
  | obj g' o' => exact fun k => ha (Option.some.inj k)
  | row e' sz' v' n' xs' => exact .inr fun k => ha k.symm
  | bld b' bs' => exact absurd rfl (hL _ hc b' bs')
def IR (e : TypeId) (so : Option Addr) (ca : Nat) (ts : List Dt) (U : List Ck) : Prop := (so = none ∧ ca = 0 ∧ ts = [] ∧ U = []) ∨ ∃ g cur, so = some ⟨g, 0, none⟩ ∧ U = [.obj g (.cells cur e)] ∧ ts.length ≤ ca ∧ ca ≤ maxLen ∧ cur.size = ca * 11 ∧ cur.toList.take (ts.length * 11) = zv ts ∧ ∀ v ∈ cur.toList, noU v = true
theorem IR.start (e : TypeId) : IR e none 0 [] [] := .inl ⟨rfl, rfl, rfl, rfl⟩
theorem IR.cu {e : TypeId} {so : Option Addr} {ca : Nat} {ts : List Dt} {U : List Ck} (h : IR e so ca ts U) : Cu U := by
 rcases h with ⟨_, _, _, rfl⟩ | ⟨g, cur, _, rfl, _, _, _, _, h⟩
 ·
  exact Cu.nil
 ·
  exact Cu.cons (List.all_eq_true.2 h) Cu.nil
theorem IR.cap {e : TypeId} {so : Option Addr} {ca : Nat} {ts : List Dt} {U : List Ck} (h : IR e so ca ts U) : ts.length ≤ ca ∧ ca ≤ 9223372036854775807 := by
 rcases h with ⟨_, rfl, rfl, _⟩ | ⟨g, cur, _, _, h1, h2, _⟩
 ·
  exact ⟨Nat.le_refl _, by omega⟩
 ·
  exact ⟨h1, Nat.le_trans h2 (by decide)⟩
theorem IR.rt {e : TypeId} {so : Option Addr} {ca : Nat} {ts : List Dt} {U : List Ck} (h : IR e so ca ts U) {w0 w : World} {L : List Ck} (M : Mg w0 w L) (hs : ∀ c ∈ U, c ∈ L) : Rt w so ts := by
 rcases h with ⟨_, _, rfl, _⟩ | ⟨g, cur, rfl, rfl, h1, h2, h3, h4, _⟩
 ·
  exact fun k => absurd rfl k
 ·
  have hh := M.all _ (hs _ List.mem_cons_self)
  refine (zoc (w := w) (B := w0.heap.size) (e := e) (n := ts.length) (cap := ca) ⟨qaa ts, .inr ⟨g, ca, cur, rfl, hh.1, hh.2, h1, h2, h3, h4⟩⟩).1
theorem qui {g : Nat} {t : TypeId} : ∀ (cs : List Value) (w : World) (o : Nat) (cur : Array Value), w.heap[g]? = some (.cells cur t (0, 0)) → (∀ c ∈ cur.toList, noU c = true) → (∀ c ∈ cs, noU c = true) → ∃ cur', (w.setCells g o cs).heap[g]? = some (.cells cur' t (0, 0)) ∧ ∀ c ∈ cur'.toList, noU c = true
 | [], w, o, cur, hg, h1, h2 => ⟨cur, hg, h1⟩
 | c :: cs, w, o, cur, hg, h1, h2 => by
  have hp := heap_setCell_same w g o cur t c hg
  have h1' : ∀ u ∈ (cur.setIfInBounds o c).toList, noU u = true := by
   intro u hu
   rw [Array.toList_setIfInBounds] at hu
   rcases List.mem_or_eq_of_mem_set hu with k | k
   ·
    exact h1 u k
   ·
    rw [k]; exact h2 c (by simp)
  exact qui cs (w.setCell ⟨g, o, none⟩ c) (o + 1) _ hp h1' (fun u hu => h2 u (by simp [hu]))
theorem qoa {z : Array Value} (hz : ∀ c ∈ z.toList, noU c = true) (n : Nat) : ∀ c ∈ (Builtin.zeroCells z n).toList, noU c = true := by
 intro c hc
 unfold Builtin.zeroCells at hc
 rw [Array.toList_map, Array.toList_range] at hc
 obtain ⟨i, hi, rfl⟩ := List.mem_map.1 hc
 have hi := List.mem_range.1 hi
 have hpos : 0 < z.size := by
  apply Nat.pos_of_ne_zero
  intro k
  rw [k] at hi
  simp at hi
 have hlt : i % z.size < z.size := Nat.mod_lt _ hpos
 rw [getElem!_pos z (i % z.size) hlt]
 exact hz _ (by simp)
theorem zjd (t : Dt) : ∀ u ∈ t.cells, noU u = true := by
 intro u hu
 unfold Dt.cells Nd.cells at hu
 simp only [List.mem_cons, List.not_mem_nil, or_false] at hu
 rcases hu with h | h | h | h | h | h | h | h | h | h | h <;> subst h <;> rfl
theorem zwd {P : Program} {w : World} {t ty e : TypeId} {i : TypeInfo} {z : Value} {sz : Nat} (ht : P.underlying t = some (.slice e)) (hi : P.info? e = some i) (hz : i.zero = some z) (hs : i.size = sz) (hb : i.bytes ≤ 1000) (hzn : ∀ c ∈ z.cells.toList, noU c = true) {so : Option Addr} {q cap b c2 : Nat} {xs news : List Value} {B : Nat} (hrow : w.ownsRow B e sz (.slice so q cap) q xs) (hcl : ∀ g cur, so = some ⟨g, 0, none⟩ → w.heap[g]? = some (.cells cur e (0, 0)) → ∀ c ∈ cur.toList, noU c = true) (hnl : news.length = 1 * sz) (hnews : ∀ p u, news[p]? = some u → w.cell? ((⟨b, 0, none⟩ : Addr).add p) = some u) (h1 : ∀ u ∈ news, u.oneCell' = true) (hn : ∀ c ∈ news, noU c = true) (hlen : q + 1 ≤ 1000000000) {v' : Value} {w' : World} (hr : (Builtin.append_ #[t, t] ty #[.slice so q cap, .slice (aO b) 1 c2]).run P w = .ok v' w') : ∀ g cur, v'.ownBlock = some g → w'.heap[g]? = some (.cells cur e (0, 0)) → ∀ c ∈ cur.toList, noU c = true := by
 have hbig : (q + 1) * i.bytes ≤ 140737488355328 := Nat.le_trans (Nat.mul_le_mul hlen hb) (by decide)
 have hbig2 : 1 * i.bytes ≤ 281474976710656 := by omega
 rcases hrow.2 with ⟨h, h0⟩ | ⟨g1, cap1, cur, hv, hbb, hg, hqc, hcm, hcs, htk⟩
 ·
  cases h
  have hr2 := run_append_nil (P := P) (w := w) t ty e i z ht hi hz ⟨b, 0, none⟩ 1 c2 news (by rw [hs]; exact hnl) hnews (by omega) (by omega) hbig2
  rw [hr2] at hr
  injection hr with hv2 hw2
  subst hw2 hv2
  intro g cur2 hg2 h2
  cases hg2
  have h4 := (heap_alloc_new w.drew _).symm.trans h2
  injection h4 with h5
  injection h5 with h6
  rw [← h6]
  intro c hc
  rw [Array.toList_append, List.mem_append] at hc
  rcases hc with hc | hc
  ·
   exact hn c hc
  ·
   exact qoa hzn _ c hc
 ·
  cases hv
  have hclean := hcl g1 cur rfl hg
  have hxl : xs.length = q * sz := hrow.1
  by_cases hroom : q + 1 ≤ cap
  ·
   have hle2 : (q + 1) * sz ≤ cap * sz := Nat.mul_le_mul_right _ hroom
   rw [Nat.add_mul] at hle2
   have hr2 := run_append_room_cells (P := P) w t ty e i ht hi g1 0 q cap ⟨b, 0, none⟩ 1 c2 news (by rw [hs]; exact hnl) hnews h1 hroom (fun p hp => by rw [cell_of_row w g1 _ cur e (0, 0) hg, hs, Array.getElem?_eq_getElem (by omega)]; rfl) (fun p hp => frozen_of_row w g1 _ cur e hg)
   rw [hr2] at hr
   injection hr with hv2 hw2
   subst hw2 hv2
   intro g cur2 hg2 h2
   cases hg2
   obtain ⟨cur', hc1, hc2⟩ := qui news w (0 + q * i.size) cur hg hclean hn
   rw [hc1] at h2
   injection h2 with h3
   injection h3 with h4
   rw [← h4]
   exact hc2
  ·
   have hxs : ∀ c ∈ xs, noU c = true := fun c hc => hclean c (by rw [← htk] at hc; exact List.mem_of_mem_take hc)
   have hr2 := run_append_grow (P := P) (w := w) t ty e i z ht hi hz ⟨g1, 0, none⟩ q cap xs (by rw [hs]; exact hxl) (fun p u hp => by
    have hlt : p < xs.length := (List.getElem?_eq_some_iff.1 hp).1
    rw [xb, Nat.zero_add, World.ownsRow.cellAt hrow p (by omega)]
    exact hp) ⟨b, 0, none⟩ 1 c2 news (by rw [hs]; exact hnl) hnews (by omega) (by omega) (growslice_fits (by omega) hbig)
   rw [hr2] at hr
   injection hr with hv2 hw2
   subst hw2 hv2
   intro g cur2 hg2 h2
   cases hg2
   have h4 := (heap_alloc_new w.drew _).symm.trans h2
   injection h4 with h5
   injection h5 with h6
   rw [← h6]
   intro c hc
   rw [Array.toList_append, Array.toList_append, List.mem_append, List.mem_append] at hc
   rcases hc with (hc | hc) | hc
   ·
    exact hxs c hc
   ·
    exact hn c hc
   ·
    exact qoa hzn _ c hc
theorem zog {P : Program} {w0 w : World} {l : List (Nat × Value)} {dst : Option Tmp} {ty t e : TypeId} {pos : String} {after : Array Edge} {guard : Option (Nat × Bool)} {x y : Operand} {z : Value} {by_ : Nat} (ht : P.underlying t = some (.slice e)) (hinfo : (P.info? e).map (fun i => (i.zero, i.size, i.bytes)) = some (some z, 11, by_)) (hzc : z.cells.size = 11) (hby : Nat.ble by_ 1000 = true) (hzn : z.cells.toList.all noU = true) {so : Option Addr} {ca : Nat} {ts : List Dt} {U1 : List Ck} (hI : IR e so ca ts U1) {b : Nat} {d : Dt} {c : Ck} {X : List Ck} (M : Mg w0 w (.row e 11 (.slice (aO b) 1 1) 1 d.cells :: c :: (U1 ++ X))) (hX : xk (c :: X)) (hx : ev l x = some (.slice so ts.length ca)) (hy : ev l y = some (.slice (aO b) 1 1)) (hlen : ts.length + 1 ≤ 1000000000) :
  ∃ so' ca' U' w', Does P l ⟨dst, .call ⟨.builtin .append, #[x, y], #[t, t]⟩, ty, pos, after, guard⟩ w (.slice so' (ts ++ [d]).length ca') w' ∧ IR e so' ca' (ts ++ [d]) U' ∧ Mg w0 w' (c :: (U' ++ X)) := by
 obtain ⟨i, hi, hzz⟩ := Option.map_eq_some_iff.1 hinfo
 simp only [Prod.mk.injEq] at hzz
 obtain ⟨hz, hs, hb⟩ := hzz
 have hln : (ts ++ [d]).length = ts.length + 1 := by simp
 have hnX : xk X := fun c' hc' => hX c' (List.mem_cons_of_mem _ hc')
 -- the row in front
 have hrow : Mg w0 w (.row e 11 (.slice so ts.length ca) ts.length (zv ts) :: .row e 11 (.slice (aO b) 1 1) 1 d.cells :: c :: X) := by
  rcases hI with ⟨rfl, rfl, rfl, rfl⟩ | ⟨g, cur, rfl, rfl, h1, h2, h3, h4, h5⟩
  ·
   exact M.nilRow (fun c' hc' => by
    rcases List.mem_cons.1 hc' with rfl | hc'
    ·
     intro b bs e; cases e
    ·
     exact hX c' hc') e 11
  ·
   refine zwc (cur := cur) (M.perm ?_) (fun c' hc' => ?_) h1 h2 h3 h4
   ·
    show (_ :: _ :: (_ :: X)).Perm (_ :: _ :: _ :: X)
    exact ((List.Perm.swap _ _ _).cons _).trans (List.Perm.swap _ _ _)
   ·
    rcases List.mem_cons.1 hc' with rfl | hc'
    ·
     intro b bs e; cases e
    ·
     exact hX c' hc'
 have hnew : w.ownsRow w0.heap.size e 11 (.slice (aO b) 1 1) 1 d.cells := hrow.has 1 rfl
 have hown : w.ownsRow w0.heap.size e 11 (.slice so ts.length ca) ts.length (zv ts) := hrow.has 0 rfl
 have hnews : ∀ p u, d.cells[p]? = some u → w.cell? ((⟨b, 0, none⟩ : Addr).add p) = some u := fun p u hp => by
  have hlt : p < d.cells.length := (List.getElem?_eq_some_iff.1 hp).1
  rw [xb, Nat.zero_add, World.ownsRow.cellAt hnew p (by rw [kd] at hlt; omega)]
  exact hp
 have hbig : (ts.length + 1) * by_ ≤ 140737488355328 := Nat.le_trans (Nat.mul_le_mul hlen (Nat.le_of_ble_eq_true hby)) (by decide)
 obtain ⟨g, cap, w', hr, hown2, hgr, hat, hlt⟩ := run_append_lies (P := P) w t ty w0.heap.size e i z 11 by_ ht hi hz hs hb hzc (by omega) _ _ _ hown ⟨b, 0, none⟩ 1 1 d.cells (by rw [kd]) hnews (qgd d) (by omega) (by unfold maxLen; omega) hbig hrow.bel.size w.heap.size rfl
 have hcl : ∀ g cur, so = some ⟨g, 0, none⟩ → w.heap[g]? = some (.cells cur e (0, 0)) → ∀ c ∈ cur.toList, noU c = true := by
  intro g' cur' hso hg'
  rcases hI with ⟨rfl, _⟩ | ⟨g1, cur, rfl, rfl, _, _, _, _, h5⟩
  ·
   cases hso
  ·
   cases hso
   have := M.has 2 rfl
   have e9 := this.2.symm.trans hg'
   injection e9 with e9
   injection e9 with e9
   rw [← e9]; exact h5
 have hclean := zwd (P := P) ht hi hz hs (by rw [hb]; exact Nat.le_of_ble_eq_true hby) (List.all_eq_true.1 hzn) hown hcl (by rw [kd]) hnews (qgd d) (zjd d) hlen hr
 have hM2 : Mg w0 w' (.row e 11 (.slice (aO g) (ts.length + 1) cap) (ts.length + 1) (zv ts ++ d.cells) :: .row e 11 (.slice (aO b) 1 1) 1 d.cells :: c :: X) := by
  refine hrow.turn 0 (c' := .row e 11 (.slice (aO g) (ts.length + 1) cap) (ts.length + 1) (zv ts ++ d.cells)) rfl (by simp) hgr hown2 (fun d' hd ha => ?_)
  have hl := Ck.lt (hrow.all d' hd)
  have key : ∀ z, d'.at_ = some z → (Value.slice so ts.length ca).ownBlock ≠ some z → g ≠ z := fun z hz hne e => by
   subst e
   rcases hat with h | h
   ·
    exact hne h
   ·
    have := (hl g hz).2; omega
  cases d' with
  | obj g' o' => exact fun e => key g' rfl ha (by simpa [Value.ownBlock] using e)
  | row e' sz' v' n' xs' =>
   right
   intro e
   have e2 : v'.ownBlock = some g := e.symm
   rcases ha with ha | ha
   ·
    exact key g e2 (by rw [ha]; simp) rfl
   ·
    exact key g e2 (fun h => ha (h.trans e2.symm)) rfl
  | bld b' bs' => exact ⟨ha.1, fun e => key b' rfl ha.2 (by simpa [Value.ownBlock] using e)⟩
 have hM3 := hM2.sub (L' := .row e 11 (.slice (aO g) (ts.length + 1) cap) (ts.length + 1) (zv ts ++ d.cells) :: c :: X) (cc (cn (.refl _)))
 rcases zgb hM3 hX with ⟨h, _⟩ | ⟨g2, cap2, cur2, hv2, h1, h2, h3, h4, hM4⟩
 ·
  cases h
 ·
  cases hv2
  refine ⟨some ⟨g, 0, none⟩, cap, [.obj g (.cells cur2 e)], w', fun ρ h => ?_, .inr ⟨g, cur2, rfl, rfl, by rw [hln]; exact h1, h2, h3, by rw [hln, h4, qkh, quf], hclean g cur2 rfl (hM4.has 0 rfl).2⟩, hM4.perm (List.Perm.swap _ _ _)⟩
  rw [hln]
  simp [execOp, resolve, invoke, builtin, h x _ hx, h y _ hy, hr]
section
variable {P : Program} {w0 w : World} {l : List (Nat × Value)} {ops : List Oper} {Q : Exit → Act → World → Prop} {a : Act} {n : Nat} {o : Oper} {rest : List Oper} {d : Nat}
theorem zoh (H : Sl a n l) (hg : zb l ops o = true) (hdst : o.dst = some d) (hd : Nat.blt d n = true) {e : TypeId} {m : Nat} {ts : List Dt} {c : Ck} {X : List Ck} (he : ∃ so' ca' U' w', Does P l o w (.slice so' m ca') w' ∧ IR e so' ca' ts U' ∧ Mg w0 w' (c :: (U' ++ X)))
  (hk : ∀ so' ca' U' w', IR e so' ca' ts U' → Mg w0 w' (c :: (U' ++ X)) → ∀ a', Sl a' n ((d, .slice so' m ca') :: l) → wpList P ops.toArray Q rest a' w') : wpList P ops.toArray Q (o :: rest) a w := by
 obtain ⟨so', ca', U', w', h1, h2, h3⟩ := he
 exact kq H hg hdst hd h1 (hk so' ca' U' w' h2 h3)
end
theorem qqd {w0 w w' : World} {A X Y : List Ck} (M : Mg w0 w (A ++ (X ++ Y))) (hn : xk (A ++ (X ++ Y))) (hb : Below w.heap.size w w') : Mg w0 w' (A ++ (X ++ (made w w' ++ Y))) := by
 refine (M.freeze hn hb).perm ?_
 rw [← List.append_assoc A X Y, ← List.append_assoc A X]
 exact List.perm_append_comm_assoc _ _ _
theorem zbe {w0 w w' : World} {Y : List Ck} {t : Dt} {K : World → Prop} (h : ∀ w9, (∀ b i v, w.heap.size ≤ b → w'.cell? ⟨b, i, none⟩ = some v → w9.cell? ⟨b, i, none⟩ = some v) → K w9 → t.rd w9) (hK : ∀ w9, Mg w0 w9 Y → K w9) : Lv w0 (made w w' ++ Y) t := fun w9 h9 => h w9 (fun b i v hb hc => by
 have h1 := cell_lt hc
 have h2 : w'.heap[b]? = some (w'.heap[b]'h1) := Array.getElem?_eq_getElem h1
 have h3 := (h9.all _ (List.mem_append_left _ (qki (w := w') (k := w.heap.size) (n := w'.heap.size - w.heap.size) hb (by have h9 : b < w'.heap.size := h1; omega) h2))).2
 unfold World.cell? at hc ⊢
 simp only at hc ⊢
 rw [h3, ← h2]; exact hc) (hK w9 (h9.sub (List.sublist_append_right _ _)))
set_option maxRecDepth 100000
theorem zbf {bs : List UInt8} {r : Int} : bs.length + (Lib.runeCells r).length = (bs ++ Lib.encodeRune r).length := by rw [List.length_append, Lib.runeCells_length]
def QL (M : Nat) (T : List Ck) : Prop := ∀ d ∈ T, ∃ g o, d = .obj g o ∧ g < M
theorem QL.qm {M : Nat} {T : List Ck} (h : QL M T) : QM M T := fun d hd => by
 obtain ⟨g, o, e, hg⟩ := h d hd
 exact ⟨g, o, e, .inl hg⟩
theorem QL.nil {M : Nat} : QL M [] := fun d h => by cases h
theorem QL.of {w0 w : World} {M : Nat} {T : List Ck} (N : Mg w0 w T) (hT : Ob T) (h : w.heap.size ≤ M) : QL M T := fun d hd => by
 obtain ⟨g, o, rfl⟩ := hT d hd
 exact ⟨g, o, rfl, Nat.lt_of_lt_of_le (Ck.lt (N.all _ hd) g rfl).2 h⟩
theorem QL.cons {M g : Nat} {o : Obj} {T : List Ck} (h : g < M) (hT : QL M T) : QL M (.obj g o :: T) := fun d hd => by
 rcases List.mem_cons.1 hd with rfl | hd
 ·
  exact ⟨_, _, rfl, h⟩
 ·
  exact hT d hd
theorem QL.mg {w0 w w' : World} {M : Nat} {T : List Ck} (hq : QL M T) (N : Mg w0 w T) (hb : Below M w w') (h0 : w0.heap.size ≤ M) : Mg w0 w' T := by
 refine ⟨N.bel.trans (hb.mono h0), fun c hc => ?_, N.dis⟩
 obtain ⟨g, o, rfl, hg⟩ := hq c hc
 have h2 := N.all _ hc
 exact ⟨h2.1, (hb.block g hg).trans h2.2⟩
theorem zje (s : ByteArray) : Lib.strCells s = Lib.byteCells s.data.toList := rfl
theorem zwe {bs : List UInt8} {s : ByteArray} : bs.length + s.size = (bs ++ s.data.toList).length := by rw [List.length_append, qse]
theorem quj {w0 w : World} {M gb : Nat} {p v : Value} {bs : List UInt8} {T : List Ck} (N : Mg w0 w (.obj gb (.cells #[p, v] 83) :: .row BY 1 v bs.length (Lib.byteCells bs) :: T)) (hv : HiV M v) (hz : bs = [] → v = .slice none 0 0) (hmax : bs.length ≤ 9223372036854775807) : Calls Tryz.prog 60 #[pA gb 0] w fun e w' => e = .returned (.string (tx bs)) ∧ Below M w w' := by
 have hown := N.has 1 rfl
 have hb := N.obj 0 rfl
 by_cases h0 : bs = []
 ·
  rw [hz h0] at hb
  subst h0
  exact zif hb
 have hl0 : bs.length ≠ 0 := by simpa using h0
 rcases hown.2 with ⟨_, hz⟩ | ⟨g, cap, cur, rfl, hbg, hg, hnc, hcm, hcs, htake⟩
 ·
  exact absurd hz hl0
 ·
  exact znh h0 hb hg hnc hmax (hv g rfl) (fun j x hx => by
   have h9 := hown.cells (g := g) rfl j (.int .u8 x.toNat) (by simp [Lib.byteCells, hx])
   rw [xb, Nat.zero_add] at h9
   exact h9) (by simp at hcs; omega)
theorem yl {w0 w : World} {gb : Nat} {p v : Value} {bs : List UInt8} {T : List Ck} (hp : p = .pointer none ∨ p = (pA gb 0)) {M : Nat} (hm0 : w0.heap.size ≤ M) (hm1 : M ≤ gb) (hT : QM M T) (hv : HiV M v) (hM0 : Mg w0 w (.obj gb (.cells #[p, v] 83) :: .row BY 1 v bs.length (Lib.byteCells bs) :: T)) {r : Int} (hr0 : -2147483648 ≤ r) (hr1 : r ≤ 2147483647) (hroom : bs.length + 4 ≤ 140737488355328) : Calls Tryz.prog 59 #[pA gb 0, .int .i32 r] w fun e w' => (∃ z, e = .returned z) ∧ ∃ v', HiV M v' ∧ Mg w0 w' (.obj gb (.cells #[pA gb 0, v'] 83) :: .row BY 1 v' (bs ++ Lib.encodeRune r).length (Lib.byteCells (bs ++ Lib.encodeRune r)) :: T) := by
 obtain ⟨so0, ca0, rfl⟩ := ug (hM0.has 1 rfl)
 have N : Mg w0 w (.obj gb (.cells #[p, .slice so0 bs.length ca0] 83) :: .row BY 1 (.slice so0 bs.length ca0) bs.length ((Lib.byteCells bs)) :: T) := hM0
 refine qr (l := [(0, pA gb 0), (1, .int .i32 r)]) Tryz.func59 rfl Tryz.ntmps59 rfl rfl ?_
 intro Q hret hnorm hP a A
 refine wsk fun K1 hK1 => wrl ?_
 iterate 2 refine sda A λa A↦?_
 refine qa (hK1 _ _ (wsk fun K2 hK2 => wrl (sdm A λa A↦?_)))
 refine sct A (ef rfl rfl) (zfg hp N) ?_
 rintro _ w3 ⟨rfl, hMc⟩
 replace N : Mg w0 w3 (.obj gb (.cells #[pA gb 0, .slice so0 bs.length ca0] 83) :: .row BY 1 (.slice so0 bs.length ca0) bs.length ((Lib.byteCells bs)) :: T) := hMc
 refine ⟨_, rfl, ?_⟩
 intro a A
 refine qa (hK2 _ _ (wsk fun K4 hK4 => wrl (sdm A λa A↦?_)))
 refine sdo A (jo rfl) λa A↦?_
 refine sdo (v := pA gb 1) A (qe qch rfl rfl) λa A↦?_
 refine sdo A (zi N qmg rfl 0 rfl rfl) λa A↦?_
 refine sdo A (zp Tryz.underlying27 rfl) λa A↦?_
 refine sda A λa A↦?_
 refine qa (hK4 _ _ (wsk fun K5 hK5 => wrl ?_))
 iterate 2 refine sdm A λa A↦?_
 refine sdo A (jo rfl) λa A↦?_
 refine sdo (v := pA gb 1) A (qe qch rfl rfl) λa A↦?_
 refine sdo A (zi N qmg rfl 0 rfl rfl) λa A↦?_
 refine sdm A λa A↦?_
 refine sct A (ef rfl rfl) (jfj N (jx (by decide)) hT hv hm0 (Nat.le_trans hm1 (Nat.le_of_lt (Ck.lt (N.has 0 rfl) gb rfl).2)) hr0 hr1 hroom) ?_
 rintro _ w11 ⟨v6, rfl, hv10, hM9⟩
 obtain ⟨so7, ca8, rfl⟩ := ug (hM9.has 1 rfl)
 have hv9 := hv10
 replace N : Mg w0 w11 (.obj gb (.cells #[pA gb 0, .slice so0 bs.length ca0] 83) :: .row BY 1 (.slice so7 ((bs.length + (Lib.runeCells r).length)) ca8) ((bs.length + (Lib.runeCells r).length)) ((Lib.byteCells bs ++ Lib.runeCells r)) :: T) := hM9
 refine ⟨_, rfl, ?_⟩
 intro a A
 refine sdo A (jo rfl) λa A↦?_
 refine sdo (v := pA gb 1) A (qe qch rfl rfl) λa A↦?_
 refine zh (L' := (.obj gb (.cells #[pA gb 0, .slice so7 ((bs.length + (Lib.runeCells r).length)) ca8] 83) :: .row BY 1 (.slice so7 ((bs.length + (Lib.runeCells r).length)) ca8) ((bs.length + (Lib.runeCells r).length)) ((Lib.byteCells bs ++ Lib.runeCells r)) :: T)) A N rfl rfl (qy rfl rfl rfl (by kernel_rfl) N 0 rfl rfl rfl) 0 rfl rfl rfl ?_
 intro w12 N
 refine qa (hK5 _ _ (wsk fun K13 hK13 => wrl (sdm A λa A↦?_)))
 refine sdo A (jo rfl) λa A↦?_
 refine sdo (v := pA gb 1) A (qe qch rfl rfl) λa A↦?_
 refine sdo A (zi N qmg rfl 0 rfl rfl) λa A↦?_
 refine sdo A (zp Tryz.underlying27 rfl) λa A↦?_
 refine sdm A λa A↦?_
 refine sdo (v := iV (IntKind.i64.wrap ((((bs.length + (Lib.runeCells r).length) : Nat) : Int) - ((bs.length : Nat) : Int)))) A (qb rfl rfl (ar_sub rfl)) λa A↦?_
 iterate 2 refine sda A λa A↦?_
 refine qa (hK13 _ _ (wp_ret (hret _ _ (en2 A rfl (qg rfl) (qg rfl) ?_))))
 refine ⟨⟨_, rfl⟩, .slice so7 ((bs.length + (Lib.runeCells r).length)) ca8, hv9, ?_⟩
 rw [← zbf, Lib.byteCells_append, Lib.byteCells_encodeRune]
 exact N
def qla (l : List UInt8) : Option (Int × Nat) :=
 if (((dcX l).1 : Nat) : Int) = 92 then (esX (l.drop (dcX l).2)).map (fun r => (((r.1 : Nat) : Int), (dcX l).2 + r.2))
 else if (((dcX l).1 : Nat) : Int) = 13 then some (10, (dcX l).2 + (if Lib.hasPrefix (l.drop (dcX l).2) [10] = true then 1 else if Lib.hasPrefix (l.drop (dcX l).2) [194, 133] = true then 2 else 0))
 else if (((dcX l).1 : Nat) : Int) = 133 then some (10, (dcX l).2)
 else if (((dcX l).1 : Nat) : Int) = 8232 then some (10, (dcX l).2)
 else some ((((dcX l).1 : Nat) : Int), (dcX l).2)
def zbg : Nat → List UInt8 → Option (List UInt8 × Nat)
 | 0, _ => none
 | f + 1, l => if Lib.hasPrefix l [34] = true then some ([], 1) else if l.isEmpty = true then none else (qla l).bind fun c => (zbg f (l.drop c.2)).map fun r => (Lib.encodeRune c.1 ++ r.1, c.2 + r.2)
def zoi (l : List UInt8) : Option (List UInt8 × Nat) := zbg (l.length + 1) l
def QI (L : List UInt8) (R : Option (List UInt8 × Nat)) (p q f : Nat) (acc : List UInt8) : Prop := p ≤ q ∧ R = (zbg f (L.drop q)).map fun r => (acc ++ r.1, (q - p) + r.2)
theorem QI.go {L acc : List UInt8} {R : Option (List UInt8 × Nat)} {p q f n : Nat} {c : Int} (h : QI L R p q (f + 1) acc) (h1 : Lib.hasPrefix (L.drop q) [34] = false) (h2 : (L.drop q).isEmpty = false) (h3 : qla (L.drop q) = some (c, n)) : QI L R p (q + n) f (acc ++ Lib.encodeRune c) := by
 refine ⟨by have := h.1; omega, ?_⟩
 rw [h.2, zbg, if_neg (by rw [h1]; decide), if_neg (by rw [h2]; decide), h3]
 show ((zbg f ((L.drop q).drop n)).map _).map _ = _
 rw [Option.map_map, List.drop_drop]
 congr 1
 funext r
 have := h.1
 show (acc ++ (Lib.encodeRune c ++ r.1), q - p + (n + r.2)) = (acc ++ Lib.encodeRune c ++ r.1, q + n - p + r.2)
 rw [List.append_assoc, show q - p + (n + r.2) = q + n - p + r.2 by omega]
theorem QI.fin {L acc : List UInt8} {R : Option (List UInt8 × Nat)} {p q f : Nat} (h : QI L R p q (f + 1) acc) (h1 : Lib.hasPrefix (L.drop q) [34] = true) : R = some (acc, q + 1 - p) := by
 rw [h.2, zbg, if_pos h1]
 have := h.1
 show some (acc ++ [], q - p + 1) = _
 rw [List.append_nil, show q - p + 1 = q + 1 - p by omega]
theorem QI.no {L acc : List UInt8} {R : Option (List UInt8 × Nat)} {p q f : Nat} (h : QI L R p q (f + 1) acc) (h1 : Lib.hasPrefix (L.drop q) [34] = false) (h2 : (L.drop q).isEmpty = true ∨ qla (L.drop q) = none) : R = none := by
 rw [h.2, zbg, if_neg (by rw [h1]; decide)]
 by_cases h3 : (L.drop q).isEmpty = true
 ·
  rw [if_pos h3]; rfl
 ·
  rw [if_neg h3]
  rcases h2 with h2 | h2
  ·
   exact absurd h2 h3
  ·
   rw [h2]; rfl
theorem vz (r : Int) : 1 ≤ (Lib.encodeRune r).length ∧ (Lib.encodeRune r).length ≤ 4 := by
 have h := Lib.encodeRuneZ_length r
 have e : (Lib.encodeRune r).length = (Lib.encodeRuneZ r).length := by unfold Lib.encodeRune; rw [List.length_map]
 rw [e]
 exact h
theorem ky {acc : List UInt8} {r : Int} : acc ++ Lib.encodeRune r ≠ [] := fun h => by
 have := (vz r).1
 have h2 := congrArg List.length h
 rw [List.length_append] at h2
 have h3 : ([] : List UInt8).length = 0 := rfl
 omega
theorem qlb {n : Int} (h : kk n = true) : 0 ≤ n ∧ n ≤ 1114111 := by
 unfold kk at h
 have := of_decide_eq_true h
 exact ⟨this.1, this.2.1⟩
theorem qlc (l : List UInt8) : 0 ≤ (((dcX l).1 : Nat) : Int) ∧ (((dcX l).1 : Nat) : Int) ≤ 1114111 := by
 have := ux l
 unfold C.OkR at this
 omega
theorem qmh {w0 w : World} {g p : Nat} {lg : Bool} {L : List UInt8} {T : List Ck} (hN : Env w0) (hO : Ob T) (hp : p ≤ L.length) (hl : L.length ≤ 1000000000) (hM0 : Mg w0 w (.obj g (rC L p lg) :: T)) : Calls Tryz.prog 39 #[pA g 0] w fun e w' => (e = .panicked flt ∧ zoi (L.drop p) = none ∧ ∃ q, q ≤ L.length ∧ Mg w0 w' (.obj g (rC L q lg) :: T)) ∨ ∃ s n, e = .returned (.string (tx s)) ∧ (zoi (L.drop p) = some (s, n) ∧ p + n ≤ L.length ∧ 1 ≤ n ∧ s.length ≤ 4 * L.length) ∧ Mg w0 w' (.obj g (rC L (p + n) lg) :: T) := by
 have hT := hN.tb
 have N : Mg w0 w (.obj g (rC L p lg) :: T) := hM0
 refine ji (l := [(0, pA g 0)]) Tryz.func39 rfl Tryz.ntmps39 rfl rfl ?_
 intro Q hret hnorm hP hX a A
 refine wsk fun K1 hK1 => wrl (sda A λa A↦?_)
 refine qa (hK1 _ _ (wsk fun K2 hK2 => wrl ?_))
 have hMp := N
 have hgl0 := (Ck.lt (N.has 0 rfl) g rfl).2
 refine zod (vs := [.pointer none, .slice none 0 0]) (t := 83) A N rfl rfl rfl pg (ql (z := .agg #[.pointer none, .slice none 0 0]) (by kernel_rfl) rfl) (by decide) ?_
 intro gb w1 N hgb hB1 a A
 have hgl : g < gb := Nat.lt_of_lt_of_le hgl0 hgb
 have hQT : QL gb T := QL.of (hMp.sub (cn (.refl _))) hO hgb
 replace N := N.nilRow (zq (by simp) (zq (by simp) hO.nob)) BY 1
 replace N : Mg w0 w1 (.row BY 1 (.slice none 0 0) (([] : List UInt8).length) ((Lib.byteCells ([] : List UInt8))) :: .obj gb (.cells #[.pointer none, .slice none 0 0] 83) :: .obj g (rC L p lg) :: T) := N
 replace N : Mg w0 w1 (.obj gb (.cells #[.pointer none, .slice none 0 0] 83) :: .row BY 1 (.slice none 0 0) (([] : List UInt8).length) ((Lib.byteCells ([] : List UInt8))) :: .obj g (rC L p lg) :: T) := N.bring 1 rfl rfl
 replace N : Mg w0 w1 (.obj g (rC L p lg) :: .obj gb (.cells #[.pointer none, .slice none 0 0] 83) :: .row BY 1 (.slice none 0 0) (([] : List UInt8).length) ((Lib.byteCells ([] : List UInt8))) :: T) := N.bring 2 rfl rfl
 refine qa (hK2 _ _ (wsk fun K3 hK3 => wp_block (jd (fun m_ a w1 => ∃ (q : Nat) (f : Nat) (acc : List UInt8) (pb : Value) (v : Value), m_ = 1 + (L.length - q) ∧ (q ≤ L.length ∧ L.length - q < f ∧ (pb = .pointer none ∨ pb = (pA gb 0)) ∧ HiV gb v ∧ (acc = [] → v = .slice none 0 0) ∧ acc.length ≤ 4 * (q - p) ∧ QI L (zoi (L.drop p)) p q f acc) ∧ Sl a 28 [(0, pA g 0), (2, .string (⟨#[]⟩)), (3, pA gb 0)] ∧ Mg w0 w1 (.obj g (rC L q lg) :: .obj gb (.cells #[pb, v] 83) :: .row BY 1 (v) acc.length ((Lib.byteCells acc)) :: T)) _ ⟨p, (L.drop p).length + 1, [], .pointer none, .slice none 0 0, rfl, ⟨hp, by rw [List.length_drop]; omega, .inl rfl, HiV.none, fun _ => rfl, by show 0 ≤ _; omega, Nat.le_refl _, by rw [Nat.sub_self]; simp [zoi]⟩, A.keep _ ⟨rfl, rfl, rfl, trivial⟩, N⟩ ?_)))
 clear N A
 rintro m_ a w4 ⟨q, f, acc, pb, v, rfl, hinv6, A, N⟩ K5 hK5
 obtain ⟨hq0, hf0, hpb, hv0, hz0, hr0, hi⟩ := hinv6
 have hpq := hi.1
 obtain ⟨f, rfl⟩ : ∃ f1, f = f1 + 1 := ⟨f - 1, by omega⟩
 refine wsk fun K7 hK7 => wsk fun K8 hK8 => wrl (sdm A λa A↦?_)
 rcases tf (Lib.hasPrefix (L.drop q) [34]) with hb9 | hb9
 ·
  have htl11 : 1 ≤ (L.drop q).length := (List.isPrefixOf_iff_prefix.1 hb9).length_le
  rw [List.length_drop] at htl11
  refine sct A (ef rfl rfl) (xv (p := q) (L := L) (T := (.obj gb (.cells #[pb, v] 83) :: .row BY 1 (v) acc.length ((Lib.byteCells acc)) :: T)) (by omega) (by omega) hb9 N) ?_
  rintro _ w12 ⟨rfl, hM10⟩
  replace N : Mg w0 w12 (.obj g (rC L (q + 1) lg) :: .obj gb (.cells #[pb, v] 83) :: .row BY 1 (v) acc.length ((Lib.byteCells acc)) :: T) := hM10
  refine ⟨_, rfl, ?_⟩
  intro a A
  refine sdo (v := bV false) A (za rfl zk) λa A↦?_
  refine qa (hK8 _ _ (cf A ?_))
  refine wp_exit (hK3 _ _ (wsk fun K13 hK13 => wrl ?_))
  replace N : Mg w0 w12 (.row BY 1 (v) acc.length ((Lib.byteCells acc)) :: .obj g (rC L (q + 1) lg) :: .obj gb (.cells #[pb, v] 83) :: T) := N.bring 2 rfl rfl
  replace N : Mg w0 w12 (.obj gb (.cells #[pb, v] 83) :: .row BY 1 (v) acc.length ((Lib.byteCells acc)) :: .obj g (rC L (q + 1) lg) :: T) := N.bring 2 rfl rfl
  refine sct A (ef rfl rfl) (quj (M := gb) (T := (.obj g (rC L (q + 1) lg) :: T)) N hv0 hz0 (by omega)) ?_
  rintro _ w15 ⟨rfl, hb14⟩
  replace N : Mg w0 w15 (.obj g (rC L (q + 1) lg) :: T) := ((QL.cons hgl hQT).mg (N.sub (cn (cn (.refl _)))) hb14 (Ck.lt (N.has 0 rfl) gb rfl).1)
  refine ⟨_, rfl, ?_⟩
  intro a A
  refine sda A λa A↦?_
  refine qa (hK13 _ _ (wr1 hret A ?_))
  refine .inr ⟨acc, q + 1 - p, rfl, ⟨hi.fin hb9, by omega, by omega, by omega⟩, ?_⟩
  rw [show p + (q + 1 - p) = q + 1 by omega]
  exact N
 ·
  refine sct A (ef rfl rfl) (ve (p := q) (L := L) (T := (.obj gb (.cells #[pb, v] 83) :: .row BY 1 (v) acc.length ((Lib.byteCells acc)) :: T)) (by omega) (by omega) hb9 N) ?_
  rintro _ w17 ⟨rfl, hM16⟩
  replace N : Mg w0 w17 (.obj g (rC L q lg) :: .obj gb (.cells #[pb, v] 83) :: .row BY 1 (v) acc.length ((Lib.byteCells acc)) :: T) := hM16
  refine ⟨_, rfl, ?_⟩
  intro a A
  refine sdo (v := bV true) A (za rfl zk) λa A↦?_
  refine qa (hK8 _ _ (ct A ?_))
  refine wp_skip (hK7 _ _ (wp_block (wsk fun K18 hK18 => wrl (sdm A λa A↦?_))))
  rcases tf ((L.drop q).isEmpty) with hb19 | hb19
  ·
   refine qt A rfl rfl rfl (ef rfl rfl) (qjg (p := q) (L := L) (T := (.obj gb (.cells #[pb, v] 83) :: .row BY 1 (v) acc.length ((Lib.byteCells acc)) :: T)) hT (by omega) (by omega) (List.isEmpty_iff.1 hb19) N) ?_
   rintro _ w20 ⟨rfl, hp21⟩
   exact .inl ⟨_, rfl, hX _ _ _ _ _ A (.inl ⟨rfl, hi.no hb9 (.inl hb19), _, by omega, hp21.sub (cc (cn (cn (.refl _))))⟩)⟩
  ·
   have hne25 : (L.drop q) ≠ [] := fun k => by rw [k] at hb19; cases hb19
   obtain ⟨hw23, hw24⟩ := xl hne25
   rw [List.length_drop] at hw24
   refine sct A (ef rfl rfl) (qid (p := q) (L := L) (T := (.obj gb (.cells #[pb, v] 83) :: .row BY 1 (v) acc.length ((Lib.byteCells acc)) :: T)) hT (by omega) (by omega) hne25 N) ?_
   rintro _ w26 ⟨rfl, hM22⟩
   replace N : Mg w0 w26 (.obj g (rC L (q + (dcX (L.drop q)).2) lg) :: .obj gb (.cells #[pb, v] 83) :: .row BY 1 (v) acc.length ((Lib.byteCells acc)) :: T) := hM22
   refine ⟨_, rfl, ?_⟩
   intro a A
   refine sda A λa A↦?_
   refine qa (hK18 _ _ (wsk fun K27 hK27 => wsk fun K28 hK28 => wrl (sdm A λa A↦?_)))
   refine qa (hK28 _ _ (wp_block (wsk fun K29 hK29 => wrl ?_)))
   rcases tf (((((dcX (L.drop q)).1 : Nat) : Int) == 92)) with hb30 | hb30
   ·
    have hb30' := eq_of_beq hb30
    refine sdc A qj hb30 λa A↦?_
    refine sda A λa A↦?_
    refine qa (hK29 _ _ (ct A ?_))
    refine wrl (sdm A λa A↦?_)
    refine qt A rfl rfl rfl (ef rfl rfl) (qth (p := q + (dcX (L.drop q)).2) (L := L) (T := (.obj gb (.cells #[pb, v] 83) :: .row BY 1 (v) acc.length ((Lib.byteCells acc)) :: T)) hN (by omega) (by omega) N) ?_
    rintro _ w32 (⟨rfl, hp33⟩ | ⟨c, n, rfl, ⟨hc, hcl, hcc⟩, hM31⟩)
    ·
     exact .inl ⟨_, rfl, hX _ _ _ _ _ A (.inl ⟨rfl, hi.no hb9 (.inr (by unfold qla; rw [if_pos (eq_of_beq hb30)]; rw [List.drop_drop, hp33.1]; rfl)), hp33.2.elim fun q9 h9 => ⟨q9, h9.1, h9.2.sub (cc (cn (cn (.refl _))))⟩⟩)⟩
    have hcr := qlb hcc
    replace N : Mg w0 w32 (.obj g (rC L (q + (dcX (L.drop q)).2 + n) lg) :: .obj gb (.cells #[pb, v] 83) :: .row BY 1 (v) acc.length ((Lib.byteCells acc)) :: T) := hM31
    refine .inr ⟨_, rfl, ?_⟩
    intro a A
    refine sda A λa A↦?_
    refine qa (hK27 _ _ (wrl (sdm A λa A↦?_)))
    replace N : Mg w0 w32 (.row BY 1 (v) acc.length ((Lib.byteCells acc)) :: .obj g (rC L (q + (dcX (L.drop q)).2 + n) lg) :: .obj gb (.cells #[pb, v] 83) :: T) := N.bring 2 rfl rfl
    replace N : Mg w0 w32 (.obj gb (.cells #[pb, v] 83) :: .row BY 1 (v) acc.length ((Lib.byteCells acc)) :: .obj g (rC L (q + (dcX (L.drop q)).2 + n) lg) :: T) := N.bring 2 rfl rfl
    refine sct A (ef rfl rfl) (yl (T := (.obj g (rC L (q + (dcX (L.drop q)).2 + n) lg) :: T)) (bs := acc) hpb (Ck.lt (N.has 0 rfl) gb rfl).1 (Nat.le_refl gb) (QL.cons hgl hQT).qm hv0 N (r := ((c : Nat) : Int)) (by omega) (by omega) (by omega)) ?_
    rintro _ w37 ⟨⟨z9, rfl⟩, v34, hv35, hM36⟩
    replace N : Mg w0 w37 (.obj gb (.cells #[pA gb 0, v34] 83) :: .row BY 1 (v34) (((acc ++ Lib.encodeRune (((c : Nat) : Int)))).length) ((Lib.byteCells ((acc ++ Lib.encodeRune (((c : Nat) : Int)))))) :: .obj g (rC L (q + (dcX (L.drop q)).2 + n) lg) :: T) := hM36
    refine ⟨_, rfl, ?_⟩
    intro a A
    refine qa ?_
    replace N : Mg w0 w37 (.row BY 1 (v34) (((acc ++ Lib.encodeRune (((c : Nat) : Int)))).length) ((Lib.byteCells ((acc ++ Lib.encodeRune (((c : Nat) : Int)))))) :: .obj gb (.cells #[pA gb 0, v34] 83) :: .obj g (rC L (q + (dcX (L.drop q)).2 + n) lg) :: T) := N.bring 1 rfl rfl
    replace N : Mg w0 w37 (.obj gb (.cells #[pA gb 0, v34] 83) :: .row BY 1 (v34) (((acc ++ Lib.encodeRune (((c : Nat) : Int)))).length) ((Lib.byteCells ((acc ++ Lib.encodeRune (((c : Nat) : Int)))))) :: .obj g (rC L (q + (dcX (L.drop q)).2 + n) lg) :: T) := N.bring 1 rfl rfl
    replace N : Mg w0 w37 (.obj g (rC L (q + (dcX (L.drop q)).2 + n) lg) :: .obj gb (.cells #[pA gb 0, v34] 83) :: .row BY 1 (v34) (((acc ++ Lib.encodeRune (((c : Nat) : Int)))).length) ((Lib.byteCells ((acc ++ Lib.encodeRune (((c : Nat) : Int)))))) :: T) := N.bring 2 rfl rfl
    rw [Nat.add_assoc] at N
    have hel := vz (((c : Nat) : Int))
    refine hK5 _ _ _ (by omega) ⟨q + ((dcX (L.drop q)).2 + n), f, acc ++ Lib.encodeRune (((c : Nat) : Int)), pA gb 0, v34, rfl, ⟨by omega, by omega, .inr rfl, hv35, fun k => absurd k ky, by rw [List.length_append]; omega, hi.go hb9 hb19 (by unfold qla; rw [if_pos (eq_of_beq hb30)]; rw [List.drop_drop, hc]; rfl)⟩, A.keep _ ⟨rfl, rfl, rfl, trivial⟩, N⟩
   ·
    have hb30' := ne_of_beq_false hb30
    refine sdc A qj hb30 λa A↦?_
    refine sda A λa A↦?_
    refine qa (hK29 _ _ (cf A ?_))
    refine wsk fun K38 hK38 => wrl ?_
    rcases tf (((((dcX (L.drop q)).1 : Nat) : Int) == 13)) with hb39 | hb39
    ·
     have hb39' := eq_of_beq hb39
     refine sdc A qj hb39 λa A↦?_
     refine sda A λa A↦?_
     refine qa (hK38 _ _ (ct A ?_))
     refine wsk fun K40 hK40 => wsk fun K41 hK41 => wrl (sdm A λa A↦?_)
     rcases tf (Lib.hasPrefix (L.drop (q + (dcX (L.drop q)).2)) [10]) with hb42 | hb42
     ·
      have htl44 : 1 ≤ (L.drop (q + (dcX (L.drop q)).2)).length := (List.isPrefixOf_iff_prefix.1 hb42).length_le
      rw [List.length_drop] at htl44
      refine sct A (ef rfl rfl) (xv (p := q + (dcX (L.drop q)).2) (L := L) (T := (.obj gb (.cells #[pb, v] 83) :: .row BY 1 (v) acc.length ((Lib.byteCells acc)) :: T)) (by omega) (by omega) hb42 N) ?_
      rintro _ w45 ⟨rfl, hM43⟩
      replace N : Mg w0 w45 (.obj g (rC L (q + (dcX (L.drop q)).2 + 1) lg) :: .obj gb (.cells #[pb, v] 83) :: .row BY 1 (v) acc.length ((Lib.byteCells acc)) :: T) := hM43
      refine ⟨_, rfl, ?_⟩
      intro a A
      refine sdo (v := bV false) A (za rfl zk) λa A↦?_
      refine qa (hK41 _ _ (cf A ?_))
      refine wp_skip (hK40 _ _ (wrl (sda A λa A↦?_)))
      refine qa (hK27 _ _ (wrl (sdm A λa A↦?_)))
      replace N : Mg w0 w45 (.row BY 1 (v) acc.length ((Lib.byteCells acc)) :: .obj g (rC L (q + (dcX (L.drop q)).2 + 1) lg) :: .obj gb (.cells #[pb, v] 83) :: T) := N.bring 2 rfl rfl
      replace N : Mg w0 w45 (.obj gb (.cells #[pb, v] 83) :: .row BY 1 (v) acc.length ((Lib.byteCells acc)) :: .obj g (rC L (q + (dcX (L.drop q)).2 + 1) lg) :: T) := N.bring 2 rfl rfl
      refine sct A (ef rfl rfl) (yl (T := (.obj g (rC L (q + (dcX (L.drop q)).2 + 1) lg) :: T)) (bs := acc) hpb (Ck.lt (N.has 0 rfl) gb rfl).1 (Nat.le_refl gb) (QL.cons hgl hQT).qm hv0 N (r := 10) (by omega) (by omega) (by omega)) ?_
      rintro _ w49 ⟨⟨z9, rfl⟩, v46, hv47, hM48⟩
      replace N : Mg w0 w49 (.obj gb (.cells #[pA gb 0, v46] 83) :: .row BY 1 (v46) (((acc ++ Lib.encodeRune 10)).length) ((Lib.byteCells ((acc ++ Lib.encodeRune 10)))) :: .obj g (rC L (q + (dcX (L.drop q)).2 + 1) lg) :: T) := hM48
      refine ⟨_, rfl, ?_⟩
      intro a A
      refine qa ?_
      replace N : Mg w0 w49 (.row BY 1 (v46) (((acc ++ Lib.encodeRune 10)).length) ((Lib.byteCells ((acc ++ Lib.encodeRune 10)))) :: .obj gb (.cells #[pA gb 0, v46] 83) :: .obj g (rC L (q + (dcX (L.drop q)).2 + 1) lg) :: T) := N.bring 1 rfl rfl
      replace N : Mg w0 w49 (.obj gb (.cells #[pA gb 0, v46] 83) :: .row BY 1 (v46) (((acc ++ Lib.encodeRune 10)).length) ((Lib.byteCells ((acc ++ Lib.encodeRune 10)))) :: .obj g (rC L (q + (dcX (L.drop q)).2 + 1) lg) :: T) := N.bring 1 rfl rfl
      replace N : Mg w0 w49 (.obj g (rC L (q + (dcX (L.drop q)).2 + 1) lg) :: .obj gb (.cells #[pA gb 0, v46] 83) :: .row BY 1 (v46) (((acc ++ Lib.encodeRune 10)).length) ((Lib.byteCells ((acc ++ Lib.encodeRune 10)))) :: T) := N.bring 2 rfl rfl
      rw [Nat.add_assoc] at N
      have hel := vz 10
      refine hK5 _ _ _ (by omega) ⟨q + ((dcX (L.drop q)).2 + 1), f, acc ++ Lib.encodeRune 10, pA gb 0, v46, rfl, ⟨by omega, by omega, .inr rfl, hv47, fun k => absurd k ky, by rw [List.length_append]; omega, hi.go hb9 hb19 (by unfold qla; rw [if_neg (ne_of_beq_false hb30), if_pos (eq_of_beq hb39), if_pos (by rw [List.drop_drop]; exact hb42)])⟩, A.keep _ ⟨rfl, rfl, rfl, trivial⟩, N⟩
     ·
      refine sct A (ef rfl rfl) (ve (p := q + (dcX (L.drop q)).2) (L := L) (T := (.obj gb (.cells #[pb, v] 83) :: .row BY 1 (v) acc.length ((Lib.byteCells acc)) :: T)) (by omega) (by omega) hb42 N) ?_
      rintro _ w51 ⟨rfl, hM50⟩
      replace N : Mg w0 w51 (.obj g (rC L (q + (dcX (L.drop q)).2) lg) :: .obj gb (.cells #[pb, v] 83) :: .row BY 1 (v) acc.length ((Lib.byteCells acc)) :: T) := hM50
      refine ⟨_, rfl, ?_⟩
      intro a A
      refine sdo (v := bV true) A (za rfl zk) λa A↦?_
      refine qa (hK41 _ _ (ct A ?_))
      refine wrl (sdm A λa A↦?_)
      rcases tf (Lib.hasPrefix (L.drop (q + (dcX (L.drop q)).2)) [194, 133]) with hb52 | hb52
      ·
       have htl54 : 2 ≤ (L.drop (q + (dcX (L.drop q)).2)).length := (List.isPrefixOf_iff_prefix.1 hb52).length_le
       rw [List.length_drop] at htl54
       refine sct A (ef rfl rfl) (xv (p := q + (dcX (L.drop q)).2) (L := L) (T := (.obj gb (.cells #[pb, v] 83) :: .row BY 1 (v) acc.length ((Lib.byteCells acc)) :: T)) (by omega) (by omega) hb52 N) ?_
       rintro _ w55 ⟨rfl, hM53⟩
       replace N : Mg w0 w55 (.obj g (rC L (q + (dcX (L.drop q)).2 + 2) lg) :: .obj gb (.cells #[pb, v] 83) :: .row BY 1 (v) acc.length ((Lib.byteCells acc)) :: T) := hM53
       refine ⟨_, rfl, ?_⟩
       intro a A
       refine qa (hK40 _ _ (wrl (sda A λa A↦?_)))
       refine qa (hK27 _ _ (wrl (sdm A λa A↦?_)))
       replace N : Mg w0 w55 (.row BY 1 (v) acc.length ((Lib.byteCells acc)) :: .obj g (rC L (q + (dcX (L.drop q)).2 + 2) lg) :: .obj gb (.cells #[pb, v] 83) :: T) := N.bring 2 rfl rfl
       replace N : Mg w0 w55 (.obj gb (.cells #[pb, v] 83) :: .row BY 1 (v) acc.length ((Lib.byteCells acc)) :: .obj g (rC L (q + (dcX (L.drop q)).2 + 2) lg) :: T) := N.bring 2 rfl rfl
       refine sct A (ef rfl rfl) (yl (T := (.obj g (rC L (q + (dcX (L.drop q)).2 + 2) lg) :: T)) (bs := acc) hpb (Ck.lt (N.has 0 rfl) gb rfl).1 (Nat.le_refl gb) (QL.cons hgl hQT).qm hv0 N (r := 10) (by omega) (by omega) (by omega)) ?_
       rintro _ w59 ⟨⟨z9, rfl⟩, v56, hv57, hM58⟩
       replace N : Mg w0 w59 (.obj gb (.cells #[pA gb 0, v56] 83) :: .row BY 1 (v56) (((acc ++ Lib.encodeRune 10)).length) ((Lib.byteCells ((acc ++ Lib.encodeRune 10)))) :: .obj g (rC L (q + (dcX (L.drop q)).2 + 2) lg) :: T) := hM58
       refine ⟨_, rfl, ?_⟩
       intro a A
       refine qa ?_
       replace N : Mg w0 w59 (.row BY 1 (v56) (((acc ++ Lib.encodeRune 10)).length) ((Lib.byteCells ((acc ++ Lib.encodeRune 10)))) :: .obj gb (.cells #[pA gb 0, v56] 83) :: .obj g (rC L (q + (dcX (L.drop q)).2 + 2) lg) :: T) := N.bring 1 rfl rfl
       replace N : Mg w0 w59 (.obj gb (.cells #[pA gb 0, v56] 83) :: .row BY 1 (v56) (((acc ++ Lib.encodeRune 10)).length) ((Lib.byteCells ((acc ++ Lib.encodeRune 10)))) :: .obj g (rC L (q + (dcX (L.drop q)).2 + 2) lg) :: T) := N.bring 1 rfl rfl
       replace N : Mg w0 w59 (.obj g (rC L (q + (dcX (L.drop q)).2 + 2) lg) :: .obj gb (.cells #[pA gb 0, v56] 83) :: .row BY 1 (v56) (((acc ++ Lib.encodeRune 10)).length) ((Lib.byteCells ((acc ++ Lib.encodeRune 10)))) :: T) := N.bring 2 rfl rfl
       rw [Nat.add_assoc] at N
       have hel := vz 10
       refine hK5 _ _ _ (by omega) ⟨q + ((dcX (L.drop q)).2 + 2), f, acc ++ Lib.encodeRune 10, pA gb 0, v56, rfl, ⟨by omega, by omega, .inr rfl, hv57, fun k => absurd k ky, by rw [List.length_append]; omega, hi.go hb9 hb19 (by unfold qla; rw [if_neg (ne_of_beq_false hb30), if_pos (eq_of_beq hb39), if_neg (by rw [List.drop_drop, hb42]; decide), if_pos (by rw [List.drop_drop]; exact hb52)])⟩, A.keep _ ⟨rfl, rfl, rfl, trivial⟩, N⟩
      ·
       refine sct A (ef rfl rfl) (ve (p := q + (dcX (L.drop q)).2) (L := L) (T := (.obj gb (.cells #[pb, v] 83) :: .row BY 1 (v) acc.length ((Lib.byteCells acc)) :: T)) (by omega) (by omega) hb52 N) ?_
       rintro _ w61 ⟨rfl, hM60⟩
       replace N : Mg w0 w61 (.obj g (rC L (q + (dcX (L.drop q)).2) lg) :: .obj gb (.cells #[pb, v] 83) :: .row BY 1 (v) acc.length ((Lib.byteCells acc)) :: T) := hM60
       refine ⟨_, rfl, ?_⟩
       intro a A
       refine qa (hK40 _ _ (wrl (sda A λa A↦?_)))
       refine qa (hK27 _ _ (wrl (sdm A λa A↦?_)))
       replace N : Mg w0 w61 (.row BY 1 (v) acc.length ((Lib.byteCells acc)) :: .obj g (rC L (q + (dcX (L.drop q)).2) lg) :: .obj gb (.cells #[pb, v] 83) :: T) := N.bring 2 rfl rfl
       replace N : Mg w0 w61 (.obj gb (.cells #[pb, v] 83) :: .row BY 1 (v) acc.length ((Lib.byteCells acc)) :: .obj g (rC L (q + (dcX (L.drop q)).2) lg) :: T) := N.bring 2 rfl rfl
       refine sct A (ef rfl rfl) (yl (T := (.obj g (rC L (q + (dcX (L.drop q)).2) lg) :: T)) (bs := acc) hpb (Ck.lt (N.has 0 rfl) gb rfl).1 (Nat.le_refl gb) (QL.cons hgl hQT).qm hv0 N (r := 10) (by omega) (by omega) (by omega)) ?_
       rintro _ w65 ⟨⟨z9, rfl⟩, v62, hv63, hM64⟩
       replace N : Mg w0 w65 (.obj gb (.cells #[pA gb 0, v62] 83) :: .row BY 1 (v62) (((acc ++ Lib.encodeRune 10)).length) ((Lib.byteCells ((acc ++ Lib.encodeRune 10)))) :: .obj g (rC L (q + (dcX (L.drop q)).2) lg) :: T) := hM64
       refine ⟨_, rfl, ?_⟩
       intro a A
       refine qa ?_
       replace N : Mg w0 w65 (.row BY 1 (v62) (((acc ++ Lib.encodeRune 10)).length) ((Lib.byteCells ((acc ++ Lib.encodeRune 10)))) :: .obj gb (.cells #[pA gb 0, v62] 83) :: .obj g (rC L (q + (dcX (L.drop q)).2) lg) :: T) := N.bring 1 rfl rfl
       replace N : Mg w0 w65 (.obj gb (.cells #[pA gb 0, v62] 83) :: .row BY 1 (v62) (((acc ++ Lib.encodeRune 10)).length) ((Lib.byteCells ((acc ++ Lib.encodeRune 10)))) :: .obj g (rC L (q + (dcX (L.drop q)).2) lg) :: T) := N.bring 1 rfl rfl
       replace N : Mg w0 w65 (.obj g (rC L (q + (dcX (L.drop q)).2) lg) :: .obj gb (.cells #[pA gb 0, v62] 83) :: .row BY 1 (v62) (((acc ++ Lib.encodeRune 10)).length) ((Lib.byteCells ((acc ++ Lib.encodeRune 10)))) :: T) := N.bring 2 rfl rfl
       rw [← Nat.add_zero ((dcX (L.drop q)).2)] at N
       have hel := vz 10
       refine hK5 _ _ _ (by omega) ⟨q + ((dcX (L.drop q)).2 + 0), f, acc ++ Lib.encodeRune 10, pA gb 0, v62, rfl, ⟨by omega, by omega, .inr rfl, hv63, fun k => absurd k ky, by rw [List.length_append]; omega, hi.go hb9 hb19 (by unfold qla; rw [if_neg (ne_of_beq_false hb30), if_pos (eq_of_beq hb39), if_neg (by rw [List.drop_drop, hb42]; decide), if_neg (by rw [List.drop_drop, hb52]; decide)])⟩, A.keep _ ⟨rfl, rfl, rfl, trivial⟩, N⟩
    ·
     have hb39' := ne_of_beq_false hb39
     refine sdc A qj hb39 λa A↦?_
     refine sda A λa A↦?_
     refine qa (hK38 _ _ (cf A ?_))
     refine wsk fun K66 hK66 => wsk fun K67 hK67 => wrl ?_
     rcases tf (((((dcX (L.drop q)).1 : Nat) : Int) == 133)) with hb68 | hb68
     ·
      have hb68' := eq_of_beq hb68
      refine sdc A qj hb68 λa A↦?_
      refine sda A λa A↦?_
      refine qa (hK67 _ _ (ct A ?_))
      refine wp_skip (hK66 _ _ (ct A ?_))
      refine wrl (sda A λa A↦?_)
      refine qa (hK27 _ _ (wrl (sdm A λa A↦?_)))
      replace N : Mg w0 w26 (.row BY 1 (v) acc.length ((Lib.byteCells acc)) :: .obj g (rC L (q + (dcX (L.drop q)).2) lg) :: .obj gb (.cells #[pb, v] 83) :: T) := N.bring 2 rfl rfl
      replace N : Mg w0 w26 (.obj gb (.cells #[pb, v] 83) :: .row BY 1 (v) acc.length ((Lib.byteCells acc)) :: .obj g (rC L (q + (dcX (L.drop q)).2) lg) :: T) := N.bring 2 rfl rfl
      refine sct A (ef rfl rfl) (yl (T := (.obj g (rC L (q + (dcX (L.drop q)).2) lg) :: T)) (bs := acc) hpb (Ck.lt (N.has 0 rfl) gb rfl).1 (Nat.le_refl gb) (QL.cons hgl hQT).qm hv0 N (r := 10) (by omega) (by omega) (by omega)) ?_
      rintro _ w72 ⟨⟨z9, rfl⟩, v69, hv70, hM71⟩
      replace N : Mg w0 w72 (.obj gb (.cells #[pA gb 0, v69] 83) :: .row BY 1 (v69) (((acc ++ Lib.encodeRune 10)).length) ((Lib.byteCells ((acc ++ Lib.encodeRune 10)))) :: .obj g (rC L (q + (dcX (L.drop q)).2) lg) :: T) := hM71
      refine ⟨_, rfl, ?_⟩
      intro a A
      refine qa ?_
      replace N : Mg w0 w72 (.row BY 1 (v69) (((acc ++ Lib.encodeRune 10)).length) ((Lib.byteCells ((acc ++ Lib.encodeRune 10)))) :: .obj gb (.cells #[pA gb 0, v69] 83) :: .obj g (rC L (q + (dcX (L.drop q)).2) lg) :: T) := N.bring 1 rfl rfl
      replace N : Mg w0 w72 (.obj gb (.cells #[pA gb 0, v69] 83) :: .row BY 1 (v69) (((acc ++ Lib.encodeRune 10)).length) ((Lib.byteCells ((acc ++ Lib.encodeRune 10)))) :: .obj g (rC L (q + (dcX (L.drop q)).2) lg) :: T) := N.bring 1 rfl rfl
      replace N : Mg w0 w72 (.obj g (rC L (q + (dcX (L.drop q)).2) lg) :: .obj gb (.cells #[pA gb 0, v69] 83) :: .row BY 1 (v69) (((acc ++ Lib.encodeRune 10)).length) ((Lib.byteCells ((acc ++ Lib.encodeRune 10)))) :: T) := N.bring 2 rfl rfl
      have hel := vz 10
      refine hK5 _ _ _ (by omega) ⟨q + (dcX (L.drop q)).2, f, acc ++ Lib.encodeRune 10, pA gb 0, v69, rfl, ⟨by omega, by omega, .inr rfl, hv70, fun k => absurd k ky, by rw [List.length_append]; omega, hi.go hb9 hb19 (by unfold qla; rw [if_neg (ne_of_beq_false hb30), if_neg (ne_of_beq_false hb39), if_pos (eq_of_beq hb68)])⟩, A.keep _ ⟨rfl, rfl, rfl, trivial⟩, N⟩
     ·
      have hb68' := ne_of_beq_false hb68
      refine sdc A qj hb68 λa A↦?_
      refine sda A λa A↦?_
      refine qa (hK67 _ _ (cf A ?_))
      refine wrl ?_
      rcases tf (((((dcX (L.drop q)).1 : Nat) : Int) == 8232)) with hb73 | hb73
      ·
       have hb73' := eq_of_beq hb73
       refine sdc A qj hb73 λa A↦?_
       refine sda A λa A↦?_
       refine qa (hK66 _ _ (ct A ?_))
       refine wrl (sda A λa A↦?_)
       refine qa (hK27 _ _ (wrl (sdm A λa A↦?_)))
       replace N : Mg w0 w26 (.row BY 1 (v) acc.length ((Lib.byteCells acc)) :: .obj g (rC L (q + (dcX (L.drop q)).2) lg) :: .obj gb (.cells #[pb, v] 83) :: T) := N.bring 2 rfl rfl
       replace N : Mg w0 w26 (.obj gb (.cells #[pb, v] 83) :: .row BY 1 (v) acc.length ((Lib.byteCells acc)) :: .obj g (rC L (q + (dcX (L.drop q)).2) lg) :: T) := N.bring 2 rfl rfl
       refine sct A (ef rfl rfl) (yl (T := (.obj g (rC L (q + (dcX (L.drop q)).2) lg) :: T)) (bs := acc) hpb (Ck.lt (N.has 0 rfl) gb rfl).1 (Nat.le_refl gb) (QL.cons hgl hQT).qm hv0 N (r := 10) (by omega) (by omega) (by omega)) ?_
       rintro _ w77 ⟨⟨z9, rfl⟩, v74, hv75, hM76⟩
       replace N : Mg w0 w77 (.obj gb (.cells #[pA gb 0, v74] 83) :: .row BY 1 (v74) (((acc ++ Lib.encodeRune 10)).length) ((Lib.byteCells ((acc ++ Lib.encodeRune 10)))) :: .obj g (rC L (q + (dcX (L.drop q)).2) lg) :: T) := hM76
       refine ⟨_, rfl, ?_⟩
       intro a A
       refine qa ?_
       replace N : Mg w0 w77 (.row BY 1 (v74) (((acc ++ Lib.encodeRune 10)).length) ((Lib.byteCells ((acc ++ Lib.encodeRune 10)))) :: .obj gb (.cells #[pA gb 0, v74] 83) :: .obj g (rC L (q + (dcX (L.drop q)).2) lg) :: T) := N.bring 1 rfl rfl
       replace N : Mg w0 w77 (.obj gb (.cells #[pA gb 0, v74] 83) :: .row BY 1 (v74) (((acc ++ Lib.encodeRune 10)).length) ((Lib.byteCells ((acc ++ Lib.encodeRune 10)))) :: .obj g (rC L (q + (dcX (L.drop q)).2) lg) :: T) := N.bring 1 rfl rfl
       replace N : Mg w0 w77 (.obj g (rC L (q + (dcX (L.drop q)).2) lg) :: .obj gb (.cells #[pA gb 0, v74] 83) :: .row BY 1 (v74) (((acc ++ Lib.encodeRune 10)).length) ((Lib.byteCells ((acc ++ Lib.encodeRune 10)))) :: T) := N.bring 2 rfl rfl
       have hel := vz 10
       refine hK5 _ _ _ (by omega) ⟨q + (dcX (L.drop q)).2, f, acc ++ Lib.encodeRune 10, pA gb 0, v74, rfl, ⟨by omega, by omega, .inr rfl, hv75, fun k => absurd k ky, by rw [List.length_append]; omega, hi.go hb9 hb19 (by unfold qla; rw [if_neg (ne_of_beq_false hb30), if_neg (ne_of_beq_false hb39), if_neg (ne_of_beq_false hb68), if_pos (eq_of_beq hb73)])⟩, A.keep _ ⟨rfl, rfl, rfl, trivial⟩, N⟩
      ·
       have hb73' := ne_of_beq_false hb73
       refine sdc A qj hb73 λa A↦?_
       refine sda A λa A↦?_
       refine qa (hK66 _ _ (cf A ?_))
       refine wp_skip (hK27 _ _ (wrl (sdm A λa A↦?_)))
       replace N : Mg w0 w26 (.row BY 1 (v) acc.length ((Lib.byteCells acc)) :: .obj g (rC L (q + (dcX (L.drop q)).2) lg) :: .obj gb (.cells #[pb, v] 83) :: T) := N.bring 2 rfl rfl
       replace N : Mg w0 w26 (.obj gb (.cells #[pb, v] 83) :: .row BY 1 (v) acc.length ((Lib.byteCells acc)) :: .obj g (rC L (q + (dcX (L.drop q)).2) lg) :: T) := N.bring 2 rfl rfl
       have hcr := qlc (L.drop q)
       refine sct A (ef rfl rfl) (yl (T := (.obj g (rC L (q + (dcX (L.drop q)).2) lg) :: T)) (bs := acc) hpb (Ck.lt (N.has 0 rfl) gb rfl).1 (Nat.le_refl gb) (QL.cons hgl hQT).qm hv0 N (r := (((dcX (L.drop q)).1 : Nat) : Int)) (by omega) (by omega) (by omega)) ?_
       rintro _ w81 ⟨⟨z9, rfl⟩, v78, hv79, hM80⟩
       replace N : Mg w0 w81 (.obj gb (.cells #[pA gb 0, v78] 83) :: .row BY 1 (v78) (((acc ++ Lib.encodeRune ((((dcX (L.drop q)).1 : Nat) : Int)))).length) ((Lib.byteCells ((acc ++ Lib.encodeRune ((((dcX (L.drop q)).1 : Nat) : Int)))))) :: .obj g (rC L (q + (dcX (L.drop q)).2) lg) :: T) := hM80
       refine ⟨_, rfl, ?_⟩
       intro a A
       refine qa ?_
       replace N : Mg w0 w81 (.row BY 1 (v78) (((acc ++ Lib.encodeRune ((((dcX (L.drop q)).1 : Nat) : Int)))).length) ((Lib.byteCells ((acc ++ Lib.encodeRune ((((dcX (L.drop q)).1 : Nat) : Int)))))) :: .obj gb (.cells #[pA gb 0, v78] 83) :: .obj g (rC L (q + (dcX (L.drop q)).2) lg) :: T) := N.bring 1 rfl rfl
       replace N : Mg w0 w81 (.obj gb (.cells #[pA gb 0, v78] 83) :: .row BY 1 (v78) (((acc ++ Lib.encodeRune ((((dcX (L.drop q)).1 : Nat) : Int)))).length) ((Lib.byteCells ((acc ++ Lib.encodeRune ((((dcX (L.drop q)).1 : Nat) : Int)))))) :: .obj g (rC L (q + (dcX (L.drop q)).2) lg) :: T) := N.bring 1 rfl rfl
       replace N : Mg w0 w81 (.obj g (rC L (q + (dcX (L.drop q)).2) lg) :: .obj gb (.cells #[pA gb 0, v78] 83) :: .row BY 1 (v78) (((acc ++ Lib.encodeRune ((((dcX (L.drop q)).1 : Nat) : Int)))).length) ((Lib.byteCells ((acc ++ Lib.encodeRune ((((dcX (L.drop q)).1 : Nat) : Int)))))) :: T) := N.bring 2 rfl rfl
       have hel := vz ((((dcX (L.drop q)).1 : Nat) : Int))
       refine hK5 _ _ _ (by omega) ⟨q + (dcX (L.drop q)).2, f, acc ++ Lib.encodeRune ((((dcX (L.drop q)).1 : Nat) : Int)), pA gb 0, v78, rfl, ⟨by omega, by omega, .inr rfl, hv79, fun k => absurd k ky, by rw [List.length_append]; omega, hi.go hb9 hb19 (by unfold qla; rw [if_neg (ne_of_beq_false hb30), if_neg (ne_of_beq_false hb39), if_neg (ne_of_beq_false hb68), if_neg (ne_of_beq_false hb73)])⟩, A.keep _ ⟨rfl, rfl, rfl, trivial⟩, N⟩
end Go.Proofs.YtclkfideaameoaaGreatDoor.G
namespace Go.Proofs
open Go.Shelf
def Tryz.laysM316_ren : Go.Shelf.Ren := ⟨fun | 316 => 123 | n => n, fun | 9 => 9 | 3 => 3 | 4 => 4 | 37 => 27 | 0 => 0 | 127 => 114 | 5 => 5 | n => n, fun | n => n⟩
theorem Tryz.laysM316 : Go.Proofs.LaysM.n316 Tryz.prog Tryz.laysM316_ren := {
  mixed := by kernel_rfl
  f316 := Tryz.func123.trans (congrArg some (by kernel_rfl))
  t0 := Tryz.underlying0
  a0 := Tryz.isAgg0
  z0 := Tryz.sizeOf0
  v0 := Tryz.zeroValue0
  t3 := Tryz.underlying3
  a3 := Tryz.isAgg3
  z3 := Tryz.sizeOf3
  v3 := Tryz.zeroValue3
  t4 := Tryz.underlying4
  a4 := Tryz.isAgg4
  z4 := Tryz.sizeOf4
  v4 := Tryz.zeroValue4
  t9 := Tryz.underlying9
  a9 := Tryz.isAgg9
  z9 := Tryz.sizeOf9
  v9 := Tryz.zeroValue9
  t37 := Tryz.underlying27
  a37 := Tryz.isAgg27
  z37 := Tryz.sizeOf27
  v37 := Tryz.zeroValue27
  t127 := Tryz.underlying114
  a127 := Tryz.isAgg114
  z127 := Tryz.sizeOf114
  v127 := Tryz.zeroValue114
  t5 := Tryz.underlying5
  a5 := Tryz.isAgg5
  z5 := Tryz.sizeOf5
  v5 := Tryz.zeroValue5
  i0 := by kernel_rfl
  i3 := by kernel_rfl
  i4 := by kernel_rfl
  i5 := by kernel_rfl
  i9 := by kernel_rfl
  i37 := by kernel_rfl
  i127 := by kernel_rfl }
open Go.RowKit in
theorem Tryz.stringslite_Clone (s : ByteArray) (w : World) (hlim : s.size ≤ 281474976710656) :
    Calls Tryz.prog 123 #[.string s] w fun e w' => e = .returned (.string s) ∧ Below w.heap.size w w' := Any.stringslite_Clone Tryz.laysM316 s w hlim
end Go.Proofs
namespace Go.Proofs.YtclkfideaameoaaGreatDoor.G
open Go.RowKit
set_option maxRecDepth 100000
def qmi (ne : Bool) (l : List UInt8) : Option (Int × Nat) :=
 if (((dcX l).1 : Nat) : Int) = 92 then (if Lib.hasPrefix (l.drop (dcX l).2) [120] = true then (dgX (l.drop ((dcX l).2 + 1))).map (fun r => (((r.1 : Nat) : Int), (dcX l).2 + 1 + r.2)) else none)
 else if C.firstB (((dcX l).1 : Nat) : Int) = true then some ((((dcX l).1 : Nat) : Int), (dcX l).2)
 else if ne = true then (if C.restB (((dcX l).1 : Nat) : Int) = true then some ((((dcX l).1 : Nat) : Int), (dcX l).2) else none)
 else none
def qqe : Nat → Bool → List UInt8 → Option (List UInt8)
 | 0, _, _ => none
 | f + 1, ne, l => if l.isEmpty = true then some [] else (qmi ne l).bind fun c => (qqe f true (l.drop c.2)).map (Lib.encodeRune c.1 ++ ·)
def qmj (l : List UInt8) : Option (List UInt8) := if l = [43] then some l else if l = [45] then some l else if l = [46, 46, 46] then some l else if Lib.hasPrefix l [45, 62] = true then (qqe (l.length + 1) true (l.drop 2)).map ([45, 62] ++ ·) else qqe (l.length + 1) false l
def SI (L : List UInt8) (R : Option (List UInt8)) (q f : Nat) (acc : List UInt8) : Prop := R = (qqe f (!acc.isEmpty) (L.drop q)).map (acc ++ ·)
theorem SI.go {L acc : List UInt8} {R : Option (List UInt8)} {q f n : Nat} {c : Int} (h : SI L R q (f + 1) acc) (h2 : (L.drop q).isEmpty = false) (h3 : qmi (!acc.isEmpty) (L.drop q) = some (c, n)) : SI L R (q + n) f (acc ++ Lib.encodeRune c) := by
 unfold SI at h ⊢
 rw [h, qqe, if_neg (by rw [h2]; decide), h3, show (acc ++ Lib.encodeRune c).isEmpty = false from by
  cases k : (acc ++ Lib.encodeRune c).isEmpty with
  | false => rfl
  | true => exact absurd (List.isEmpty_iff.1 k) ky]
 show ((qqe f true ((L.drop q).drop n)).map _).map _ = (qqe f true _).map _
 rw [Option.map_map, List.drop_drop]
 congr 1
 funext r
 show acc ++ (Lib.encodeRune c ++ r) = acc ++ Lib.encodeRune c ++ r
 rw [List.append_assoc]
theorem SI.fin {L acc : List UInt8} {R : Option (List UInt8)} {q f : Nat} (h : SI L R q (f + 1) acc) (h2 : (L.drop q).isEmpty = true) : R = some acc := by
 unfold SI at h
 rw [h, qqe, if_pos h2]
 show some (acc ++ []) = _
 rw [List.append_nil]
theorem SI.no {L acc : List UInt8} {R : Option (List UInt8)} {q f : Nat} (h : SI L R q (f + 1) acc) (h2 : (L.drop q).isEmpty = false) (h3 : qmi (!acc.isEmpty) (L.drop q) = none) : R = none := by
 unfold SI at h
 rw [h, qqe, if_neg (by rw [h2]; decide), h3]
 rfl
theorem qva {w : World} {r : Int} {b : Bool} (h : C.OkR r) (hb : C.firstB r = b) : Calls Tryz.prog 97 #[.int .i32 r] w fun e w' => e = .returned (bV b) ∧ Below w.heap.size w w' := hb ▸ C.isFirstD_any r h w
theorem zgc {w : World} {r : Int} {b : Bool} (h : C.OkR r) (hb : C.restB r = b) : Calls Tryz.prog 99 #[.int .i32 r] w fun e w' => e = .returned (bV b) ∧ Below w.heap.size w w' := hb ▸ C.isRestD_any r h w
theorem zbh {acc : List UInt8} {b : Bool} (h : decide (0 < ((acc.length : Nat) : Int)) = b) : (!acc.isEmpty) = b := by
 rw [← h]
 cases acc with
 | nil => rfl
 | cons a t => exact (decide_eq_true (by simp only [List.length_cons]; omega)).symm
theorem qci {w : World} {l : List UInt8} (hs : l.length ≤ 1000000000) : Calls Tryz.prog 95 #[.string (tx l)] w fun e w' => e = .returned (.string (tx l)) ∧ Below w.heap.size w w' := by
 have N : Mg w w ([]) := Mg.start w
 refine qr (l := [(0, .string ((tx l)))]) Tryz.func95 rfl Tryz.ntmps95 rfl rfl ?_
 intro Q hret hnorm hP a A
 refine wsk fun K1 hK1 => wrl (sda A λa A↦?_)
 refine qa (hK1 _ _ (wsk fun K2 hK2 => wrl (sdm A λa A↦?_)))
 refine gcl A N (ef rfl rfl) (Tryz.stringslite_Clone (tx l) _ (by rw [jt]; omega)) fun w3 hb9 N a A => ?_
 refine sda A λa A↦?_
 refine qa (hK2 _ _ (wr1 hret A ?_))
 exact ⟨rfl, N.bel⟩
theorem jgc {w0 w : World} {gb : Nat} {p v : Value} {bs : List UInt8} {T : List Ck} (hp : p = .pointer none ∨ p = (pA gb 0)) (hM0 : Mg w0 w (.obj gb (.cells #[p, v] 83) :: .row BY 1 v bs.length (Lib.byteCells bs) :: T)) {s : ByteArray} (hroom : bs.length + s.size ≤ 140737488355328) : Calls Tryz.prog 96 #[pA gb 0, .string s] w fun e w' => (∃ z, e = .returned z) ∧ ∃ v', Mg w0 w' (.obj gb (.cells #[pA gb 0, v'] 83) :: .row BY 1 v' (bs ++ s.data.toList).length (Lib.byteCells (bs ++ s.data.toList)) :: T) := by
 have N : Mg w0 w (.obj gb (.cells #[p, v] 83) :: .row BY 1 (v) bs.length ((Lib.byteCells bs)) :: T) := hM0
 refine qr (l := [(0, pA gb 0), (1, .string s)]) Tryz.func96 rfl Tryz.ntmps96 rfl rfl ?_
 intro Q hret hnorm hP a A
 refine wsk fun K1 hK1 => wrl ?_
 iterate 2 refine sda A λa A↦?_
 refine qa (hK1 _ _ (wsk fun K2 hK2 => wrl (sdm A λa A↦?_)))
 refine sct A (ef rfl rfl) (zfg hp N) ?_
 rintro _ w3 ⟨rfl, hMc⟩
 replace N : Mg w0 w3 (.obj gb (.cells #[pA gb 0, v] 83) :: .row BY 1 (v) bs.length ((Lib.byteCells bs)) :: T) := hMc
 refine ⟨_, rfl, ?_⟩
 intro a A
 refine qa (hK2 _ _ (wsk fun K4 hK4 => wrl ?_))
 iterate 2 refine sdm A λa A↦?_
 refine sdo A (jo rfl) λa A↦?_
 refine sdo (v := pA gb 1) A (qe qch rfl rfl) λa A↦?_
 refine sdo A (zi N qmg rfl 0 rfl rfl) λa A↦?_
 refine sdm A λa A↦?_
 refine qta (k := 1) (q := bs.length) (m := s.size) (xs := Lib.byteCells bs) (news := Lib.strCells s) (L' := fun v5 => (.obj gb (.cells #[pA gb 0, v] 83) :: .row BY 1 (v5) ((bs.length + s.size)) ((Lib.byteCells bs ++ Lib.strCells s)) :: T)) A rfl rfl rfl (qub Tryz.underlying27 Tryz.underlying9 (by kernel_rfl) N 1 rfl rfl rfl (by omega)) (fun _ => rfl) ?_
 intro v5 w6 N a A
 obtain ⟨so7, ca8, rfl⟩ := ug (N.has 1 rfl)
 refine sdo A (jo rfl) λa A↦?_
 refine sdo (v := pA gb 1) A (qe qch rfl rfl) λa A↦?_
 refine zh (L' := (.obj gb (.cells #[pA gb 0, .slice so7 (bs.length + s.size) ca8] 83) :: .row BY 1 (.slice so7 (bs.length + s.size) ca8) ((bs.length + s.size)) ((Lib.byteCells bs ++ Lib.strCells s)) :: T)) A N rfl rfl (qy rfl rfl rfl (by kernel_rfl) N 0 rfl rfl rfl) 0 rfl rfl rfl ?_
 intro w9 N
 refine qa (hK4 _ _ (wsk fun K10 hK10 => wrl (sdm A λa A↦?_)))
 refine sdo (v := iV (((s.size : Nat) : Int))) A (qdd rfl (ztg Tryz.underlying9)) λa A↦?_
 iterate 2 refine sda A λa A↦?_
 refine qa (hK10 _ _ (wp_ret (hret _ _ (en2 A rfl (qg rfl) (qg rfl) ?_))))
 refine ⟨⟨_, rfl⟩, .slice so7 (bs.length + s.size) ca8, ?_⟩
 rw [← zwe, Lib.byteCells_append, ← zje]
 exact N
theorem jjb {w0 w : World} {gb : Nat} {p v : Value} {bs : List UInt8} {T : List Ck} (hM0 : Mg w0 w (.obj gb (.cells #[p, v] 83) :: .row BY 1 v bs.length (Lib.byteCells bs) :: T)) : Calls Tryz.prog 98 #[pA gb 0] w fun e w' => e = .returned (iV ((bs.length : Nat) : Int)) ∧ Mg w0 w' (.obj gb (.cells #[p, v] 83) :: .row BY 1 v bs.length (Lib.byteCells bs) :: T) := by
 obtain ⟨so0, ca0, rfl⟩ := ug (hM0.has 1 rfl)
 have N : Mg w0 w (.obj gb (.cells #[p, .slice so0 bs.length ca0] 83) :: .row BY 1 (.slice so0 bs.length ca0) bs.length ((Lib.byteCells bs)) :: T) := hM0
 refine qr (l := [(0, pA gb 0)]) Tryz.func98 rfl Tryz.ntmps98 rfl rfl ?_
 intro Q hret hnorm hP a A
 refine wsk fun K1 hK1 => wrl (sda A λa A↦?_)
 refine qa (hK1 _ _ (wsk fun K2 hK2 => wrl (sdm A λa A↦?_)))
 refine sdo A (jo rfl) λa A↦?_
 refine sdo (v := pA gb 1) A (qe qch rfl rfl) λa A↦?_
 refine sdo A (zi N qmg rfl 0 rfl rfl) λa A↦?_
 refine sdo A (zp Tryz.underlying27 rfl) λa A↦?_
 refine sda A λa A↦?_
 refine qa (hK2 _ _ (wr1 hret A ?_))
 exact ⟨rfl, N⟩
theorem qvb {P : Program} {t : TypeId} {x y : Operand} {a : List UInt8} (hu : P.underlying t = some .string) : ∀ w, (do eqGuard .eql t x y (.string (tx a)) (.string (tx [])); binOp .eql t (.string (tx a)) (.string (tx [])) : Sem Value).run P w = .ok (bV a.isEmpty) w := fun w => by
 rw [ze hu w]
 cases a with
 | nil => rfl
 | cons b t => rw [decide_eq_false (by simp)]; rfl
theorem qef {P : Program} {t : TypeId} {x y : Operand} {a : List UInt8} (hu : P.underlying t = some .string) : ∀ w, (do eqGuard .neq t x y (.string (tx a)) (.string (tx [])); binOp .neq t (.string (tx a)) (.string (tx [])) : Sem Value).run P w = .ok (bV (!a.isEmpty)) w := fun w => by
 rw [zki hu w]
 cases a with
 | nil => rfl
 | cons b t => rw [decide_eq_false (by simp)]; rfl
theorem zbi {w : World} {L : List UInt8} (hN : Env w) (hl : L.length ≤ 1000000000) : Calls Tryz.prog 65 #[.string (tx L)] w fun e w' => (e = .panicked flt ∧ qmj L = none ∧ Below w.heap.size w w') ∨ ∃ s, e = .returned (.string (tx s)) ∧ (qmj L = some s ∧ s.length ≤ 4 * L.length) ∧ Below w.heap.size w w' := by
 have hT := hN.tb
 have N : Mg w w ([]) := Mg.start w
 refine ji (l := [(0, .string ((tx L)))]) Tryz.func65 rfl Tryz.ntmps65 rfl rfl ?_
 intro Q hret hnorm hP hX a A
 refine wsk fun K1 hK1 => wrl (sda A λa A↦?_)
 refine qa (hK1 _ _ (wsk fun K2 hK2 => wrl (zod (vs := [.pointer none, .slice none 0 0]) (t := 83) A N rfl rfl rfl pg (ql (z := .agg #[.pointer none, .slice none 0 0]) (by kernel_rfl) rfl) (by decide) ?_)))
 intro gb w1 N hgb hB1 a A
 replace N := N.nilRow (zq (by simp) (qtb qyh)) BY 1
 replace N : Mg w w1 (.row BY 1 (.slice none 0 0) (([] : List UInt8).length) ((Lib.byteCells ([] : List UInt8))) :: .obj gb (.cells #[.pointer none, .slice none 0 0] 83) :: []) := N
 refine qa (hK2 _ _ (wsk fun K3 hK3 => wrl (sdm A λa A↦?_)))
 refine sdo (v := .agg #[.string ((tx L)), iV 0, bV false]) A (qw rfl (fun w => by kernel_rfl)) λa A↦?_
 refine vr (vs := [.string (⟨#[]⟩), iV 0, bV false]) (t := 50) A N rfl rfl rfl pg (ql (z := .agg #[.string (⟨#[]⟩), iV 0, bV false]) (by kernel_rfl) rfl) (by decide) ?_
 intro g4 w5 N a A
 refine zh (L' := (.obj g4 (.cells #[.string ((tx L)), iV 0, bV false] 50) :: .row BY 1 (.slice none 0 0) (([] : List UInt8).length) ((Lib.byteCells ([] : List UInt8))) :: .obj gb (.cells #[.pointer none, .slice none 0 0] 83) :: [])) A N rfl rfl (qy rfl rfl rfl (by kernel_rfl) N 0 rfl rfl rfl) 0 rfl rfl rfl ?_
 intro w6 N
 refine qa (hK3 _ _ (wsk fun K7 hK7 => ?_))
 have hJ8 : ∀ a w1, (∃ (q : Nat) (f : Nat) (acc : List UInt8) (pb : Value) (v : Value), (q ≤ L.length ∧ L.length - q < f ∧ (pb = .pointer none ∨ pb = (pA gb 0)) ∧ (acc = [] → v = .slice none 0 0) ∧ acc.length ≤ 4 * q ∧ SI L (qmj L) q f acc) ∧ Sl a 42 [(0, .string ((tx L))), (3, pA gb 0), (4, pA g4 0), (6, .string ((tx L))), (7, .agg #[.string ((tx L)), iV 0, bV false])] ∧ Mg w w1 (.obj g4 (rC L q false) :: .obj gb (.cells #[pb, v] 83) :: .row BY 1 (v) acc.length ((Lib.byteCells acc)) :: [])) → K7 a w1 := by
  clear A N
  rintro a w9 ⟨q, f, acc, pb, v, hf10, A, N⟩
  have hf9 := hf10
  refine hK7 _ _ (wsk fun K11 hK11 => wp_block (jd (fun m_ a w1 => ∃ (q : Nat) (f : Nat) (acc : List UInt8) (pb : Value) (v : Value), m_ = 1 + (L.length - q) ∧ (q ≤ L.length ∧ L.length - q < f ∧ (pb = .pointer none ∨ pb = (pA gb 0)) ∧ (acc = [] → v = .slice none 0 0) ∧ acc.length ≤ 4 * q ∧ SI L (qmj L) q f acc) ∧ Sl a 42 [(0, .string ((tx L))), (3, pA gb 0), (4, pA g4 0), (6, .string ((tx L))), (7, .agg #[.string ((tx L)), iV 0, bV false])] ∧ Mg w w1 (.obj g4 (rC L q false) :: .obj gb (.cells #[pb, v] 83) :: .row BY 1 (v) acc.length ((Lib.byteCells acc)) :: [])) _ ⟨q, f, acc, pb, v, rfl, hf9, A.keep _ ⟨rfl, rfl, rfl, rfl, rfl, trivial⟩, N⟩ ?_))
  clear N A
  rintro m_ a w12 ⟨q, f, acc, pb, v, rfl, hinv14, A, N⟩ K13 hK13
  obtain ⟨hq0, hf0, hpb, hz0, hr0, hi⟩ := hinv14
  obtain ⟨f, rfl⟩ : ∃ f1, f = f1 + 1 := ⟨f - 1, by omega⟩
  refine wsk fun K15 hK15 => wsk fun K16 hK16 => wrl (sct A (ef rfl rfl) (xg (p := q) (L := L) (T := (.obj gb (.cells #[pb, v] 83) :: .row BY 1 (v) acc.length ((Lib.byteCells acc)) :: [])) (by omega) N) ?_)
  rintro _ w18 ⟨rfl, hM17⟩
  replace N : Mg w w18 (.obj g4 (rC L q false) :: .obj gb (.cells #[pb, v] 83) :: .row BY 1 (v) acc.length ((Lib.byteCells acc)) :: []) := hM17
  refine ⟨_, rfl, ?_⟩
  intro a A
  rcases tf ((L.drop q).isEmpty) with hb19 | hb19
  ·
   refine sdo (v := bV false) A (qb rfl rfl (fun w => (qef (a := L.drop q) Tryz.underlying9 w).trans (by rw [hb19] <;> rfl))) λa A↦?_
   refine qa (hK16 _ _ (cf A ?_))
   refine wp_exit (hK11 _ _ (wsk fun K20 hK20 => wrl ?_))
   replace N : Mg w w18 (.row BY 1 (v) acc.length ((Lib.byteCells acc)) :: .obj g4 (rC L q false) :: .obj gb (.cells #[pb, v] 83) :: []) := N.bring 2 rfl rfl
   replace N : Mg w w18 (.obj gb (.cells #[pb, v] 83) :: .row BY 1 (v) acc.length ((Lib.byteCells acc)) :: .obj g4 (rC L q false) :: []) := N.bring 2 rfl rfl
   refine sct A (ef rfl rfl) (quj (M := w.heap.size) (T := (.obj g4 (rC L q false) :: [])) N (qkf (N.has 1 rfl) (Nat.le_refl _)).2 hz0 (by omega)) ?_
   rintro _ w22 ⟨rfl, hb21⟩
   replace N : Mg w w22 ([]) := ⟨N.bel.trans hb21, by simp, .nil⟩
   refine ⟨_, rfl, ?_⟩
   intro a A
   refine sda A λa A↦?_
   refine qa (hK20 _ _ (wr1 hret A ?_))
   exact .inr ⟨acc, rfl, ⟨hi.fin hb19, by omega⟩, N.bel⟩
  ·
   refine sdo (v := bV true) A (qb rfl rfl (fun w => (qef (a := L.drop q) Tryz.underlying9 w).trans (by rw [hb19] <;> rfl))) λa A↦?_
   refine qa (hK16 _ _ (ct A ?_))
   refine wp_skip (hK15 _ _ (wp_block (wsk fun K23 hK23 => wrl ?_)))
   have hne27 : (L.drop q) ≠ [] := fun k => by rw [k] at hb19; cases hb19
   obtain ⟨hw25, hw26⟩ := xl hne27
   rw [List.length_drop] at hw26
   refine sct A (ef rfl rfl) (qid (p := q) (L := L) (T := (.obj gb (.cells #[pb, v] 83) :: .row BY 1 (v) acc.length ((Lib.byteCells acc)) :: [])) hT (by omega) (by omega) hne27 N) ?_
   rintro _ w28 ⟨rfl, hM24⟩
   replace N : Mg w w28 (.obj g4 (rC L (q + (dcX (L.drop q)).2) false) :: .obj gb (.cells #[pb, v] 83) :: .row BY 1 (v) acc.length ((Lib.byteCells acc)) :: []) := hM24
   refine ⟨_, rfl, ?_⟩
   intro a A
   refine sda A λa A↦?_
   refine qa (hK23 _ _ (wsk fun K29 hK29 => wsk fun K30 hK30 => wrl (sdm A λa A↦?_)))
   rcases tf (((((dcX (L.drop q)).1 : Nat) : Int) == 92)) with hb31 | hb31
   ·
    have hb31' := eq_of_beq hb31
    refine sdc A qj hb31 λa A↦?_
    refine qa (hK30 _ _ (ct A ?_))
    refine wsk fun K32 hK32 => wrl ?_
    rcases tf (Lib.hasPrefix (L.drop (q + (dcX (L.drop q)).2)) [120]) with hb33 | hb33
    ·
     have htl35 : 1 ≤ (L.drop (q + (dcX (L.drop q)).2)).length := (List.isPrefixOf_iff_prefix.1 hb33).length_le
     rw [List.length_drop] at htl35
     refine sct A (ef rfl rfl) (xv (p := q + (dcX (L.drop q)).2) (L := L) (T := (.obj gb (.cells #[pb, v] 83) :: .row BY 1 (v) acc.length ((Lib.byteCells acc)) :: [])) (by omega) (by omega) hb33 N) ?_
     rintro _ w36 ⟨rfl, hM34⟩
     replace N : Mg w w36 (.obj g4 (rC L (q + (dcX (L.drop q)).2 + 1) false) :: .obj gb (.cells #[pb, v] 83) :: .row BY 1 (v) acc.length ((Lib.byteCells acc)) :: []) := hM34
     refine ⟨_, rfl, ?_⟩
     intro a A
     refine gcl A N (ef rfl rfl) (vm) fun w38 hb37 N a A => ?_
     refine qa (hK32 _ _ (wrl (qt A rfl rfl rfl (ef rfl rfl) (qke (p := q + (dcX (L.drop q)).2 + 1) (L := L) (T := (.obj gb (.cells #[pb, v] 83) :: .row BY 1 (v) acc.length ((Lib.byteCells acc)) :: [])) hN (by omega) (by omega) N) ?_)))
     rintro _ w40 (⟨rfl, hp41⟩ | ⟨c, n, rfl, ⟨hc, hcl, hcc⟩, hM39⟩)
     ·
      exact .inl ⟨_, rfl, hX _ _ _ _ _ A (.inl ⟨rfl, hi.no hb19 (by unfold qmi; rw [if_pos (eq_of_beq hb31), if_pos (by rw [List.drop_drop]; exact hb33)]; rw [List.drop_drop, ← Nat.add_assoc, hp41.1]; rfl), hp41.2.elim fun q9 h9 => h9.2.bel⟩)⟩
     have hcr := qlb hcc
     replace N : Mg w w40 (.obj g4 (rC L (q + (dcX (L.drop q)).2 + 1 + n) false) :: .obj gb (.cells #[pb, v] 83) :: .row BY 1 (v) acc.length ((Lib.byteCells acc)) :: []) := hM39
     refine .inr ⟨_, rfl, ?_⟩
     intro a A
     refine sda A λa A↦?_
     refine qa (hK29 _ _ (wrl (sdm A λa A↦?_)))
     replace N : Mg w w40 (.row BY 1 (v) acc.length ((Lib.byteCells acc)) :: .obj g4 (rC L (q + (dcX (L.drop q)).2 + 1 + n) false) :: .obj gb (.cells #[pb, v] 83) :: []) := N.bring 2 rfl rfl
     replace N : Mg w w40 (.obj gb (.cells #[pb, v] 83) :: .row BY 1 (v) acc.length ((Lib.byteCells acc)) :: .obj g4 (rC L (q + (dcX (L.drop q)).2 + 1 + n) false) :: []) := N.bring 2 rfl rfl
     refine sct A (ef rfl rfl) (yl (T := (.obj g4 (rC L (q + (dcX (L.drop q)).2 + 1 + n) false) :: [])) (bs := acc) hpb (M := w.heap.size) (Nat.le_refl _) (Ck.lt (N.has 0 rfl) gb rfl).1 (QM.cons (.inr (jx (by decide))) QM.nil) (qkf (N.has 1 rfl) (Nat.le_refl _)).2 N (r := ((c : Nat) : Int)) (by omega) (by omega) (by omega)) ?_
     rintro _ w45 ⟨⟨z9, rfl⟩, v42, hv43, hM44⟩
     replace N : Mg w w45 (.obj gb (.cells #[pA gb 0, v42] 83) :: .row BY 1 (v42) (((acc ++ Lib.encodeRune (((c : Nat) : Int)))).length) ((Lib.byteCells ((acc ++ Lib.encodeRune (((c : Nat) : Int)))))) :: .obj g4 (rC L (q + (dcX (L.drop q)).2 + 1 + n) false) :: []) := hM44
     refine ⟨_, rfl, ?_⟩
     intro a A
     refine qa ?_
     replace N : Mg w w45 (.row BY 1 (v42) (((acc ++ Lib.encodeRune (((c : Nat) : Int)))).length) ((Lib.byteCells ((acc ++ Lib.encodeRune (((c : Nat) : Int)))))) :: .obj gb (.cells #[pA gb 0, v42] 83) :: .obj g4 (rC L (q + (dcX (L.drop q)).2 + 1 + n) false) :: []) := N.bring 1 rfl rfl
     replace N : Mg w w45 (.obj gb (.cells #[pA gb 0, v42] 83) :: .row BY 1 (v42) (((acc ++ Lib.encodeRune (((c : Nat) : Int)))).length) ((Lib.byteCells ((acc ++ Lib.encodeRune (((c : Nat) : Int)))))) :: .obj g4 (rC L (q + (dcX (L.drop q)).2 + 1 + n) false) :: []) := N.bring 1 rfl rfl
     replace N : Mg w w45 (.obj g4 (rC L (q + (dcX (L.drop q)).2 + 1 + n) false) :: .obj gb (.cells #[pA gb 0, v42] 83) :: .row BY 1 (v42) (((acc ++ Lib.encodeRune (((c : Nat) : Int)))).length) ((Lib.byteCells ((acc ++ Lib.encodeRune (((c : Nat) : Int)))))) :: []) := N.bring 2 rfl rfl
     rw [show q + (dcX (L.drop q)).2 + 1 + n = q + ((dcX (L.drop q)).2 + 1 + n) by omega] at N
     have hel := vz (((c : Nat) : Int))
     refine hK13 _ _ _ (by omega) ⟨q + ((dcX (L.drop q)).2 + 1 + n), f, acc ++ Lib.encodeRune (((c : Nat) : Int)), pA gb 0, v42, rfl, ⟨by omega, by omega, .inr rfl, fun k => absurd k ky, by rw [List.length_append]; omega, hi.go hb19 (by unfold qmi; rw [if_pos (eq_of_beq hb31), if_pos (by rw [List.drop_drop]; exact hb33)]; rw [List.drop_drop, ← Nat.add_assoc, hc]; rfl)⟩, A.keep _ ⟨rfl, rfl, rfl, rfl, rfl, trivial⟩, N⟩
    ·
     refine sct A (ef rfl rfl) (ve (p := q + (dcX (L.drop q)).2) (L := L) (T := (.obj gb (.cells #[pb, v] 83) :: .row BY 1 (v) acc.length ((Lib.byteCells acc)) :: [])) (by omega) (by omega) hb33 N) ?_
     rintro _ w47 ⟨rfl, hM46⟩
     replace N : Mg w w47 (.obj g4 (rC L (q + (dcX (L.drop q)).2) false) :: .obj gb (.cells #[pb, v] 83) :: .row BY 1 (v) acc.length ((Lib.byteCells acc)) :: []) := hM46
     refine ⟨_, rfl, ?_⟩
     intro a A
     refine qt A rfl rfl rfl (ef rfl rfl) (xq) ?_
     rintro _ w49 ⟨rfl, hp50⟩
     exact .inl ⟨_, rfl, hX _ _ _ _ _ A (.inl ⟨rfl, hi.no hb19 (by unfold qmi; rw [if_pos (eq_of_beq hb31), if_neg (by rw [List.drop_drop, hb33]; decide)]), N.bel.trans (hp50.mono N.bel.size)⟩)⟩
   ·
    have hb31' := ne_of_beq_false hb31
    refine sdc A qj hb31 λa A↦?_
    refine qa (hK30 _ _ (cf A ?_))
    refine wrl (sdm A λa A↦?_)
    rcases tf (C.firstB (((dcX (L.drop q)).1 : Nat) : Int)) with hb51 | hb51
    ·
     refine gcl A N (ef rfl rfl) (qva (ux _) hb51) fun w53 hb52 N a A => ?_
     refine sdm A λa A↦?_
     iterate 3 refine qi A rfl rfl rfl λa A↦?_
     iterate 2 refine vq A rfl rfl rfl λa A↦?_
     refine qi A rfl rfl rfl λa A↦?_
     refine sdk (v := bV true) A λa A↦?_
     refine gcl A N (ef rfl rfl) (vm) fun w55 hb54 N a A => ?_
     refine qa (hK29 _ _ (wrl (sdm A λa A↦?_)))
     replace N : Mg w w55 (.row BY 1 (v) acc.length ((Lib.byteCells acc)) :: .obj g4 (rC L (q + (dcX (L.drop q)).2) false) :: .obj gb (.cells #[pb, v] 83) :: []) := N.bring 2 rfl rfl
     replace N : Mg w w55 (.obj gb (.cells #[pb, v] 83) :: .row BY 1 (v) acc.length ((Lib.byteCells acc)) :: .obj g4 (rC L (q + (dcX (L.drop q)).2) false) :: []) := N.bring 2 rfl rfl
     have hcr := qlc (L.drop q)
     refine sct A (ef rfl rfl) (yl (T := (.obj g4 (rC L (q + (dcX (L.drop q)).2) false) :: [])) (bs := acc) hpb (M := w.heap.size) (Nat.le_refl _) (Ck.lt (N.has 0 rfl) gb rfl).1 (QM.cons (.inr (jx (by decide))) QM.nil) (qkf (N.has 1 rfl) (Nat.le_refl _)).2 N (r := (((dcX (L.drop q)).1 : Nat) : Int)) (by omega) (by omega) (by omega)) ?_
     rintro _ w59 ⟨⟨z9, rfl⟩, v56, hv57, hM58⟩
     replace N : Mg w w59 (.obj gb (.cells #[pA gb 0, v56] 83) :: .row BY 1 (v56) (((acc ++ Lib.encodeRune ((((dcX (L.drop q)).1 : Nat) : Int)))).length) ((Lib.byteCells ((acc ++ Lib.encodeRune ((((dcX (L.drop q)).1 : Nat) : Int)))))) :: .obj g4 (rC L (q + (dcX (L.drop q)).2) false) :: []) := hM58
     refine ⟨_, rfl, ?_⟩
     intro a A
     refine qa ?_
     replace N : Mg w w59 (.row BY 1 (v56) (((acc ++ Lib.encodeRune ((((dcX (L.drop q)).1 : Nat) : Int)))).length) ((Lib.byteCells ((acc ++ Lib.encodeRune ((((dcX (L.drop q)).1 : Nat) : Int)))))) :: .obj gb (.cells #[pA gb 0, v56] 83) :: .obj g4 (rC L (q + (dcX (L.drop q)).2) false) :: []) := N.bring 1 rfl rfl
     replace N : Mg w w59 (.obj gb (.cells #[pA gb 0, v56] 83) :: .row BY 1 (v56) (((acc ++ Lib.encodeRune ((((dcX (L.drop q)).1 : Nat) : Int)))).length) ((Lib.byteCells ((acc ++ Lib.encodeRune ((((dcX (L.drop q)).1 : Nat) : Int)))))) :: .obj g4 (rC L (q + (dcX (L.drop q)).2) false) :: []) := N.bring 1 rfl rfl
     replace N : Mg w w59 (.obj g4 (rC L (q + (dcX (L.drop q)).2) false) :: .obj gb (.cells #[pA gb 0, v56] 83) :: .row BY 1 (v56) (((acc ++ Lib.encodeRune ((((dcX (L.drop q)).1 : Nat) : Int)))).length) ((Lib.byteCells ((acc ++ Lib.encodeRune ((((dcX (L.drop q)).1 : Nat) : Int)))))) :: []) := N.bring 2 rfl rfl
     have hel := vz ((((dcX (L.drop q)).1 : Nat) : Int))
     refine hK13 _ _ _ (by omega) ⟨q + (dcX (L.drop q)).2, f, acc ++ Lib.encodeRune ((((dcX (L.drop q)).1 : Nat) : Int)), pA gb 0, v56, rfl, ⟨by omega, by omega, .inr rfl, fun k => absurd k ky, by rw [List.length_append]; omega, hi.go hb19 (by unfold qmi; rw [if_neg (ne_of_beq_false hb31), if_pos hb51])⟩, A.keep _ ⟨rfl, rfl, rfl, rfl, rfl, trivial⟩, N⟩
    ·
     refine gcl A N (ef rfl rfl) (qva (ux _) hb51) fun w61 hb60 N a A => ?_
     refine sdm A λa A↦?_
     replace N : Mg w w61 (.row BY 1 (v) acc.length ((Lib.byteCells acc)) :: .obj g4 (rC L (q + (dcX (L.drop q)).2) false) :: .obj gb (.cells #[pb, v] 83) :: []) := N.bring 2 rfl rfl
     replace N : Mg w w61 (.obj gb (.cells #[pb, v] 83) :: .row BY 1 (v) acc.length ((Lib.byteCells acc)) :: .obj g4 (rC L (q + (dcX (L.drop q)).2) false) :: []) := N.bring 2 rfl rfl
     refine sct A (ef rfl rfl) (jjb (bs := acc) (T := (.obj g4 (rC L (q + (dcX (L.drop q)).2) false) :: [])) N) ?_
     rintro _ w63 ⟨rfl, hM62⟩
     replace N : Mg w w63 (.obj gb (.cells #[pb, v] 83) :: .row BY 1 (v) acc.length ((Lib.byteCells acc)) :: .obj g4 (rC L (q + (dcX (L.drop q)).2) false) :: []) := hM62
     refine ⟨_, rfl, ?_⟩
     intro a A
     rcases tf (decide (0 < ((acc.length : Nat) : Int))) with hb64 | hb64
     ·
      have hb64' := of_decide_eq_true hb64
      refine sdc A zs hb64 λa A↦?_
      iterate 2 refine sdm A λa A↦?_
      rcases tf (C.restB (((dcX (L.drop q)).1 : Nat) : Int)) with hb65 | hb65
      ·
       refine gcl A N (ef rfl rfl) (zgc (ux _) hb65) fun w67 hb66 N a A => ?_
       iterate 2 refine sdk (v := bV true) A λa A↦?_
       refine gcl A N (ef rfl rfl) (vm) fun w69 hb68 N a A => ?_
       refine qa (hK29 _ _ (wrl (sdm A λa A↦?_)))
       replace N : Mg w w69 (.obj g4 (rC L (q + (dcX (L.drop q)).2) false) :: .obj gb (.cells #[pb, v] 83) :: .row BY 1 (v) acc.length ((Lib.byteCells acc)) :: []) := N.bring 2 rfl rfl
       replace N : Mg w w69 (.row BY 1 (v) acc.length ((Lib.byteCells acc)) :: .obj g4 (rC L (q + (dcX (L.drop q)).2) false) :: .obj gb (.cells #[pb, v] 83) :: []) := N.bring 2 rfl rfl
       replace N : Mg w w69 (.obj gb (.cells #[pb, v] 83) :: .row BY 1 (v) acc.length ((Lib.byteCells acc)) :: .obj g4 (rC L (q + (dcX (L.drop q)).2) false) :: []) := N.bring 2 rfl rfl
       have hcr := qlc (L.drop q)
       refine sct A (ef rfl rfl) (yl (T := (.obj g4 (rC L (q + (dcX (L.drop q)).2) false) :: [])) (bs := acc) hpb (M := w.heap.size) (Nat.le_refl _) (Ck.lt (N.has 0 rfl) gb rfl).1 (QM.cons (.inr (jx (by decide))) QM.nil) (qkf (N.has 1 rfl) (Nat.le_refl _)).2 N (r := (((dcX (L.drop q)).1 : Nat) : Int)) (by omega) (by omega) (by omega)) ?_
       rintro _ w73 ⟨⟨z9, rfl⟩, v70, hv71, hM72⟩
       replace N : Mg w w73 (.obj gb (.cells #[pA gb 0, v70] 83) :: .row BY 1 (v70) (((acc ++ Lib.encodeRune ((((dcX (L.drop q)).1 : Nat) : Int)))).length) ((Lib.byteCells ((acc ++ Lib.encodeRune ((((dcX (L.drop q)).1 : Nat) : Int)))))) :: .obj g4 (rC L (q + (dcX (L.drop q)).2) false) :: []) := hM72
       refine ⟨_, rfl, ?_⟩
       intro a A
       refine qa ?_
       replace N : Mg w w73 (.row BY 1 (v70) (((acc ++ Lib.encodeRune ((((dcX (L.drop q)).1 : Nat) : Int)))).length) ((Lib.byteCells ((acc ++ Lib.encodeRune ((((dcX (L.drop q)).1 : Nat) : Int)))))) :: .obj gb (.cells #[pA gb 0, v70] 83) :: .obj g4 (rC L (q + (dcX (L.drop q)).2) false) :: []) := N.bring 1 rfl rfl
       replace N : Mg w w73 (.obj gb (.cells #[pA gb 0, v70] 83) :: .row BY 1 (v70) (((acc ++ Lib.encodeRune ((((dcX (L.drop q)).1 : Nat) : Int)))).length) ((Lib.byteCells ((acc ++ Lib.encodeRune ((((dcX (L.drop q)).1 : Nat) : Int)))))) :: .obj g4 (rC L (q + (dcX (L.drop q)).2) false) :: []) := N.bring 1 rfl rfl
       replace N : Mg w w73 (.obj g4 (rC L (q + (dcX (L.drop q)).2) false) :: .obj gb (.cells #[pA gb 0, v70] 83) :: .row BY 1 (v70) (((acc ++ Lib.encodeRune ((((dcX (L.drop q)).1 : Nat) : Int)))).length) ((Lib.byteCells ((acc ++ Lib.encodeRune ((((dcX (L.drop q)).1 : Nat) : Int)))))) :: []) := N.bring 2 rfl rfl
       have hel := vz ((((dcX (L.drop q)).1 : Nat) : Int))
       refine hK13 _ _ _ (by omega) ⟨q + (dcX (L.drop q)).2, f, acc ++ Lib.encodeRune ((((dcX (L.drop q)).1 : Nat) : Int)), pA gb 0, v70, rfl, ⟨by omega, by omega, .inr rfl, fun k => absurd k ky, by rw [List.length_append]; omega, hi.go hb19 (by unfold qmi; rw [if_neg (ne_of_beq_false hb31), if_neg (by rw [hb51]; decide), if_pos (zbh hb64), if_pos hb65])⟩, A.keep _ ⟨rfl, rfl, rfl, rfl, rfl, trivial⟩, N⟩
      ·
       refine gcl A N (ef rfl rfl) (zgc (ux _) hb65) fun w75 hb74 N a A => ?_
       iterate 2 refine sdk (v := bV false) A λa A↦?_
       refine qt A rfl rfl rfl (ef rfl rfl) (xq) ?_
       rintro _ w77 ⟨rfl, hp78⟩
       exact .inl ⟨_, rfl, hX _ _ _ _ _ A (.inl ⟨rfl, hi.no hb19 (by unfold qmi; rw [if_neg (ne_of_beq_false hb31), if_neg (by rw [hb51]; decide), if_pos (zbh hb64), if_neg (by rw [hb65]; decide)]), N.bel.trans (hp78.mono N.bel.size)⟩)⟩
     ·
      have hb64' := of_decide_eq_false hb64
      refine sdc A zs hb64 λa A↦?_
      refine sdm A λa A↦?_
      iterate 2 refine qi A rfl rfl rfl λa A↦?_
      iterate 2 refine sdk (v := bV false) A λa A↦?_
      refine qt A rfl rfl rfl (ef rfl rfl) (xq) ?_
      rintro _ w80 ⟨rfl, hp81⟩
      exact .inl ⟨_, rfl, hX _ _ _ _ _ A (.inl ⟨rfl, hi.no hb19 (by unfold qmi; rw [if_neg (ne_of_beq_false hb31), if_neg (by rw [hb51]; decide), if_neg (by rw [zbh hb64]; decide)]), N.bel.trans (hp81.mono N.bel.size)⟩)⟩
 refine wp_block (wsk fun K82 hK82 => wsk fun K83 hK83 => wrl (sdm A λa A↦?_))
 rcases tf (decide (L = [43])) with hb84 | hb84
 ·
  have hb84' := of_decide_eq_true hb84
  refine sdo (v := bV true) A (qb rfl rfl (fun w => (ze (a := L) (b := [43]) Tryz.underlying9 w).trans (by rw [hb84] <;> rfl))) λa A↦?_
  refine sda A λa A↦?_
  refine qa (hK83 _ _ (ct A ?_))
  refine wp_skip (hK82 _ _ (ct A ?_))
  refine wsk fun K85 hK85 => wrl (sdm A λa A↦?_)
  refine gcl A N (ef rfl rfl) (qci hl) fun w86 hb9 N a A => ?_
  refine sda A λa A↦?_
  refine qa (hK85 _ _ (wr1 hret A ?_))
  exact .inr ⟨L, rfl, ⟨by unfold qmj; rw [if_pos (of_decide_eq_true hb84)], by omega⟩, N.bel⟩
 ·
  have hb84' := of_decide_eq_false hb84
  refine sdo (v := bV false) A (qb rfl rfl (fun w => (ze (a := L) (b := [43]) Tryz.underlying9 w).trans (by rw [hb84] <;> rfl))) λa A↦?_
  refine sda A λa A↦?_
  refine qa (hK83 _ _ (cf A ?_))
  refine wsk fun K87 hK87 => wrl (sdm A λa A↦?_)
  rcases tf (decide (L = [45])) with hb88 | hb88
  ·
   have hb88' := of_decide_eq_true hb88
   refine sdo (v := bV true) A (qb rfl rfl (fun w => (ze (a := L) (b := [45]) Tryz.underlying9 w).trans (by rw [hb88] <;> rfl))) λa A↦?_
   refine sda A λa A↦?_
   refine qa (hK87 _ _ (ct A ?_))
   refine wp_skip (hK82 _ _ (ct A ?_))
   refine wsk fun K89 hK89 => wrl (sdm A λa A↦?_)
   refine gcl A N (ef rfl rfl) (qci hl) fun w90 hb9 N a A => ?_
   refine sda A λa A↦?_
   refine qa (hK89 _ _ (wr1 hret A ?_))
   exact .inr ⟨L, rfl, ⟨by unfold qmj; rw [if_neg (of_decide_eq_false hb84), if_pos (of_decide_eq_true hb88)], by omega⟩, N.bel⟩
  ·
   have hb88' := of_decide_eq_false hb88
   refine sdo (v := bV false) A (qb rfl rfl (fun w => (ze (a := L) (b := [45]) Tryz.underlying9 w).trans (by rw [hb88] <;> rfl))) λa A↦?_
   refine sda A λa A↦?_
   refine qa (hK87 _ _ (cf A ?_))
   refine wrl (sdm A λa A↦?_)
   rcases tf (decide (L = [46, 46, 46])) with hb91 | hb91
   ·
    have hb91' := of_decide_eq_true hb91
    refine sdo (v := bV true) A (qb rfl rfl (fun w => (ze (a := L) (b := [46, 46, 46]) Tryz.underlying9 w).trans (by rw [hb91] <;> rfl))) λa A↦?_
    refine sda A λa A↦?_
    refine qa (hK82 _ _ (ct A ?_))
    refine wsk fun K92 hK92 => wrl (sdm A λa A↦?_)
    refine gcl A N (ef rfl rfl) (qci hl) fun w93 hb9 N a A => ?_
    refine sda A λa A↦?_
    refine qa (hK92 _ _ (wr1 hret A ?_))
    exact .inr ⟨L, rfl, ⟨by unfold qmj; rw [if_neg (of_decide_eq_false hb84), if_neg (of_decide_eq_false hb88), if_pos (of_decide_eq_true hb91)], by omega⟩, N.bel⟩
   ·
    have hb91' := of_decide_eq_false hb91
    refine sdo (v := bV false) A (qb rfl rfl (fun w => (ze (a := L) (b := [46, 46, 46]) Tryz.underlying9 w).trans (by rw [hb91] <;> rfl))) λa A↦?_
    refine sda A λa A↦?_
    refine qa (hK82 _ _ (cf A ?_))
    refine wsk fun K94 hK94 => wrl ?_
    rcases tf (Lib.hasPrefix (L.drop 0) [45, 62]) with hb95 | hb95
    ·
     have htl97 : 2 ≤ (L.drop 0).length := (List.isPrefixOf_iff_prefix.1 hb95).length_le
     rw [List.length_drop] at htl97
     refine sct A (ef rfl rfl) (xv (p := 0) (L := L) (T := (.row BY 1 (.slice none 0 0) (([] : List UInt8).length) ((Lib.byteCells ([] : List UInt8))) :: .obj gb (.cells #[.pointer none, .slice none 0 0] 83) :: [])) (by omega) (by omega) hb95 N) ?_
     rintro _ w98 ⟨rfl, hM96⟩
     replace N : Mg w w98 (.obj g4 (rC L (0 + 2) false) :: .row BY 1 (.slice none 0 0) (([] : List UInt8).length) ((Lib.byteCells ([] : List UInt8))) :: .obj gb (.cells #[.pointer none, .slice none 0 0] 83) :: []) := hM96
     refine ⟨_, rfl, ?_⟩
     intro a A
     refine sda A λa A↦?_
     refine qa (hK94 _ _ (ct A ?_))
     refine wrl ?_
     replace N : Mg w w98 (.row BY 1 (.slice none 0 0) (([] : List UInt8).length) ((Lib.byteCells ([] : List UInt8))) :: .obj g4 (rC L (0 + 2) false) :: .obj gb (.cells #[.pointer none, .slice none 0 0] 83) :: []) := N.bring 1 rfl rfl
     replace N : Mg w w98 (.obj gb (.cells #[.pointer none, .slice none 0 0] 83) :: .row BY 1 (.slice none 0 0) (([] : List UInt8).length) ((Lib.byteCells ([] : List UInt8))) :: .obj g4 (rC L (0 + 2) false) :: []) := N.bring 2 rfl rfl
     refine sct A (ef rfl rfl) (jgc (T := (.obj g4 (rC L (0 + 2) false) :: [])) (bs := ([] : List UInt8)) (s := tx [45, 62]) (.inl rfl) N (by decide)) ?_
     rintro _ w101 ⟨⟨z9, rfl⟩, v99, hM100⟩
     replace N : Mg w w101 (.obj gb (.cells #[pA gb 0, v99] 83) :: .row BY 1 (v99) ((([45, 62] : List UInt8)).length) ((Lib.byteCells (([45, 62] : List UInt8)))) :: .obj g4 (rC L (0 + 2) false) :: []) := hM100
     refine ⟨_, rfl, ?_⟩
     intro a A
     refine qa ?_
     replace N : Mg w w101 (.row BY 1 (v99) ((([45, 62] : List UInt8)).length) ((Lib.byteCells (([45, 62] : List UInt8)))) :: .obj gb (.cells #[pA gb 0, v99] 83) :: .obj g4 (rC L (0 + 2) false) :: []) := N.bring 1 rfl rfl
     replace N : Mg w w101 (.obj gb (.cells #[pA gb 0, v99] 83) :: .row BY 1 (v99) ((([45, 62] : List UInt8)).length) ((Lib.byteCells (([45, 62] : List UInt8)))) :: .obj g4 (rC L (0 + 2) false) :: []) := N.bring 1 rfl rfl
     replace N : Mg w w101 (.obj g4 (rC L (0 + 2) false) :: .obj gb (.cells #[pA gb 0, v99] 83) :: .row BY 1 (v99) ((([45, 62] : List UInt8)).length) ((Lib.byteCells (([45, 62] : List UInt8)))) :: []) := N.bring 2 rfl rfl
     exact hJ8 _ _ ⟨2, L.length + 1, [45, 62], pA gb 0, v99, ⟨by omega, by omega, .inr rfl, (fun k => by cases k), by decide, by unfold SI; unfold qmj; rw [if_neg (of_decide_eq_false hb84), if_neg (of_decide_eq_false hb88), if_neg (of_decide_eq_false hb91), if_pos (show Lib.hasPrefix L [45, 62] = true from hb95)]; rfl⟩, A.keep _ ⟨rfl, rfl, rfl, rfl, rfl, trivial⟩, N⟩
    ·
     refine sct A (ef rfl rfl) (ve (p := 0) (L := L) (T := (.row BY 1 (.slice none 0 0) (([] : List UInt8).length) ((Lib.byteCells ([] : List UInt8))) :: .obj gb (.cells #[.pointer none, .slice none 0 0] 83) :: [])) (by omega) (by omega) hb95 N) ?_
     rintro _ w103 ⟨rfl, hM102⟩
     replace N : Mg w w103 (.obj g4 (.cells #[.string ((tx L)), iV 0, bV false] 50) :: .row BY 1 (.slice none 0 0) (([] : List UInt8).length) ((Lib.byteCells ([] : List UInt8))) :: .obj gb (.cells #[.pointer none, .slice none 0 0] 83) :: []) := hM102
     refine ⟨_, rfl, ?_⟩
     intro a A
     refine sda A λa A↦?_
     refine qa (hK94 _ _ (cf A ?_))
     refine wp_skip ?_
     replace N : Mg w w103 (.row BY 1 (.slice none 0 0) (([] : List UInt8).length) ((Lib.byteCells ([] : List UInt8))) :: .obj g4 (.cells #[.string ((tx L)), iV 0, bV false] 50) :: .obj gb (.cells #[.pointer none, .slice none 0 0] 83) :: []) := N.bring 1 rfl rfl
     replace N : Mg w w103 (.obj gb (.cells #[.pointer none, .slice none 0 0] 83) :: .row BY 1 (.slice none 0 0) (([] : List UInt8).length) ((Lib.byteCells ([] : List UInt8))) :: .obj g4 (.cells #[.string ((tx L)), iV 0, bV false] 50) :: []) := N.bring 2 rfl rfl
     replace N : Mg w w103 (.obj g4 (.cells #[.string ((tx L)), iV 0, bV false] 50) :: .obj gb (.cells #[.pointer none, .slice none 0 0] 83) :: .row BY 1 (.slice none 0 0) (([] : List UInt8).length) ((Lib.byteCells ([] : List UInt8))) :: []) := N.bring 2 rfl rfl
     exact hJ8 _ _ ⟨0, L.length + 1, [], .pointer none, .slice none 0 0, ⟨by omega, by omega, .inl rfl, fun _ => rfl, by decide, by unfold SI; unfold qmj; rw [if_neg (of_decide_eq_false hb84), if_neg (of_decide_eq_false hb88), if_neg (of_decide_eq_false hb91), if_neg (by have k := hb95; rw [List.drop_zero] at k; rw [k]; decide)]; rw [List.drop_zero]; simp⟩, A.keep _ ⟨rfl, rfl, rfl, rfl, rfl, trivial⟩, N⟩
theorem zqa {b : Bool} {x d : Nat} (hd : d ≠ 0) (h1 : (words x).length ≤ 512) (h2 : (words d).length ≤ 512) : qbg (mkRat (sgn b x) d) := zwg (k := 512) hd (qac h1) h2 rfl
theorem zdg (r : Nat) (n m : Nl) : LenQ (xm r n m).1 ∧ ((xm r n m).2 = 0 → jw (xm r n m).1 = true) := by
 by_cases h1 : xr r n ≠ 0 ∨ xr r m ≠ 0
 ·
  rw [qfa h1]; exact ⟨qkg, fun h => by cases h⟩
 ·
  by_cases h2 : zf r n.2.2 = 0 ∨ zf r m.2.2 = 0
  ·
   rw [qgg (by omega) (by omega) h2]; exact ⟨qkg, fun h => by cases h⟩
  ·
   have e1 : xr r n = 0 := by omega
   have e2 : xr r m = 0 := by omega
   have f1 : qbg (zbj r n) := zqa (by omega) (yb (zx e1).1).2 (yb (zx e1).2).2
   have f2 : qbg (zbj r m) := zqa (by omega) (yb (zx e2).1).2 (yb (zx e2).2).2
   have e : xm r n m = (Q6.rat (zbj r n) (zbj r m), 0) := by unfold xm; rw [if_neg h1, if_neg h2]
   rw [e]
   exact ⟨zob f1 f2, fun _ => zba f1 f2⟩
theorem qvi (l : List UInt8) (n : Int) : LenQ (ya l n).1 ∧ ((ya l n).2 = 0 → jw (ya l n).1 = true) := by
 unfold ya
 split
 ·
  split
  ·
   split
   ·
    exact zdg _ _ _
   ·
    exact ⟨qkg, fun h => by cases h⟩
  ·
   exact ⟨qkg, fun h => by cases h⟩
 ·
  exact ⟨qkg, fun h => by cases h⟩
def zNu : Nu := ⟨Q6.zero, none, 0, none, 0, none, 0, none, 0⟩
def lfD (k n : Int) (s : ByteArray) : Dt := .mk ⟨k, n, zNu, s, none, 0, [], none, 0⟩ []
def lfT (k n : Int) (s : ByteArray) : Tr := .mk k n Q6.zero s [] []
theorem qhi (k n : Int) (s : ByteArray) : (lfD k n s).tr = lfT k n s := by unfold lfD lfT; rw [Dt.tr_mk]; rfl
theorem zdh (w : World) : zNu.nm w := ⟨Sc.none w, Sc.none w, Sc.none w, Sc.none w⟩
theorem zzj {w : World} {k n : Int} {s : ByteArray} (hk0 : -9223372036854775808 ≤ k) (hk1 : k ≤ 9223372036854775807) (h0 : -9223372036854775808 ≤ n) (h1 : n ≤ 9223372036854775807) (hs : s.size ≤ 9223372036854775807) : (lfD k n s).rd w :=
 Dt.rd_iff.2 ⟨⟨zdh w, yu, ⟨fun h => absurd rfl h⟩, Nat.le_refl _, Nat.zero_le _, hk0, hk1, h0, h1, hs⟩, Nat.le_refl _, Nat.zero_le _, fun h => absurd rfl h, fun t h => by cases h⟩
theorem qlg {w0 : World} {Z : List Ck} {k n : Int} {s : ByteArray} (hk0 : -9223372036854775808 ≤ k) (hk1 : k ≤ 9223372036854775807) (h0 : -9223372036854775808 ≤ n) (h1 : n ≤ 9223372036854775807) (hs : s.size ≤ 9223372036854775807) : Lv w0 Z (lfD k n s) := fun w _ => zzj hk0 hk1 h0 h1 hs
def nuD (y : Nu) : Dt := .mk ⟨3, 0, y, ⟨#[]⟩, none, 0, [], none, 0⟩ []
def nuT (q : Q6) : Tr := .mk 3 0 q ⟨#[]⟩ [] []
theorem jge (y : Nu) : (nuD y).tr = nuT y.q := by unfold nuD nuT; rw [Dt.tr_mk]; rfl
theorem jgf {w : World} {y : Nu} (h : y.nm w) (hl : LenQ y.q) : (nuD y).rd w :=
 Dt.rd_iff.2 ⟨⟨h, hl, ⟨fun h => absurd rfl h⟩, Nat.le_refl _, Nat.zero_le _, (show (-9223372036854775808 : Int) ≤ 3 by decide), (show (3 : Int) ≤ 9223372036854775807 by decide), (show (-9223372036854775808 : Int) ≤ 0 by decide), (show (0 : Int) ≤ 9223372036854775807 by decide), (show (0 : Nat) ≤ 9223372036854775807 by decide)⟩, Nat.le_refl _, Nat.zero_le _, fun h => absurd rfl h, fun t h => by cases h⟩
theorem jgg {w0 w : World} {U Z : List Ck} {y : Nu} (M : Mg w0 w (U ++ Z)) (hU : Cu U) (hZ : Ob Z) (h : y.nm w) (hl : LenQ y.q) : ∃ F, Ob F ∧ Mg w0 w (U ++ (F ++ Z)) ∧ Lv w0 (F ++ Z) (nuD y) :=
 ⟨_, Ob.oth, zjc M hU hZ (jgf h hl) rfl rfl⟩
def tkX (l : List UInt8) : List UInt8 := l.take (ud (l.length + 1) l)
theorem jgh {w : World} {l W : List UInt8} (hT : Tb w) (hl : l.length ≤ 1000000000) (h : tkX l = W) : Calls Tryz.prog 61 #[.string (tx l)] w fun e w' => e = .returned (.string (tx W)) ∧ Below w.heap.size w w' := h ▸ qfj hT hl
theorem jbg (l : List UInt8) : (tkX l).length ≤ l.length := by unfold tkX; rw [List.length_take]; omega
def qgi (W : List UInt8) : Option (Tr × Bool) :=
 if W = [35, 116] then some (lfT 2 1 ⟨#[]⟩, false) else if W = [35, 84] then some (lfT 2 1 ⟨#[]⟩, false) else if W = [35, 102] then some (lfT 2 0 ⟨#[]⟩, false) else if W = [35, 70] then some (lfT 2 0 ⟨#[]⟩, false)
 else if Lib.hasPrefix W [35, 92] = true then (chI (W.drop 2)).map (fun c => (lfT 4 c ⟨#[]⟩, false))
 else if (ya W 10).2 = 0 then some (nuT (ya W 10).1, false)
 else if (ya W 10).2 = 4 then some (kb, true)
 else (qmj W).map (fun s => (lfT 6 0 (tx s), false))
def qna (l : List UInt8) : Option (Tr × Nat × Bool) := if tkX l = [] then none else (qgi (tkX l)).map fun r => (r.1, (tkX l).length, r.2)
theorem qvj {l W : List UInt8} (h : tkX l = W) (h2 : qgi W = none) : qna l = none := by unfold qna; rw [h, h2]; by_cases k : W = [] <;> simp [k]
theorem kp {l W : List UInt8} {t : Tr} {b : Bool} (h : tkX l = W) (h1 : W.isEmpty = false) (h2 : qgi W = some (t, b)) : qna l = some (t, W.length, b) := by unfold qna; rw [h, h2, if_neg (fun k => by rw [k] at h1; cases h1)]; rfl
theorem zxc {l W : List UInt8} (h : tkX l = W) (h1 : W.isEmpty = true) : qna l = none := by unfold qna; rw [h, if_pos (List.isEmpty_iff.1 h1)]
theorem jbh {W : List UInt8} (h : W.isEmpty = false) : 1 ≤ W.length := by
 cases W with
 | nil => cases h
 | cons a t => simp
theorem qre {P : Program} {s d : TypeId} (hs : P.underlying s = some (.int .i32)) (hd : P.underlying d = some (.int .i64)) {n : Int} (h0 : 0 ≤ n) (h1 : n ≤ 1114111) : ∀ w, (convert s d (.int .i32 n)).run P w = .ok (iV n) w := fun w => by
 simp [go_sem, run_underlying hs, run_underlying hd, convert]
 exact in_i64 (by omega) (by omega)
theorem qfb {P : Program} {t : TypeId} {x y : Operand} {a b : Int} (hu : P.underlying t = some (.int .i64)) : ∀ w, (do eqGuard .eql t x y (iV a) (iV b); binOp .eql t (iV a) (iV b) : Sem Value).run P w = .ok (bV (decide (a = b))) w := fun w => by
 rw [show decide (a = b) = (a == b) from by rw [Bool.eq_iff_iff]; simp]
 simp [go_sem, hu, run_underlying hu]
theorem zqb {w0 w : World} {g p : Nat} {lg : Bool} {L : List UInt8} {U Z : List Ck} (hN : Env w0) (hU : Cu U) (hZ : Ob Z) (hp : p ≤ L.length) (hl : L.length ≤ 1000000000) (hM0 : Mg w0 w (.obj g (rC L p lg) :: (U ++ Z))) : Calls Tryz.prog 40 #[pA g 0] w fun e w' => (e = .panicked flt ∧ qna (L.drop p) = none ∧ ∃ q lg2, q ≤ L.length ∧ Mg w0 w' (.obj g (rC L q lg2) :: (U ++ Z))) ∨ ∃ t F n b, e = .returned (.agg (Nd.cells (Dt.d t) (Dt.ts t).length).toArray) ∧ (qna (L.drop p) = some (t.tr, n, b) ∧ p + n ≤ L.length ∧ 1 ≤ n) ∧ (Lv w0 (F ++ Z) t ∧ Ob F) ∧ Mg w0 w' (.obj g (rC L (p + n) ((lg || b))) :: (U ++ (F ++ Z))) := by
 have hT := hN.tb
 obtain ⟨W, hW⟩ : ∃ W, tkX (L.drop p) = W := ⟨_, rfl⟩
 have hWl := jbg (L.drop p)
 rw [hW, List.length_drop] at hWl
 obtain ⟨q9, e9, hq9⟩ : ∃ q e, ya W 10 = (q, e) := ⟨_, _, rfl⟩
 have M : Mg w0 w (.obj g (rC L p lg) :: (U ++ Z)) := hM0
 refine ji (l := [(0, pA g 0)]) Tryz.func40 rfl Tryz.ntmps40 rfl rfl ?_
 intro Q hret hnorm hP hX a H
 refine wsk fun K1 hK1 => wrl (vr (vs := zD) (t := 30) H M rfl rfl rfl pg (ql (z := .agg zD.toArray) (by kernel_rfl) rfl) (by decide) ?_)
 intro g2 w3 M a H
 refine qa (hK1 _ _ (wsk fun K4 hK4 => wrl (sdm H λa H↦?_)))
 replace M : Mg w0 w3 (.obj g (rC L p lg) :: .obj g2 zC :: (U ++ Z)) := M.bring 1 rfl rfl
 refine sct H (ef rfl rfl) (xg (p := p) (L := L) (T := (.obj g2 zC :: (U ++ Z))) (by omega) M) ?_
 rintro _ w6 ⟨rfl, hM5⟩
 replace M : Mg w0 w6 (.obj g (rC L p lg) :: .obj g2 zC :: (U ++ Z)) := hM5
 refine ⟨_, rfl, ?_⟩
 intro a H
 refine gcl H M (ef rfl rfl) (jgh (hT.below M.bel) (by rw [List.length_drop]; omega) hW) fun w7 hb9 M a H => ?_
 refine sda H λa H↦?_
 refine qa (hK4 _ _ (wsk fun K8 hK8 => wrl (sdm H λa H↦?_)))
 rcases tf (W.isEmpty) with hb9 | hb9
 ·
  refine sdo (v := bV false) H (qb rfl rfl (fun w => (qef (a := W) Tryz.underlying9 w).trans (by rw [hb9] <;> rfl))) λa H↦?_
  refine qt H rfl rfl rfl (ef rfl rfl) (xq) ?_
  rintro _ w11 ⟨rfl, hp12⟩
  exact .inl ⟨_, rfl, hX _ _ _ _ _ H (.inl ⟨rfl, zxc hW hb9, _, _, hp, (M.call hp12).sub (cc (cn (.refl _)))⟩)⟩
 ·
  refine sdo (v := bV true) H (qb rfl rfl (fun w => (qef (a := W) Tryz.underlying9 w).trans (by rw [hb9] <;> rfl))) λa H↦?_
  refine sct H (ef rfl rfl) (vm) ?_
  rintro _ w14 ⟨rfl, hb13⟩
  have hW1 := jbh hb9
  replace M := M.call hb13
  refine ⟨_, rfl, ?_⟩
  intro a H
  refine qa (hK8 _ _ (wsk fun K15 hK15 => wrl (sdm H λa H↦?_)))
  refine sdo H (zt rfl) λa H↦?_
  refine sdo (v := pA g 1) H (qe yk rfl rfl) λa H↦?_
  refine sdo H (zi M o93 rfl 0 rfl rfl) λa H↦?_
  refine sdm H λa H↦?_
  refine sdo (v := iV (((W.length : Nat) : Int))) H (ju (s := W) Tryz.underlying9 rfl) λa H↦?_
  refine sdo (v := iV (((p + W.length : Nat) : Int))) H (qb rfl rfl (ar_add ((in_i64 (by omega) (by omega)).trans (by omega)))) λa H↦?_
  refine sdo H (zt rfl) λa H↦?_
  refine sdo (v := pA g 1) H (qe yk rfl rfl) λa H↦?_
  refine zh (L' := (.obj g (rC L (p + W.length) lg) :: .obj g2 zC :: (U ++ Z))) H M rfl rfl (qy rfl rfl rfl (by kernel_rfl) M 0 rfl rfl rfl) 0 rfl rfl rfl ?_
  intro w16 M
  refine qa (hK15 _ _ (wsk fun K17 hK17 => wsk fun K18 hK18 => wrl (sdm H λa H↦?_)))
  refine qa (hK18 _ _ (wp_block (wsk fun K19 hK19 => wsk fun K20 hK20 => wrl ?_)))
  rcases tf (decide (W = [35, 116])) with hb21 | hb21
  ·
   have hb21' := of_decide_eq_true hb21
   refine sdo (v := bV true) H (qb rfl rfl (fun w => (ze (a := W) (b := [35, 116]) Tryz.underlying9 w).trans (by rw [hb21] <;> rfl))) λa H↦?_
   refine sda H λa H↦?_
   refine qa (hK20 _ _ (ct H ?_))
   refine wp_skip (hK19 _ _ (ct H ?_))
   refine wsk fun K22 hK22 => wrl (sdo (v := .agg #[iV 2, iV 1, bV false, .slice none 0 0, .slice none 0 0, bV false, .slice none 0 0, .slice none 0 0, .string (⟨#[]⟩), .slice none 0 0, .slice none 0 0]) H (qw rfl (fun w => by kernel_rfl)) λa H↦?_)
   refine zh (L' := (.obj g (rC L (p + W.length) lg) :: .obj g2 (.cells #[iV 2, iV 1, bV false, .slice none 0 0, .slice none 0 0, bV false, .slice none 0 0, .slice none 0 0, .string (⟨#[]⟩), .slice none 0 0, .slice none 0 0] 30) :: (U ++ Z))) H M rfl rfl (qy rfl rfl rfl (by kernel_rfl) M 1 rfl rfl rfl) 1 rfl rfl rfl ?_
   intro w23 M
   refine qa (hK22 _ _ (wp_ret (hret _ _ (en1 H rfl (zn M xw rfl 1 rfl (cs := [iV 2, iV 1, bV false, .slice none 0 0, .slice none 0 0, bV false, .slice none 0 0, .slice none 0 0, .string (⟨#[]⟩), .slice none 0 0, .slice none 0 0]) rfl rfl) ?_))))
   refine .inr ⟨lfD 2 1 ⟨#[]⟩, [], W.length, false, rfl, ⟨kp hW hb9 (by rw [qhi]; unfold qgi; rw [if_pos (of_decide_eq_true hb21)]), by omega, hW1⟩, ⟨qlg (by decide) (by decide) (by decide) (by decide) (by decide), Ob.nil⟩, ?_⟩
   rw [Bool.or_false]
   exact M.sub (cc (cn (.refl _)))
  ·
   have hb21' := of_decide_eq_false hb21
   refine sdo (v := bV false) H (qb rfl rfl (fun w => (ze (a := W) (b := [35, 116]) Tryz.underlying9 w).trans (by rw [hb21] <;> rfl))) λa H↦?_
   refine sda H λa H↦?_
   refine qa (hK20 _ _ (cf H ?_))
   refine wrl ?_
   rcases tf (decide (W = [35, 84])) with hb24 | hb24
   ·
    have hb24' := of_decide_eq_true hb24
    refine sdo (v := bV true) H (qb rfl rfl (fun w => (ze (a := W) (b := [35, 84]) Tryz.underlying9 w).trans (by rw [hb24] <;> rfl))) λa H↦?_
    refine sda H λa H↦?_
    refine qa (hK19 _ _ (ct H ?_))
    refine wsk fun K25 hK25 => wrl (sdo (v := .agg #[iV 2, iV 1, bV false, .slice none 0 0, .slice none 0 0, bV false, .slice none 0 0, .slice none 0 0, .string (⟨#[]⟩), .slice none 0 0, .slice none 0 0]) H (qw rfl (fun w => by kernel_rfl)) λa H↦?_)
    refine zh (L' := (.obj g (rC L (p + W.length) lg) :: .obj g2 (.cells #[iV 2, iV 1, bV false, .slice none 0 0, .slice none 0 0, bV false, .slice none 0 0, .slice none 0 0, .string (⟨#[]⟩), .slice none 0 0, .slice none 0 0] 30) :: (U ++ Z))) H M rfl rfl (qy rfl rfl rfl (by kernel_rfl) M 1 rfl rfl rfl) 1 rfl rfl rfl ?_
    intro w26 M
    refine qa (hK25 _ _ (wp_ret (hret _ _ (en1 H rfl (zn M xw rfl 1 rfl (cs := [iV 2, iV 1, bV false, .slice none 0 0, .slice none 0 0, bV false, .slice none 0 0, .slice none 0 0, .string (⟨#[]⟩), .slice none 0 0, .slice none 0 0]) rfl rfl) ?_))))
    refine .inr ⟨lfD 2 1 ⟨#[]⟩, [], W.length, false, rfl, ⟨kp hW hb9 (by rw [qhi]; unfold qgi; rw [if_neg (of_decide_eq_false hb21), if_pos (of_decide_eq_true hb24)]), by omega, hW1⟩, ⟨qlg (by decide) (by decide) (by decide) (by decide) (by decide), Ob.nil⟩, ?_⟩
    rw [Bool.or_false]
    exact M.sub (cc (cn (.refl _)))
   ·
    have hb24' := of_decide_eq_false hb24
    refine sdo (v := bV false) H (qb rfl rfl (fun w => (ze (a := W) (b := [35, 84]) Tryz.underlying9 w).trans (by rw [hb24] <;> rfl))) λa H↦?_
    refine sda H λa H↦?_
    refine qa (hK19 _ _ (cf H ?_))
    refine wsk fun K27 hK27 => wsk fun K28 hK28 => wrl ?_
    rcases tf (decide (W = [35, 102])) with hb29 | hb29
    ·
     have hb29' := of_decide_eq_true hb29
     refine sdo (v := bV true) H (qb rfl rfl (fun w => (ze (a := W) (b := [35, 102]) Tryz.underlying9 w).trans (by rw [hb29] <;> rfl))) λa H↦?_
     refine sda H λa H↦?_
     refine qa (hK28 _ _ (ct H ?_))
     refine wp_skip (hK27 _ _ (ct H ?_))
     refine wsk fun K30 hK30 => wrl (sdo (v := .agg #[iV 2, iV 0, bV false, .slice none 0 0, .slice none 0 0, bV false, .slice none 0 0, .slice none 0 0, .string (⟨#[]⟩), .slice none 0 0, .slice none 0 0]) H (qw rfl (fun w => by kernel_rfl)) λa H↦?_)
     refine zh (L' := (.obj g (rC L (p + W.length) lg) :: .obj g2 (.cells #[iV 2, iV 0, bV false, .slice none 0 0, .slice none 0 0, bV false, .slice none 0 0, .slice none 0 0, .string (⟨#[]⟩), .slice none 0 0, .slice none 0 0] 30) :: (U ++ Z))) H M rfl rfl (qy rfl rfl rfl (by kernel_rfl) M 1 rfl rfl rfl) 1 rfl rfl rfl ?_
     intro w31 M
     refine qa (hK30 _ _ (wp_ret (hret _ _ (en1 H rfl (zn M xw rfl 1 rfl (cs := [iV 2, iV 0, bV false, .slice none 0 0, .slice none 0 0, bV false, .slice none 0 0, .slice none 0 0, .string (⟨#[]⟩), .slice none 0 0, .slice none 0 0]) rfl rfl) ?_))))
     refine .inr ⟨lfD 2 0 ⟨#[]⟩, [], W.length, false, rfl, ⟨kp hW hb9 (by rw [qhi]; unfold qgi; rw [if_neg (of_decide_eq_false hb21), if_neg (of_decide_eq_false hb24), if_pos (of_decide_eq_true hb29)]), by omega, hW1⟩, ⟨qlg (by decide) (by decide) (by decide) (by decide) (by decide), Ob.nil⟩, ?_⟩
     rw [Bool.or_false]
     exact M.sub (cc (cn (.refl _)))
    ·
     have hb29' := of_decide_eq_false hb29
     refine sdo (v := bV false) H (qb rfl rfl (fun w => (ze (a := W) (b := [35, 102]) Tryz.underlying9 w).trans (by rw [hb29] <;> rfl))) λa H↦?_
     refine sda H λa H↦?_
     refine qa (hK28 _ _ (cf H ?_))
     refine wrl ?_
     rcases tf (decide (W = [35, 70])) with hb32 | hb32
     ·
      have hb32' := of_decide_eq_true hb32
      refine sdo (v := bV true) H (qb rfl rfl (fun w => (ze (a := W) (b := [35, 70]) Tryz.underlying9 w).trans (by rw [hb32] <;> rfl))) λa H↦?_
      refine sda H λa H↦?_
      refine qa (hK27 _ _ (ct H ?_))
      refine wsk fun K33 hK33 => wrl (sdo (v := .agg #[iV 2, iV 0, bV false, .slice none 0 0, .slice none 0 0, bV false, .slice none 0 0, .slice none 0 0, .string (⟨#[]⟩), .slice none 0 0, .slice none 0 0]) H (qw rfl (fun w => by kernel_rfl)) λa H↦?_)
      refine zh (L' := (.obj g (rC L (p + W.length) lg) :: .obj g2 (.cells #[iV 2, iV 0, bV false, .slice none 0 0, .slice none 0 0, bV false, .slice none 0 0, .slice none 0 0, .string (⟨#[]⟩), .slice none 0 0, .slice none 0 0] 30) :: (U ++ Z))) H M rfl rfl (qy rfl rfl rfl (by kernel_rfl) M 1 rfl rfl rfl) 1 rfl rfl rfl ?_
      intro w34 M
      refine qa (hK33 _ _ (wp_ret (hret _ _ (en1 H rfl (zn M xw rfl 1 rfl (cs := [iV 2, iV 0, bV false, .slice none 0 0, .slice none 0 0, bV false, .slice none 0 0, .slice none 0 0, .string (⟨#[]⟩), .slice none 0 0, .slice none 0 0]) rfl rfl) ?_))))
      refine .inr ⟨lfD 2 0 ⟨#[]⟩, [], W.length, false, rfl, ⟨kp hW hb9 (by rw [qhi]; unfold qgi; rw [if_neg (of_decide_eq_false hb21), if_neg (of_decide_eq_false hb24), if_neg (of_decide_eq_false hb29), if_pos (of_decide_eq_true hb32)]), by omega, hW1⟩, ⟨qlg (by decide) (by decide) (by decide) (by decide) (by decide), Ob.nil⟩, ?_⟩
      rw [Bool.or_false]
      exact M.sub (cc (cn (.refl _)))
     ·
      have hb32' := of_decide_eq_false hb32
      refine sdo (v := bV false) H (qb rfl rfl (fun w => (ze (a := W) (b := [35, 70]) Tryz.underlying9 w).trans (by rw [hb32] <;> rfl))) λa H↦?_
      refine sda H λa H↦?_
      refine qa (hK27 _ _ (cf H ?_))
      refine wp_skip (hK17 _ _ (wsk fun K35 hK35 => wsk fun K36 hK36 => wrl (sdm H λa H↦?_)))
      rcases tf (Lib.hasPrefix W [35, 92]) with hb38 | hb38
      ·
       refine gcl H M (ef rfl rfl) (zne (l := W) (t := [35, 92]) hb38) fun w40 hb39 M a H => ?_
       refine sdm H λa H↦?_
       iterate 2 refine sdo H (qh (vs := [.string ((tx (W.drop 2))), bV true]) rfl rfl) λa H↦?_
       iterate 2 refine sda H λa H↦?_
       refine qa (hK36 _ _ (wsk fun K41 hK41 => wrl (sdm H λa H↦?_)))
       refine qa (hK41 _ _ (ct H ?_))
       refine wsk fun K42 hK42 => wrl (sdm H λa H↦?_)
       refine qt H rfl rfl rfl (ef rfl rfl) (zng (hN.below M.bel) (by rw [List.length_drop]; omega)) ?_
       rintro _ w44 (⟨rfl, hp45⟩ | ⟨c, rfl, ⟨hc, hcc⟩, hb43⟩)
       ·
        exact .inl ⟨_, rfl, hX _ _ _ _ _ H (.inl ⟨rfl, qvj hW (by unfold qgi; rw [if_neg (of_decide_eq_false hb21), if_neg (of_decide_eq_false hb24), if_neg (of_decide_eq_false hb29), if_neg (of_decide_eq_false hb32), if_pos hb38]; rw [hp45.1]; rfl), _, _, by omega, (M.call hp45.2).sub (cc (cn (.refl _)))⟩)⟩
       have hcr := qlb hcc
       replace M := M.call hb43
       refine .inr ⟨_, rfl, ?_⟩
       intro a H
       refine sdo (v := iV c) H (zu rfl (qre Tryz.underlying21 Tryz.underlying3 hcr.1 hcr.2)) λa H↦?_
       refine sdo (v := .agg #[iV 4, iV c, bV false, .slice none 0 0, .slice none 0 0, bV false, .slice none 0 0, .slice none 0 0, .string (⟨#[]⟩), .slice none 0 0, .slice none 0 0]) H (qw rfl (fun w => by kernel_rfl)) λa H↦?_
       refine zh (L' := (.obj g (rC L (p + W.length) lg) :: .obj g2 (.cells #[iV 4, iV c, bV false, .slice none 0 0, .slice none 0 0, bV false, .slice none 0 0, .slice none 0 0, .string (⟨#[]⟩), .slice none 0 0, .slice none 0 0] 30) :: (U ++ Z))) H M rfl rfl (qy rfl rfl rfl (by kernel_rfl) M 1 rfl rfl rfl) 1 rfl rfl rfl ?_
       intro w46 M
       refine qa (hK42 _ _ (wp_ret (hret _ _ (en1 H rfl (zn M xw rfl 1 rfl (cs := [iV 4, iV c, bV false, .slice none 0 0, .slice none 0 0, bV false, .slice none 0 0, .slice none 0 0, .string (⟨#[]⟩), .slice none 0 0, .slice none 0 0]) rfl rfl) ?_))))
       refine .inr ⟨lfD 4 c ⟨#[]⟩, [], W.length, false, rfl, ⟨kp hW hb9 (by rw [qhi]; unfold qgi; rw [if_neg (of_decide_eq_false hb21), if_neg (of_decide_eq_false hb24), if_neg (of_decide_eq_false hb29), if_neg (of_decide_eq_false hb32), if_pos hb38]; rw [hc]; rfl), by omega, hW1⟩, ⟨qlg (by decide) (by decide) (by omega) (by omega) (by decide), Ob.nil⟩, ?_⟩
       rw [Bool.or_false]
       exact M.sub (cc (cn (.refl _)))
      ·
       refine gcl H M (ef rfl rfl) (znf (l := W) (t := [35, 92]) hb38) fun w48 hb47 M a H => ?_
       refine sdm H λa H↦?_
       iterate 2 refine sdo H (qh (vs := [.string ((tx W)), bV false]) rfl rfl) λa H↦?_
       iterate 2 refine sda H λa H↦?_
       refine qa (hK36 _ _ (wsk fun K49 hK49 => wrl (sdm H λa H↦?_)))
       refine qa (hK49 _ _ (cf H ?_))
       refine wp_skip (hK35 _ _ (wsk fun K50 hK50 => wrl (sdm H λa H↦?_)))
       rcases tf (decide (e9 = 0)) with hb51 | hb51
       ·
        have hb51' := of_decide_eq_true hb51
        refine sct H (ef rfl rfl) ((by have h := qoc (w := w48) (n := 10) (l := W) (by omega); rw [hq9] at h; exact h)) ?_
        rintro _ w53 ⟨o1, c1, o2, c2, o3, c3, o4, c4, rfl, hnm, hb52⟩
        obtain ⟨F, hF, hM9, hLv⟩ := jgg (y := ⟨q9, o1, c1, o2, c2, o3, c3, o4, c4⟩) (U := (.obj g (rC L (p + W.length) lg) :: .obj g2 zC :: U)) (Z := Z) (M.call hb52) (Cu.cons rfl (Cu.cons rfl hU)) hZ hnm (by have h := (qvi W 10).1; rw [hq9] at h; exact h)
        replace M : Mg w0 w53 (.obj g (rC L (p + W.length) lg) :: .obj g2 zC :: (U ++ (F ++ Z))) := hM9
        refine ⟨_, rfl, ?_⟩
        intro a H
        refine sdm H λa H↦?_
        iterate 2 refine sdo H (qh (vs := [.agg #[bV q9.b1, .slice o1 q9.t1.length c1, .slice o2 q9.q1.length c2, bV q9.b2, .slice o3 q9.t2.length c3, .slice o4 q9.q2.length c4], iV e9]) rfl rfl) λa H↦?_
        refine vr (vs := [bV false, .slice none 0 0, .slice none 0 0, bV false, .slice none 0 0, .slice none 0 0]) (t := 26) H M rfl rfl rfl pg (ql (z := .agg #[bV false, .slice none 0 0, .slice none 0 0, bV false, .slice none 0 0, .slice none 0 0]) (by kernel_rfl) rfl) (by decide) ?_
        intro g54 w55 M a H
        refine zh (L' := (.obj g54 (.cells #[bV q9.b1, .slice o1 q9.t1.length c1, .slice o2 q9.q1.length c2, bV q9.b2, .slice o3 q9.t2.length c3, .slice o4 q9.q2.length c4] 26) :: .obj g (rC L (p + W.length) lg) :: .obj g2 zC :: (U ++ (F ++ Z)))) H M rfl rfl (qy rfl rfl rfl (by kernel_rfl) M 0 rfl rfl rfl) 0 rfl rfl rfl ?_
        intro w56 M
        refine sda H λa H↦?_
        refine qa (hK50 _ _ (wsk fun K57 hK57 => wsk fun K58 hK58 => wrl (sdm H λa H↦?_)))
        refine qa (hK58 _ _ (wp_block (wsk fun K59 hK59 => wrl (sdo (v := bV true) H (qb rfl rfl (fun w => (qfb (a := e9) (b := 0) Tryz.underlying31 w).trans (by rw [hb51] <;> rfl))) λa H↦?_))))
        refine sda H λa H↦?_
        refine qa (hK59 _ _ (ct H ?_))
        refine wsk fun K61 hK61 => wrl (sdo H (vd M zvb rfl 0 rfl (cs := [bV q9.b1, .slice o1 q9.t1.length c1, .slice o2 q9.q1.length c2, bV q9.b2, .slice o3 q9.t2.length c3, .slice o4 q9.q2.length c4]) rfl rfl) λa H↦?_)
        refine sdo (v := .agg #[iV 3, iV 0, bV q9.b1, .slice o1 q9.t1.length c1, .slice o2 q9.q1.length c2, bV q9.b2, .slice o3 q9.t2.length c3, .slice o4 q9.q2.length c4, .string (⟨#[]⟩), .slice none 0 0, .slice none 0 0]) H (qw rfl (fun w => by kernel_rfl)) λa H↦?_
        refine zh (L' := (.obj g54 (.cells #[bV q9.b1, .slice o1 q9.t1.length c1, .slice o2 q9.q1.length c2, bV q9.b2, .slice o3 q9.t2.length c3, .slice o4 q9.q2.length c4] 26) :: .obj g (rC L (p + W.length) lg) :: .obj g2 (.cells #[iV 3, iV 0, bV q9.b1, .slice o1 q9.t1.length c1, .slice o2 q9.q1.length c2, bV q9.b2, .slice o3 q9.t2.length c3, .slice o4 q9.q2.length c4, .string (⟨#[]⟩), .slice none 0 0, .slice none 0 0] 30) :: (U ++ (F ++ Z)))) H M rfl rfl (qy rfl rfl rfl (by kernel_rfl) M 2 rfl rfl rfl) 2 rfl rfl rfl ?_
        intro w62 M
        refine qa (hK61 _ _ (wp_ret (hret _ _ (en1 H rfl (zn M xw rfl 2 rfl (cs := [iV 3, iV 0, bV q9.b1, .slice o1 q9.t1.length c1, .slice o2 q9.q1.length c2, bV q9.b2, .slice o3 q9.t2.length c3, .slice o4 q9.q2.length c4, .string (⟨#[]⟩), .slice none 0 0, .slice none 0 0]) rfl rfl) ?_))))
        replace M : Mg w0 w62 (.obj g (rC L (p + W.length) lg) :: .obj g54 (.cells #[bV q9.b1, .slice o1 q9.t1.length c1, .slice o2 q9.q1.length c2, bV q9.b2, .slice o3 q9.t2.length c3, .slice o4 q9.q2.length c4] 26) :: .obj g2 (.cells #[iV 3, iV 0, bV q9.b1, .slice o1 q9.t1.length c1, .slice o2 q9.q1.length c2, bV q9.b2, .slice o3 q9.t2.length c3, .slice o4 q9.q2.length c4, .string (⟨#[]⟩), .slice none 0 0, .slice none 0 0] 30) :: (U ++ (F ++ Z))) := M.bring 1 rfl rfl
        refine .inr ⟨nuD ⟨q9, o1, c1, o2, c2, o3, c3, o4, c4⟩, F, W.length, false, rfl, ⟨kp hW hb9 (by rw [jge]; unfold qgi; rw [if_neg (of_decide_eq_false hb21), if_neg (of_decide_eq_false hb24), if_neg (of_decide_eq_false hb29), if_neg (of_decide_eq_false hb32), if_neg (by rw [hb38]; decide), hq9, if_pos (of_decide_eq_true hb51)]), by omega, hW1⟩, ⟨hLv, hF⟩, ?_⟩
        rw [Bool.or_false]
        exact M.sub (cc (cn (cn (.refl _))))
       ·
        have hb51' := of_decide_eq_false hb51
        refine sct H (ef rfl rfl) ((by have h := qoc (w := w48) (n := 10) (l := W) (by omega); rw [hq9] at h; exact h)) ?_
        rintro _ w64 ⟨o1, c1, o2, c2, o3, c3, o4, c4, rfl, hnm, hb63⟩
        replace M := M.call hb63
        refine ⟨_, rfl, ?_⟩
        intro a H
        refine sdm H λa H↦?_
        iterate 2 refine sdo H (qh (vs := [.agg #[bV q9.b1, .slice o1 q9.t1.length c1, .slice o2 q9.q1.length c2, bV q9.b2, .slice o3 q9.t2.length c3, .slice o4 q9.q2.length c4], iV e9]) rfl rfl) λa H↦?_
        refine vr (vs := [bV false, .slice none 0 0, .slice none 0 0, bV false, .slice none 0 0, .slice none 0 0]) (t := 26) H M rfl rfl rfl pg (ql (z := .agg #[bV false, .slice none 0 0, .slice none 0 0, bV false, .slice none 0 0, .slice none 0 0]) (by kernel_rfl) rfl) (by decide) ?_
        intro g65 w66 M a H
        refine zh (L' := (.obj g65 (.cells #[bV q9.b1, .slice o1 q9.t1.length c1, .slice o2 q9.q1.length c2, bV q9.b2, .slice o3 q9.t2.length c3, .slice o4 q9.q2.length c4] 26) :: .obj g (rC L (p + W.length) lg) :: .obj g2 zC :: (U ++ Z))) H M rfl rfl (qy rfl rfl rfl (by kernel_rfl) M 0 rfl rfl rfl) 0 rfl rfl rfl ?_
        intro w67 M
        refine sda H λa H↦?_
        refine qa (hK50 _ _ (wsk fun K68 hK68 => wsk fun K69 hK69 => wrl (sdm H λa H↦?_)))
        refine qa (hK69 _ _ (wp_block (wsk fun K70 hK70 => wrl (sdo (v := bV false) H (qb rfl rfl (fun w => (qfb (a := e9) (b := 0) Tryz.underlying31 w).trans (by rw [hb51] <;> rfl))) λa H↦?_))))
        refine sda H λa H↦?_
        refine qa (hK70 _ _ (cf H ?_))
        refine wsk fun K72 hK72 => wrl ?_
        rcases tf (decide (e9 = 4)) with hb73 | hb73
        ·
         have hb73' := of_decide_eq_true hb73
         refine sdo (v := bV true) H (qb rfl rfl (fun w => (qfb (a := e9) (b := 4) Tryz.underlying31 w).trans (by rw [hb73] <;> rfl))) λa H↦?_
         refine sda H λa H↦?_
         refine qa (hK72 _ _ (ct H ?_))
         refine wsk fun K74 hK74 => wrl (sdm H λa H↦?_)
         refine sdo H (zt rfl) λa H↦?_
         refine sdo (v := pA g 2) H (qe qqb rfl rfl) λa H↦?_
         refine zh (L' := (.obj g65 (.cells #[bV q9.b1, .slice o1 q9.t1.length c1, .slice o2 q9.q1.length c2, bV q9.b2, .slice o3 q9.t2.length c3, .slice o4 q9.q2.length c4] 26) :: .obj g (rC L (p + W.length) true) :: .obj g2 zC :: (U ++ Z))) H M rfl rfl (qy rfl rfl rfl (by kernel_rfl) M 1 rfl rfl rfl) 1 rfl rfl rfl ?_
         intro w75 M
         refine qa (hK74 _ _ (wsk fun K76 hK76 => wrl (sdo (v := .agg zD.toArray) H (qw rfl (fun w => by kernel_rfl)) λa H↦?_)))
         refine zh (L' := (.obj g65 (.cells #[bV q9.b1, .slice o1 q9.t1.length c1, .slice o2 q9.q1.length c2, bV q9.b2, .slice o3 q9.t2.length c3, .slice o4 q9.q2.length c4] 26) :: .obj g (rC L (p + W.length) true) :: .obj g2 zC :: (U ++ Z))) H M rfl rfl (qy rfl rfl rfl (by kernel_rfl) M 2 rfl rfl rfl) 2 rfl rfl rfl ?_
         intro w77 M
         refine qa (hK76 _ _ (wp_ret (hret _ _ (en1 H rfl (zn M xw rfl 2 rfl (cs := zD) rfl rfl) ?_))))
         replace M : Mg w0 w77 (.obj g (rC L (p + W.length) true) :: .obj g65 (.cells #[bV q9.b1, .slice o1 q9.t1.length c1, .slice o2 q9.q1.length c2, bV q9.b2, .slice o3 q9.t2.length c3, .slice o4 q9.q2.length c4] 26) :: .obj g2 zC :: (U ++ Z)) := M.bring 1 rfl rfl
         refine .inr ⟨qed, [], W.length, true, rfl, ⟨kp hW hb9 (by rw [yt]; unfold qgi; rw [if_neg (of_decide_eq_false hb21), if_neg (of_decide_eq_false hb24), if_neg (of_decide_eq_false hb29), if_neg (of_decide_eq_false hb32), if_neg (by rw [hb38]; decide), hq9, if_neg (of_decide_eq_false hb51), if_pos (of_decide_eq_true hb73)]), by omega, hW1⟩, ⟨fun w _ => yv w, Ob.nil⟩, ?_⟩
         rw [Bool.or_true]
         exact M.sub (cc (cn (cn (.refl _))))
        ·
         have hb73' := of_decide_eq_false hb73
         refine sdo (v := bV false) H (qb rfl rfl (fun w => (qfb (a := e9) (b := 4) Tryz.underlying31 w).trans (by rw [hb73] <;> rfl))) λa H↦?_
         refine sda H λa H↦?_
         refine qa (hK72 _ _ (cf H ?_))
         refine wp_skip (hK68 _ _ (wsk fun K78 hK78 => wrl (sdm H λa H↦?_)))
         replace M : Mg w0 w67 (.obj g (rC L (p + W.length) lg) :: .obj g65 (.cells #[bV q9.b1, .slice o1 q9.t1.length c1, .slice o2 q9.q1.length c2, bV q9.b2, .slice o3 q9.t2.length c3, .slice o4 q9.q2.length c4] 26) :: .obj g2 zC :: (U ++ Z)) := M.bring 1 rfl rfl
         refine qt H rfl rfl rfl (ef rfl rfl) (zbi (hN.below M.bel) (by omega)) ?_
         rintro _ w80 (⟨rfl, hp81⟩ | ⟨s9, rfl, ⟨hs9, hsl9⟩, hb79⟩)
         ·
          exact .inl ⟨_, rfl, hX _ _ _ _ _ H (.inl ⟨rfl, qvj hW (by unfold qgi; rw [if_neg (of_decide_eq_false hb21), if_neg (of_decide_eq_false hb24), if_neg (of_decide_eq_false hb29), if_neg (of_decide_eq_false hb32), if_neg (by rw [hb38]; decide), hq9, if_neg (of_decide_eq_false hb51), if_neg (of_decide_eq_false hb73)]; rw [hp81.1]; rfl), _, _, by omega, (M.call hp81.2).sub (cc (cn (cn (.refl _))))⟩)⟩
         replace M := M.call hb79
         refine .inr ⟨_, rfl, ?_⟩
         intro a H
         refine sdo (v := .agg #[iV 6, iV 0, bV false, .slice none 0 0, .slice none 0 0, bV false, .slice none 0 0, .slice none 0 0, .string ((tx s9)), .slice none 0 0, .slice none 0 0]) H (qw rfl (fun w => by kernel_rfl)) λa H↦?_
         refine zh (L' := (.obj g (rC L (p + W.length) lg) :: .obj g65 (.cells #[bV q9.b1, .slice o1 q9.t1.length c1, .slice o2 q9.q1.length c2, bV q9.b2, .slice o3 q9.t2.length c3, .slice o4 q9.q2.length c4] 26) :: .obj g2 (.cells #[iV 6, iV 0, bV false, .slice none 0 0, .slice none 0 0, bV false, .slice none 0 0, .slice none 0 0, .string ((tx s9)), .slice none 0 0, .slice none 0 0] 30) :: (U ++ Z))) H M rfl rfl (qy rfl rfl rfl (by kernel_rfl) M 2 rfl rfl rfl) 2 rfl rfl rfl ?_
         intro w82 M
         refine qa (hK78 _ _ (wp_ret (hret _ _ (en1 H rfl (zn M xw rfl 2 rfl (cs := [iV 6, iV 0, bV false, .slice none 0 0, .slice none 0 0, bV false, .slice none 0 0, .slice none 0 0, .string ((tx s9)), .slice none 0 0, .slice none 0 0]) rfl rfl) ?_))))
         refine .inr ⟨lfD 6 0 (tx s9), [], W.length, false, rfl, ⟨kp hW hb9 (by rw [qhi]; unfold qgi; rw [if_neg (of_decide_eq_false hb21), if_neg (of_decide_eq_false hb24), if_neg (of_decide_eq_false hb29), if_neg (of_decide_eq_false hb32), if_neg (by rw [hb38]; decide), hq9, if_neg (of_decide_eq_false hb51), if_neg (of_decide_eq_false hb73)]; rw [hs9]; rfl), by omega, hW1⟩, ⟨qlg (by decide) (by decide) (by decide) (by decide) (by rw [jt]; omega), Ob.nil⟩, ?_⟩
         rw [Bool.or_false]
         exact M.sub (cc (cn (cn (.refl _))))
section
variable {F : Fence} {m : Nat} {P : Program} {w0 w w' : World} {L : List Ck} {l : List (Nat × Value)} {ops : List Oper} {Q : Exit → Act → World → Prop} {a : Act} {n : Nat} {o : Oper} {rest : List Oper} {d : Nat} {v : Value}
def Sd (a : Act) (n : Nat) (l : List (Nat × Value)) : Prop := Sl { a with defers := [] } n l
theorem qrf (hnd : ∀ c, o.op ≠ .defer c) (r : Option Nat) (ρ : Operand → Value) : o.semAt r ρ = execOp ρ o := by
 cases r with
 | none => rfl
 | some k => exact Oper.semAt_some k _ _ hnd
theorem yd (hF : ∀ f, F.fn f) (H : Sd a n l) (hg : zb l ops o = true) (hdst : o.dst = some d) (hd : Nat.blt d n = true) (hnd : ∀ c, o.op ≠ .defer c) (he : Does P l o w v w')
  (hk : ∀ a', Sd a' n ((d, v) :: l) → a'.defers = a.defers → wpListIn F m P ops.toArray Q rest a' w') : wpListIn F m P ops.toArray Q (o :: rest) a w := by
 unfold wpListIn
 rw [if_pos (show Region.wanted o (yielded ops.toArray a.tmps) = true from H.wanted hg)]
 refine ⟨fun f _ => hF f, ?_⟩
 rw [qrf hnd, he a.eval (fun x u hx => H.ev hx), Oper.uponIn_value, hdst]
 exact hk _ (H.put hd v) rfl
theorem zqc (hF : ∀ f, F.fn f) (H : Sd a n l) (hg : zb l ops o = true) (hdst : o.dst = none) (hnd : ∀ c, o.op ≠ .defer c) (he : Sets P l o w w')
  (hk : wpListIn F m P ops.toArray Q rest a w') : wpListIn F m P ops.toArray Q (o :: rest) a w := by
 unfold wpListIn
 rw [if_pos (show Region.wanted o (yielded ops.toArray a.tmps) = true from H.wanted hg)]
 refine ⟨fun f _ => hF f, ?_⟩
 rw [qrf hnd, he a.eval (fun x u hx => H.ev hx), Oper.uponIn_skip, hdst]
 exact hk
theorem jbi (hF : ∀ f, F.fn f) (hd0 : F.depth = none) (H : Sd a n l) (hg : zb l ops o = true) (hdst : o.dst = some d) (hd : Nat.blt d n = true) (hnd : ∀ c, o.op ≠ .defer c) {f : FuncId} {vs : List Value} (he : Enters P l o w f vs) {R : World → Prop} (hc : CallsIn F (m - 1) P f vs.toArray w fun e w' => e = .returned v ∧ R w')
  (hk : ∀ w', R w' → ∀ a', Sd a' n ((d, v) :: l) → a'.defers = a.defers → wpListIn F m P ops.toArray Q rest a' w') : wpListIn F m P ops.toArray Q (o :: rest) a w := by
 unfold wpListIn
 rw [if_pos (show Region.wanted o (yielded ops.toArray a.tmps) = true from H.wanted hg)]
 refine ⟨fun f _ => hF f, ?_⟩
 rw [qrf hnd, he a.eval (fun x u hx => H.ev hx), Oper.uponIn_enter]
 refine ⟨(fun h => by rw [hd0] at h; cases h), hc.mono ?_⟩
 rintro _ w' ⟨rfl, h⟩
 rw [hdst]
 exact hk w' h _ (H.put hd v) rfl
theorem jbj {c : Code} (I : Nat → Act → World → Prop) (N : Nat) (h0 : I N a w) (round : ∀ k a w, I k a w → c.wpIn F m P (Exit.then (fun a' w' => ∃ j, k = j + 1 ∧ I j a' w') Q) a w) : (Code.loop c).wpIn F m P Q a w := by
 have key : ∀ k a w, I k a w → Code.roundsIn F m P c Q (k + 1) a w := by
  intro k
  induction k with
  | zero =>
   intro a w h
   refine wpIn_mono (round 0 a w h) (fun e a' w' hq => ?_)
   cases e with
   | normal => obtain ⟨j, hj, _⟩ := hq; omega
   | _ => exact hq
  | succ k ih =>
   intro a w h
   refine wpIn_mono (round (k + 1) a w h) (fun e a' w' hq => ?_)
   cases e with
   | normal =>
    obtain ⟨j, hj, hI⟩ := hq
    obtain rfl : k = j := by omega
    exact ih a' w' hI
   | _ => exact hq
 exact wpIn_loop_rounds (N + 1) (key N a w h0)
theorem zxd (hF : ∀ f, F.fn f) (hd0 : F.depth = none) (H : Sd a n l) (hg : zb l ops o = true) (hdst : o.dst = some d) (hd : Nat.blt d n = true) (hnd : ∀ c, o.op ≠ .defer c) {k : Nat} {vs : List Value} (he : ∀ ρ : Operand → Value, (∀ x u, ev l x = some u → ρ x = u) → (execOp ρ o).run P w = (Instr.yield k vs.toArray).run P w) {R : Bool → World → Prop} (hy : YieldAt F (m - 1) P k vs.toArray w fun e w' => ∃ b, e = .returned (bV b) ∧ R b w')
  (hk : ∀ b w', R b w' → ∀ a', Sd a' n ((d, bV b) :: l) → a'.defers = a.defers → wpListIn F m P ops.toArray Q rest a' w') : wpListIn F m P ops.toArray Q (o :: rest) a w := by
 obtain ⟨fn, tmps, assign, body, h1, h2⟩ := hy
 unfold wpListIn
 rw [if_pos (show Region.wanted o (yielded ops.toArray a.tmps) = true from H.wanted hg)]
 refine ⟨fun f _ => hF f, ?_⟩
 rw [qrf hnd, he a.eval (fun x u hx => H.ev hx), h1, Oper.uponIn_round]
 refine ⟨(fun h => by rw [hd0] at h; cases h), h2.mono ?_⟩
 rintro _ w' ⟨b, rfl, h⟩
 rw [hdst]
 exact hk b w' h _ (H.put hd (bV b)) rfl
theorem qwa {x : Operand} {k : Nat} {args : List Operand} {ts : Array TypeId} {vs : List Value} {dst : Option Tmp} {ty : TypeId} {pos : String} {after : Array Edge} {guard : Option (Nat × Bool)} (hx : ev l x = some (.func (.yield k) #[] #[])) (ha : evs l args = some vs) :
  ∀ ρ : Operand → Value, (∀ x u, ev l x = some u → ρ x = u) → (execOp ρ ⟨dst, .call ⟨.value x, args.toArray, ts⟩, ty, pos, after, guard⟩).run P w = (Instr.yield k vs.toArray).run P w := fun ρ h => by
 have e := zeg h args vs ha
 simp [execOp, resolve, invoke, h x _ hx, Deferred.ofValue, e]
theorem Sd.sl (h : Sd a n l) (hd : a.defers = []) : Sl a n l := ⟨h.size, h.holds, hd⟩
theorem Sd.ev (h : Sd a n l) {x : Operand} {v : Value} (hx : Go.Proofs.YtclkfideaameoaaGreatDoor.G.ev l x = some v) : a.eval x = v := Sl.ev h hx
theorem Sd.keep (h : Sd a n l) (l' : List (Nat × Value)) (hs : AllIn l l') : Sd a n l' := Sl.keep h l' hs
theorem jca {f : FuncId} {fn : Func} {c : Code} {args : List Value} {Z : Ending → World → Prop} (hf : P.funcs[f]? = some fn) (hb : fn.body = some c) (hF : F.fn f) (hn : fn.ntmps = n) (hl : Nat.ble args.length n = true) (hs : (args.zipIdx.map fun p => (p.2, p.1)) = l) (hro : F.round = none)
  (h : ∀ Q : Exit → Act → World → Prop, (∀ a w, bodyPost P fn Z .ret a w → Q .ret a w) → (∀ a w, bodyPost P fn Z .ret a w → Q .normal a w) → ∀ a, Sd a n l → a.defers = [] → c.wpIn F m P Q a w) : CallsIn F m P f args.toArray w Z := by
 subst hs
 refine callsIn_of_wp hf hb hF (h _ (fun _ _ h => h) (fun _ _ h => h) _ ?_ rfl) hro
 rw [hn]
 exact Sl.enter (Nat.le_of_ble_eq_true hl)
theorem zxe {f : FuncId} {fn : Func} {c : Code} {args : List Value} {Z : Ending → World → Prop} (hf : P.funcs[f]? = some fn) (hb : fn.body = some c) (hF : F.fn f) (hn : fn.ntmps = n) (hl : Nat.ble args.length n = true) (hs : (args.zipIdx.map fun p => (p.2, p.1)) = l) (hro : F.round = none)
  (h : ∀ Q : Exit → Act → World → Prop, (∀ a w, bodyPostM F m P fn Z .ret a w → Q .ret a w) → ∀ a, Sd a n l → a.defers = [] → c.wpIn F m P Q a w) : CallsIn F m P f args.toArray w Z := by
 subst hs
 refine callsIn_of_wp_marks hf hb hF (h _ (fun _ _ h => h) _ ?_ rfl) hro
 rw [hn]
 exact Sl.enter (Nat.le_of_ble_eq_true hl)
theorem qfc {x y : Code} (h : ∀ K : Act → World → Prop, (∀ a w, y.wpIn F m P Q a w → K a w) → x.wpIn F m P (Exit.then K Q) a w) : (Code.seq x y).wpIn F m P Q a w := wpIn_seq (h _ (fun _ _ h => h))
theorem zqd (hF : ∀ f, F.fn f) (H : Sd a n l) (M : Mg w0 w L) (hg : zb l ops o = true) (hdst : o.dst = some d) (hd : Nat.blt d n = true) (hnd : ∀ c, o.op ≠ .defer c) {vs : List Value} {t : TypeId} (val : Nat → Value) (he : Does P l o w (val w.heap.size) (w.alloc (.cells vs.toArray t))) (ht : t ≠ BY)
  (hk : ∀ g w', Mg w0 w' (.obj g (.cells vs.toArray t) :: L) → w.heap.size ≤ g → g < w'.heap.size → Below w.heap.size w w' → KeepsOthers w w' → ∀ a', Sd a' n ((d, val g) :: l) → a'.defers = a.defers → wpListIn F m P ops.toArray Q rest a' w') : wpListIn F m P ops.toArray Q (o :: rest) a w :=
 yd hF H hg hdst hd hnd he (hk _ _ (M.addObj _ (jx ht)) (Nat.le_refl _) (by simp) ((Below.refl _ w).alloc (Nat.le_refl _) _) (KeepsOthers.alloc _ _))
end
theorem ul (g : Nat) : ∀ (cs : List Value) (w : World) (o : Nat), KeepsOthers w (w.setCells g o cs)
 | [], w, o => KeepsOthers.refl w
 | c :: cs, w, o => (KeepsOthers.setCell w ⟨g, o, none⟩ c).trans (ul g cs _ _)
theorem qcj {B : Nat} (g : Nat) (hg : B ≤ g) : ∀ (cs : List Value) (w : World) (o : Nat), Below B w (w.setCells g o cs)
 | [], w, o => Below.refl _ w
 | c :: cs, w, o => ((Below.refl B w).setCell (p := ⟨g, o, none⟩) hg c).trans (qcj g hg cs _ _)
theorem yz {w w' : World} {row : Option Nat} (hg : w.grownBy w' row) (hr : ∀ r, row = some r → ∃ o : Obj, w.heap[r]? = some o ∧ o.isCells = false) : Kept (fun _ => True) w w' := ⟨hg.size, fun b i v _ hc => by
 by_cases e : row = some b
 ·
  obtain ⟨o, ho, hn⟩ := hr b e
  unfold World.cell? at hc
  simp only [ho] at hc
  cases o <;> simp_all [Obj.isCells]
 ·
  exact hg.cell hc (fun k => e k.symm)⟩
theorem Mg.calm {w0 w w' : World} {L : List Ck} {row : Option Nat} (h : Mg w0 w L) (hg : w.grownBy w' row) (hr : ∀ r, row = some r → w0.heap.size ≤ r ∧ ∃ o : Obj, w.heap[r]? = some o ∧ o.isCells = false) (hL : ∀ c ∈ L, ∃ g vs t, c = .obj g (.cells vs t)) : Mg w0 w' L := by
 refine ⟨h.bel.grown hg h.bel.size (fun k e => (hr k e).1), fun c hc => ?_, h.dis⟩
 obtain ⟨g, vs, t, rfl⟩ := hL c hc
 have h2 := h.all _ hc
 refine ⟨h2.1, (hg.block g (Array.getElem?_eq_some_iff.1 h2.2).1 (fun e => ?_)).trans h2.2⟩
 obtain ⟨_, o, ho, hn⟩ := hr g e.symm
 rw [h2.2] at ho
 cases ho
 cases hn
theorem Dt.at_true : ∀ t : Dt, t.at_ (fun _ => True) := Dt.indT fun d ts ih => Dt.at_iff.2 ⟨⟨fun _ _ _ _ => trivial, fun _ _ _ _ => trivial, fun _ _ _ _ => trivial, fun _ _ _ _ => trivial, fun _ _ _ _ => trivial⟩, fun _ _ _ _ => trivial, ih⟩
theorem Here.kept {w w' : World} {b o : Nat} {cs : List Value} (h : Here w b o cs) (hk : Kept (fun _ => True) w w') : Here w' b o cs := ⟨Nat.lt_of_lt_of_le h.1 hk.1, fun j v hj => hk.2 _ _ _ trivial (h.2 j v hj)⟩
theorem qlh : Is1 Tryz.prog 28 := ⟨⟨_, Tryz.underlying28, rfl⟩, by kernel_rfl⟩
theorem ua : IsS Tryz.prog 30 11 := ⟨⟨_, Tryz.underlying30⟩, by kernel_rfl⟩
def Al (w : World) : Type := { x : Int × Dt // x.2.rd w }
def jgi {w : World} (x : Al w) : Array Value := #[iV x.1.1, .agg (x.1.2.d.cells x.1.2.ts.length).toArray]
def KpB (n₀ Bs : Nat) (W W' : World) : Prop := Below n₀ W W' ∧ ∀ v, W.cell? ⟨Bs, 0, none⟩ = some v → W'.cell? ⟨Bs, 0, none⟩ = some v
theorem KpB.refl (n₀ Bs : Nat) (W : World) : KpB n₀ Bs W W := ⟨Below.refl _ _, fun _ h => h⟩
theorem KpB.trans {n₀ Bs : Nat} {A B C : World} (h : KpB n₀ Bs A B) (k : KpB n₀ Bs B C) : KpB n₀ Bs A C := ⟨h.1.trans k.1, fun v hv => k.2 v (h.2 v hv)⟩
set_option maxRecDepth 100000 in
theorem zdi {wA w0 : World} {Bs : Nat} {so : Option Addr} {ca : Nat} {ts : List Dt} (hR : Rt wA so ts) (hD : ∀ t ∈ ts, t.rd wA) (hb : Below wA.heap.size wA w0) (hBs : w0.cell? ⟨Bs, 0, none⟩ = some (.slice so ts.length ca)) (hBl : Bs < w0.heap.size) (hl : ts.length ≤ 1000000000) (n : Nat) :
  SeqStopsK Fence.wide n Tryz.prog 108 #[pA Bs 0] (jgi (w := wA)) (KpB wA.heap.size Bs) (fun ys => ys.map (fun x => x.1.2) = ts.reverse) (fun _ => True) ts.length w0 := by
 intro l J Jx W hW hJ hJx hY h0
 have hF : ∀ f, Fence.wide.fn f := fun _ => trivial
 rw [List.append_toArray]
 refine jca (l := [(0, .func (.yield l) #[] #[]), (1, pA Bs 0)]) Tryz.func108 rfl trivial rfl rfl rfl rfl ?_
 intro Q hret hnorm a H hdf
 have hc : W.cell? ⟨Bs, 0, none⟩ = some (.slice so ts.length ca) := (hW.cell (p := ⟨Bs, 0, none⟩) hBl).trans hBs
 refine qfc fun K1 hK1 => wpIn_region_lit ?_
 refine yd (v := .slice so ts.length ca) hF H rfl rfl rfl (by intro c h; cases h) (jl rfl (xn qlh hc)) fun a H h2 => ?_
 refine yd (v := iV (ts.length : Nat)) hF H rfl rfl rfl (by intro c h; cases h) (zp Tryz.underlying28 rfl) fun a H h3 => ?_
 refine yd (v := iV ((ts.length : Int) - 1)) hF H rfl rfl rfl (by intro c h; cases h) (qb rfl rfl (ar_sub (in_i64 (by omega) (by omega)))) fun a H h4 => ?_
 refine yd (v := iV ((ts.length : Int) - 1)) hF H rfl rfl rfl (by intro c h; cases h) (zd rfl) fun a H h5 => ?_
 refine wpListIn_nil (hK1 _ _ (wpIn_block ?_))
 refine jbj (fun k a W' => k ≤ ts.length ∧ Sd a 19 [(0, .func (.yield l) #[] #[]), (1, pA Bs 0), (3, iV ((k : Int) - 1))] ∧ a.defers = [] ∧ KpB wA.heap.size Bs W W' ∧ ∃ pre, J pre W' ∧ pre.map (fun x => x.1.2) = (ts.drop k).reverse) ts.length ⟨Nat.le_refl _, H.keep _ ⟨rfl, rfl, rfl, trivial⟩, by rw [h5, h4, h3, h2, hdf], KpB.refl _ _ _, [], h0, by rw [List.drop_length]; rfl⟩ ?_
 rintro k a W' ⟨hk, H, hd, hKp, pre, hJp, hpre⟩
 have hc' := hKp.2 _ hc
 refine qfc fun K2 hK2 => qfc fun K3 hK3 => wpIn_region_lit ?_
 refine yd (v := iV ((k : Int) - 1)) hF H rfl rfl rfl (by intro c h; cases h) (qs rfl) fun a H h2 => ?_
 refine yd (v := bV (decide ((0 : Int) ≤ (k : Int) - 1))) hF H rfl rfl rfl (by intro c h; cases h) (qb rfl rfl jf) fun a H h3 => ?_
 refine wpListIn_nil (hK3 _ _ ?_)
 refine wpIn_cond_split (t := decide ((0 : Int) ≤ (k : Int) - 1)) (H.ev rfl) (fun hq => ?_) (fun hq => ?_)
 ·
  have hq' := of_decide_eq_true hq
  refine wpIn_skip (hK2 _ _ (qfc fun K4 hK4 => wpIn_block (qfc fun K5 hK5 => wpIn_region_lit ?_)))
  obtain ⟨t1, b1, o1, it1, mt1, rt1, lt1, Ht1⟩ := jgb hR hD (i := k - 1) (by omega)
  refine yd (v := .func (.yield l) #[] #[]) hF H rfl rfl rfl (by intro c h; cases h) (qs rfl) fun a H h4 => ?_
  refine yd (v := iV ((k : Int) - 1)) hF H rfl rfl rfl (by intro c h; cases h) (qs rfl) fun a H h5 => ?_
  refine yd (v := .slice so ts.length ca) hF H rfl rfl rfl (by intro c h; cases h) (jl rfl (xn qlh hc')) fun a H h6 => ?_
  refine yd (v := iV ((k : Int) - 1)) hF H rfl rfl rfl (by intro c h; cases h) (qs rfl) fun a H h7 => ?_
  refine yd (v := pA b1 (o1 + (k - 1) * 11)) hF H rfl rfl rfl (by intro c h; cases h) (xh (k := k - 1) Tryz.underlying28 (by kernel_rfl) rfl rfl (by omega) lt1 (by omega)) fun a H h8 => ?_
  have hbW : Below wA.heap.size wA W' := (hb.trans (hW.mono hb.size)).trans hKp.1
  refine yd (v := .agg (t1.d.cells t1.ts.length).toArray) hF H rfl rfl rfl (by intro c h; cases h) (jl rfl (va ua _ rfl (fun j v hj => (hbW.cell Ht1.1).trans (Ht1.2 j v hj)))) fun a H h9 => ?_
  have hlen : pre.length < ts.length := by
   have := congrArg List.length hpre
   simp only [List.length_map, List.length_reverse, List.length_drop] at this
   omega
  refine zxd (k := l) (vs := [iV ((k : Int) - 1), .agg (t1.d.cells t1.ts.length).toArray]) (R := fun b W2 => (b = true ∧ J (pre ++ [⟨((k : Int) - 1, t1), rt1⟩]) W2 ∧ KpB wA.heap.size Bs W' W2) ∨ (b = false ∧ Jx (pre ++ [⟨((k : Int) - 1, t1), rt1⟩]) W2)) hF rfl H rfl rfl rfl (by intro c h; cases h) (qwa rfl rfl) ?_ ?_
  ·
   have := hY pre ⟨((k : Int) - 1, t1), rt1⟩ W' hJp hlen
   obtain ⟨fn, tmps, assign, body, e1, e2⟩ := this
   refine ⟨fn, tmps, assign, body, e1, e2.mono ?_⟩
   rintro e W2 (⟨rfl, h1, h2⟩ | ⟨rfl, h1⟩)
   ·
    exact ⟨true, rfl, .inl ⟨rfl, h1, h2⟩⟩
   ·
    exact ⟨false, rfl, .inr ⟨rfl, h1⟩⟩
  ·
   rintro b W2 hR2 a H h10
   refine yd (v := bV (!b)) hF H rfl rfl rfl (by intro c h; cases h) (za rfl zk) fun a H h11 => ?_
   refine wpListIn_nil (hK5 _ _ ?_)
   have hdd : a.defers = [] := by rw [h11, h10, h9, h8, h7, h6, h5, h4, h3, h2, hd]
   rcases hR2 with ⟨rfl, hJ2, hK2'⟩ | ⟨rfl, hJx2⟩
   ·
    refine wpIn_cond_false (H.ev rfl) (wpIn_skip (hK4 _ _ (wpIn_region_lit ?_)))
    refine yd (v := iV ((k : Int) - 1)) hF H rfl rfl rfl (by intro c h; cases h) (qs rfl) fun a H g1 => ?_
    refine yd (v := iV (((k - 1 : Nat) : Int) - 1)) hF H rfl rfl rfl (by intro c h; cases h) (qb rfl rfl (ar_sub ((in_i64 (by omega) (by omega)).trans (by omega)))) fun a H g2 => ?_
    refine yd (v := iV (((k - 1 : Nat) : Int) - 1)) hF H rfl rfl rfl (by intro c h; cases h) (zd rfl) fun a H g3 => ?_
    refine wpListIn_nil ?_
    refine ⟨k - 1, by omega, by omega, H.keep _ ⟨rfl, rfl, rfl, trivial⟩, by rw [g3, g2, g1, hdd], hKp.trans hK2', _, hJ2, ?_⟩
    rw [List.map_append, hpre, List.drop_eq_getElem_cons (show k - 1 < ts.length by omega), List.reverse_cons, show k - 1 + 1 = k by omega]
    congr 1
    have := (List.getElem?_eq_some_iff.1 it1).2
    rw [this]
    rfl
   ·
    refine wpIn_cond_true (H.ev rfl) (wpIn_ret ?_)
    refine hret _ _ ?_
    exact yn (rs := []) (vs := []) (v := .tuple #[]) (H.sl hdd) rfl .nil rfl ⟨⟨_, rfl⟩, .inr ⟨_, trivial, hJx2⟩⟩
 ·
  have hq' := of_decide_eq_false hq
  refine wpIn_exit ?_
  obtain rfl : k = 0 := by omega
  refine hnorm _ _ ?_
  exact yn (rs := []) (vs := []) (v := .tuple #[]) (H.sl (by rw [h3, h2, hd])) rfl .nil rfl ⟨⟨_, rfl⟩, .inl ⟨pre, hpre, hJp⟩⟩
theorem zqe {w : World} {so : Option Addr} {k ca : Nat} : Calls Tryz.prog 76 #[.slice so k ca] w fun e w' => e = .returned (.func (.func 108) #[] #[pA w.heap.size 0]) ∧ w' = w.alloc (.cells #[.slice so k ca] 28) := by
 refine qr (l := [(0, .slice so k ca)]) Tryz.func76 rfl Tryz.ntmps76 rfl rfl ?_
 intro Q hret hnorm hP a A
 refine wsk fun K1 hK1 => wrl (kq (v := pA w.heap.size 0) (w' := w.alloc (.cells #[.slice so k ca] 28)) A rfl rfl rfl (zg (vs := [.slice so k ca]) rfl rfl) λa A↦?_)
 refine sda A λa A↦?_
 refine qa (hK1 _ _ (wsk (fun K2 hK2 => wrl ?_)))
 refine sdo A (qbh rfl) λa A↦?_
 refine sda A λa A↦?_
 refine qa (hK2 _ _ (wp_ret (hret _ _ ?_)))
 exact yn (rs := [.tmp 2]) A rfl (.cons (qg rfl) .nil) rfl ⟨rfl, rfl⟩
def ZC : List Value := [iV 0, iV 0, bV false, .slice none 0 0, .slice none 0 0, bV false, .slice none 0 0, .slice none 0 0, .string ⟨#[]⟩, .slice none 0 0, .slice none 0 0]
theorem qwb {g1 g2 : Nat} {v1 v2 : Array Value} {t : TypeId} : ∀ c ∈ [Ck.obj g1 (.cells v1 t), Ck.obj g2 (.cells v2 t)], ∃ g vs t, c = Ck.obj g (.cells vs t) := by
 intro c hc
 simp only [List.mem_cons, List.not_mem_nil, or_false] at hc
 rcases hc with rfl | rfl
 ·
  exact ⟨_, _, _, rfl⟩
 ·
  exact ⟨_, _, _, rfl⟩
def SeenN (w : World) (g3 g4 : Nat) (W w9 : World) : Prop := ∀ b i v, w.heap.size ≤ b → b ≠ g3 → b ≠ g4 → W.cell? ⟨b, i, none⟩ = some v → w9.cell? ⟨b, i, none⟩ = some v
def LinkS (w : World) (g3 g4 : Nat) (u : Dt) (pre : List (Al w)) (W : World) (z : Dt) : Prop := ∀ w9, SeenN w g3 g4 W w9 → (∀ x ∈ pre, x.1.2.rd w9) → u.rd w9 → z.rd w9
theorem LinkS.mono {w W W' : World} {g3 g4 : Nat} {u z : Dt} {pre : List (Al w)} (h : LinkS w g3 g4 u pre W z) (hk : ∀ b i v, b ≠ g3 → b ≠ g4 → W.cell? ⟨b, i, none⟩ = some v → W'.cell? ⟨b, i, none⟩ = some v) : LinkS w g3 g4 u pre W' z := fun w9 h9 => h w9 fun b i v hb h3 h4 hc => h9 b i v hb h3 h4 (hk b i v h3 h4 hc)
def LinkJ (w : World) (g3 g4 : Nat) (u : Dt) (pre : List (Al w)) (W : World) : Prop := ∃ z : Dt, Mg w W [.obj g4 (.cells ZC.toArray 30), .obj g3 (.cells (z.d.cells z.ts.length).toArray 30)] ∧ z.rd W ∧ z.at_ (fun b => b ≠ g3 ∧ b ≠ g4) ∧ z.tr = yw ((pre.map (fun x => x.1.2.tr)).reverse) u.tr ∧ LinkS w g3 g4 u pre W z
theorem zjh (w : World) (g3 g4 : Nat) (u : Dt) (B : Nat) (hB : w.heap.size ≤ B) : OwnFrom B (LinkJ w g3 g4 u) := by
 rintro pre W W' row ⟨z, M, hr, ha, ht, hs⟩ hg hrow
 exact ⟨z, M.calm hg (fun r e => ⟨Nat.le_trans hB (hrow r e).1, (hrow r e).2⟩) qwb, Dt.kept (yz hg (fun r e => (hrow r e).2)) _ hr (Dt.at_true _), ha, ht, hs.mono fun b i v _ _ hc => (yz hg (fun r e => (hrow r e).2)).2 b i v trivial hc⟩
set_option maxRecDepth 100000 in
theorem qgj {w : World} {so : Option Addr} {ca : Nat} {ts : List Dt} {u : Dt} (hR : Rt w so ts) (hD : ∀ t ∈ ts, t.rd w) (hu : u.rd w) (hl : ts.length ≤ 1000000000) : Calls Tryz.prog 56 #[.slice so ts.length ca, .agg (u.d.cells u.ts.length).toArray] w fun e w' => ∃ t2 : Dt, e = .returned (.agg (t2.d.cells t2.ts.length).toArray) ∧ (t2.rd w' ∧ t2.tr = yw (ts.map Dt.tr) u.tr) ∧ Below w.heap.size w w' ∧ ∀ w9, (∀ b i v, w.heap.size ≤ b → w'.cell? ⟨b, i, none⟩ = some v → w9.cell? ⟨b, i, none⟩ = some v) → (∀ t ∈ ts, t.rd w9) → u.rd w9 → t2.rd w9 := by
 refine (callsIn_wide (n := 5)).1 ?_
 have hF : ∀ f, Fence.wide.fn f := fun _ => trivial
 refine zxe (l := [(0, .slice so ts.length ca), (1, .agg (u.d.cells u.ts.length).toArray)]) Tryz.func56 rfl trivial rfl rfl rfl rfl ?_
 intro Q hret a A hdf
 have M : Mg w w [] := Mg.start w
 refine qfc fun K1 hK1 => wpIn_region_lit ?_
 refine zqd (vs := u.d.cells u.ts.length) (t := 30) hF A M rfl rfl rfl (by intro c h; cases h) pg (zg rfl rfl) (by decide) ?_
 intro g3 W1 M hg3 hg3' hB1 _ a A h2
 refine zqd (vs := ZC) (t := 30) hF A M rfl rfl rfl (by intro c h; cases h) pg (ql (z := .agg ZC.toArray) (by kernel_rfl) rfl) (by decide) ?_
 intro g4 W2 M hg4 hg4' hB2 _ a A h3
 refine wpListIn_nil (hK1 _ _ (qfc fun K2 hK2 => qfc fun K3 hK3 => wpIn_region_lit ?_))
 refine yd (v := .slice so ts.length ca) hF A rfl rfl rfl (by intro c h; cases h) (qs rfl) fun a A h4 => ?_
 refine jbi (R := fun W3 => W3 = W2.alloc (.cells #[.slice so ts.length ca] 28)) hF rfl A rfl rfl rfl (by intro c h; cases h) (ef rfl rfl) (callsIn_wide.2 zqe) ?_
 rintro W3 hW3 a A h5
 refine wpListIn_nil (hK3 _ _ (wpIn_block ?_))
 have hB3 : Below W2.heap.size W2 W3 := hW3 ▸ (Below.refl _ W2).alloc (Nat.le_refl _) _
 have hs3 : W3.heap.size = W2.heap.size + 1 := by rw [hW3]; simp
 have hc3 : W3.cell? ⟨W2.heap.size, 0, none⟩ = some (.slice so ts.length ca) := by
  rw [hW3, cell_of_row _ _ _ _ _ _ (heap_alloc_new W2 _)]; rfl
 replace M := M.call hB3
 have hw2 : w.heap.size ≤ W2.heap.size := by omega
 have hur : u.rd W3 := Dt.keep M.bel _ hu
 have hua : u.at_ (fun b => b ≠ g3 ∧ b ≠ g4) := Dt.at_mono (fun b hb => by constructor <;> omega) _ (Dt.at_lt _ hu)
 refine wpIn_rangeFunc_ownH (F := Fence.wide) rfl (by decide) (gf := 108) (lb := #[pA W2.heap.size 0]) (A.ev rfl) trivial (fun us w => by kernel_rfl)
  (zdi hR hD M.bel hc3 (by omega) hl _) KpB.trans ?hkb (Below.refl _ _) (fun _ => rfl)
  (LinkJ w g3 g4 u) (fun _ _ _ => False) (zjh w g3 g4 u _ (by omega)) (fun _ _ _ _ _ hs _ _ => hs)
  ⟨u, M, hur, hua, rfl, fun w9 _ _ h => h⟩
  (fun x a' W => ∃ Bx, Sd a' 16 [(3, pA g3 0), (4, pA g4 0), (6, pA Bx 0)] ∧ Here W Bx 0 (x.1.2.d.cells x.1.2.ts.length))
  (fun x a' _ X Y row hs hg hr => by obtain ⟨Bx, h1, h2⟩ := hs; exact ⟨Bx, h1, h2.kept (yz hg (fun r e => (hr r e).2))⟩)
  ?assign ?body ?done ?stop
 case hkb =>
  intro W l o o' hl1 hl2 hl3 _
  refine ⟨⟨rfl, rfl, rfl, (grownBy_putObj' W l o').size, fun k hk => ?_⟩, fun v hv => ?_⟩
  ·
   by_cases hk2 : k < W.heap.size
   ·
    exact (grownBy_putObj' W l o').block k hk2 (fun e => by cases e; omega)
   ·
    have := (Array.getElem?_eq_some_iff.1 hl2).1; omega
  ·
   exact (grownBy_putObj' W l o').cell hv (fun e => by have e' : W2.heap.size = l := Option.some.inj e; omega)
 case assign =>
  rintro l pre x W K ⟨z, hMz, hrz, haz, htz, hsz⟩ hK
  have hA1 : Sd { tmps := (a.tmps.setIfInBounds 9 (iV x.1.1)).setIfInBounds 10 (.agg (x.1.2.d.cells x.1.2.ts.length).toArray), defers := [] } 16 _ := Sl.put (Sl.put A (d := 9) rfl (iV x.1.1)) (d := 10) rfl (.agg (x.1.2.d.cells x.1.2.ts.length).toArray)
  have hF2 : ∀ f, (Fence.wide.inRound l).fn f := fun _ => trivial
  have hxr : x.1.2.rd W := Dt.keep hMz.bel _ x.2
  simp only [jgi, List.zip_toArray, List.zip_cons_cons, List.zip_nil_left, List.zip_nil_right, List.foldl_toArray', List.foldl_toArray, List.foldl_cons, List.foldl_nil]
  refine wpIn_region_lit ?_
  refine zqd (a := { tmps := (a.tmps.setIfInBounds 9 (iV x.1.1)).setIfInBounds 10 (.agg (x.1.2.d.cells x.1.2.ts.length).toArray), defers := [] }) (vs := ZC) (t := 30) hF2 hA1 hMz rfl rfl rfl (by intro c h; cases h) pg (ql (z := .agg ZC.toArray) (by kernel_rfl) rfl) (by decide) ?_
  intro Bx W6 hM6 hBx hBx' hB6 hK6 a6 hA6 _
  refine zqc (w' := W6.setCells Bx 0 (x.1.2.d.cells x.1.2.ts.length)) hF2 hA6 rfl rfl (by intro c h; cases h) (qy rfl rfl rfl (by kernel_rfl) hM6 0 rfl rfl (qge x.1.2)) ?_
  have hM7 : Mg w (W6.setCells Bx 0 (x.1.2.d.cells x.1.2.ts.length)) (.obj Bx (.cells (x.1.2.d.cells x.1.2.ts.length).toArray 30) :: [.obj g4 (.cells ZC.toArray 30), .obj g3 (.cells (z.d.cells z.ts.length).toArray 30)]) := Mg.puts (x.1.2.d.cells x.1.2.ts.length) W6 _ ZC 0 hM6 0 rfl
  have hkp : Kept (· ≠ Bx) W6 (W6.setCells Bx 0 (x.1.2.d.cells x.1.2.ts.length)) := qea _ _ _ _
  have hks := hK6.trans (ul Bx (x.1.2.d.cells x.1.2.ts.length) W6 0)
  have hsW := hMz.bel.size
  have hbs := (hB6.mono hsW).trans (qcj (B := w.heap.size) Bx (by omega) (x.1.2.d.cells x.1.2.ts.length) W6 0)
  revert hkp hM7 hks hbs
  generalize W6.setCells Bx 0 (x.1.2.d.cells x.1.2.ts.length) = W7
  intro hM7 hkp hks hbs
  refine wpListIn_nil (hK _ _ (hks.from _) ⟨hbs, fun v hv => hkp.2 _ _ _ (show W2.heap.size ≠ Bx by have := cell_lt hv; omega) ((hB6.cell (p := ⟨W2.heap.size, 0, none⟩) (cell_lt hv)).trans hv)⟩ ⟨z, hM7.sub (cn (.refl _)), Dt.kept hkp _ (Dt.keep hB6 _ hrz) (Dt.at_mono (fun b hb => by intro e; omega) _ (Dt.at_lt _ hrz)), haz, htz, hsz.mono fun b i v _ _ hc => hkp.2 b i v (by have : b < W.heap.size := cell_lt hc; omega) ((hB6.cell (p := ⟨b, i, none⟩) (cell_lt hc)).trans hc)⟩ ⟨Bx, hA6.keep _ ⟨rfl, rfl, rfl, trivial⟩, (Array.getElem?_eq_some_iff.1 (hM7.obj 0 rfl)).1, fun j v hj => by rw [Nat.zero_add]; exact hM7.cell 0 rfl j hj⟩)
 case body =>
  rintro l pre x a' W hl1 _ ⟨z, hMz, hrz, haz, htz, hsz⟩ ⟨Bx, A, hH⟩ _
  have hF2 : ∀ f, (Fence.wide.inRound l).fn f := fun _ => trivial
  have hxr : x.1.2.rd W := Dt.keep hMz.bel _ x.2
  refine wpIn_block (wpIn_region_lit ?_)
  refine yd (v := .agg (x.1.2.d.cells x.1.2.ts.length).toArray) hF2 A rfl rfl rfl (by intro c h; cases h) (jl rfl (va ua _ rfl (fun j v hj => by have := hH.2 j v hj; rwa [Nat.zero_add] at this ⊢))) fun a A h6 => ?_
  refine yd (v := .agg (z.d.cells z.ts.length).toArray) hF2 A rfl rfl rfl (by intro c h; cases h) (vd hMz ua rfl 1 rfl (cs := z.d.cells z.ts.length) rfl rfl) fun a A h7 => ?_
  refine yd (v := .slice (some ⟨W.heap.size, 0, none⟩) 2 2) (w' := W.alloc (.cells (zv [x.1.2, z]).toArray 30)) hF2 A rfl rfl rfl (by intro c h; cases h) (jv rfl (by kernel_rfl)) fun a A h8 => ?_
  obtain ⟨z2, hz2⟩ : ∃ z2 : Dt, z2 = qee W.heap.size x.1.2 z := ⟨_, rfl⟩
  refine yd (v := .agg (z2.d.cells z2.ts.length).toArray) hF2 A rfl rfl rfl (by intro c h; cases h) (by rw [hz2, qug]; exact qw rfl (fun w => by kernel_rfl)) fun a A h9 => ?_
  have hB4 : Below W.heap.size W (W.alloc (.cells (zv [x.1.2, z]).toArray 30)) := (Below.refl _ W).alloc (Nat.le_refl _) _
  have hM4 := hMz.call hB4
  have hnew := heap_alloc_new W (.cells (zv [x.1.2, z]).toArray 30)
  have hK4 : KeepsOthers W (W.alloc (.cells (zv [x.1.2, z]).toArray 30)) := KeepsOthers.alloc _ _
  have hs4 : (W.alloc (.cells (zv [x.1.2, z]).toArray 30)).heap.size = W.heap.size + 1 := by simp
  have hg3W : g3 < W.heap.size := (Ck.lt (hMz.has 1 rfl) g3 rfl).2
  have hg4W : g4 < W.heap.size := (Ck.lt (hMz.has 0 rfl) g4 rfl).2
  have hsW := hMz.bel.size
  revert hB4 hM4 hnew hK4 hs4
  generalize W.alloc (.cells (zv [x.1.2, z]).toArray 30) = W4
  intro hB4 hM4 hnew hK4 hs4
  refine zqc (w' := W4.setCells g3 0 (z2.d.cells z2.ts.length)) hF2 A rfl rfl (by intro c h; cases h) (qy rfl rfl rfl (by kernel_rfl) hM4 1 rfl rfl (qge z2)) ?_
  refine wpListIn_nil ?_
  have hkp : Kept (· ≠ g3) W4 (W4.setCells g3 0 (z2.d.cells z2.ts.length)) := qea _ _ _ _
  have hM5 : Mg w (W4.setCells g3 0 (z2.d.cells z2.ts.length)) [.obj g4 (.cells ZC.toArray 30), .obj g3 (.cells (z2.d.cells z2.ts.length).toArray 30)] := Mg.puts (z2.d.cells z2.ts.length) W4 _ (z.d.cells z.ts.length) 0 hM4 1 rfl
  have hx5 : x.1.2.rd (W4.setCells g3 0 (z2.d.cells z2.ts.length)) := Dt.keep hM5.bel _ x.2
  have hz5 : z.rd (W4.setCells g3 0 (z2.d.cells z2.ts.length)) := Dt.kept hkp _ (Dt.keep hB4 _ hrz) (Dt.at_mono (fun b hb => hb.1) _ haz)
  have hxa : x.1.2.at_ (fun b => b ≠ g3 ∧ b ≠ g4) := Dt.at_mono (fun b hb => by constructor <;> omega) _ (Dt.at_lt _ x.2)
  have hks := hK4.trans (ul g3 (z2.d.cells z2.ts.length) W4 0)
  have hbs := (hB4.mono hsW).trans (qcj (B := w.heap.size) g3 (by omega) (z2.d.cells z2.ts.length) W4 0)
  revert hkp hM5 hx5 hz5 hks hbs
  generalize W4.setCells g3 0 (z2.d.cells z2.ts.length) = W5
  intro hkp hM5 hx5 hz5 hks hbs
  refine ⟨hks.from _, ⟨hbs, fun v hv => hkp.2 _ _ _ (show W2.heap.size ≠ g3 by omega) ((hB4.cell (p := ⟨W2.heap.size, 0, none⟩) (cell_lt hv)).trans hv)⟩, z2, hM5, ?_, ?_, ?_, ?_⟩
  ·
   rw [hz2]
   refine quh (by have := hkp.1; omega) (fun p v hp => hkp.2 _ _ _ (show W.heap.size ≠ g3 by omega) ?_) hx5 hz5
   rw [cell_of_row _ _ _ _ _ _ hnew]
   simpa using hp
  ·
   rw [hz2]
   exact zof ⟨by omega, by omega⟩ hxa haz
  ·
   rw [hz2, zoe, List.map_append, List.reverse_append]
   show Tr.mk 8 0 Q6.zero ⟨#[]⟩ [] [x.1.2.tr, z.tr] = yw (x.1.2.tr :: _) u.tr
   rw [htz]
   rfl
  ·
   intro w9 h9 hpre hu9
   rw [hz2]
   have hcs : ∀ p v, (zv [x.1.2, z])[p]? = some v → w9.cell? ⟨W.heap.size, p, none⟩ = some v := fun p v hp => h9 _ _ _ hsW (by omega) (by omega) (hkp.2 _ _ _ (show W.heap.size ≠ g3 by omega) (by
    rw [cell_of_row _ _ _ _ _ _ hnew]
    simpa using hp))
   refine quh (cell_lt (hcs 0 _ rfl)) hcs (hpre x (by simp)) (hsz w9 (fun b i v hb h3 h4 hc => h9 b i v hb h3 h4 (hkp.2 _ _ _ h3 ((hB4.cell (p := ⟨b, i, none⟩) (cell_lt hc)).trans hc))) (fun y hy => hpre y (by simp [hy])) hu9)
 case done =>
  rintro D xs W hD1 S ⟨z, hMz, hrz, haz, htz, hsz⟩ hDf
  have hA2 : Sd { a with defers := { target := .collected D, args := #[] } :: a.defers } 16 _ := A
  revert hA2
  generalize hae : ({ a with defers := { target := .collected D, args := #[] } :: a.defers } : Act) = a2
  intro hA2
  have had : a2.defers = [{ target := .collected D, args := #[] }] := by rw [← hae]; show _ :: a.defers = _; rw [h5, h4, h3, h2, hdf]
  refine hK2 _ _ (qfc fun K6 hK6 => wpIn_region_lit ?_)
  refine yd (v := .agg (z.d.cells z.ts.length).toArray) hF hA2 rfl rfl rfl (by intro c h; cases h) (vd hMz ua rfl 1 rfl (cs := z.d.cells z.ts.length) rfl rfl) fun a3 hA3 h6 => ?_
  refine zqc (w' := W.setCells g4 0 (z.d.cells z.ts.length)) hF hA3 rfl rfl (by intro c h; cases h) (qy rfl rfl rfl (by kernel_rfl) hMz 0 rfl rfl (qge z)) ?_
  have hM5 : Mg w (W.setCells g4 0 (z.d.cells z.ts.length)) [.obj g4 (.cells (z.d.cells z.ts.length).toArray 30), .obj g3 (.cells (z.d.cells z.ts.length).toArray 30)] := Mg.puts (z.d.cells z.ts.length) W _ ZC 0 hMz 0 rfl
  have hz5 : z.rd (W.setCells g4 0 (z.d.cells z.ts.length)) := Dt.kept (qea _ _ _ _) _ hrz (Dt.at_mono (fun b hb => hb.2) _ haz)
  have hD5 := (ul g4 (z.d.cells z.ts.length) W 0).same D _ hDf rfl
  have hgr := grownBy_putObj' (W.setCells g4 0 (z.d.cells z.ts.length)) D (.deferred none)
  have hM6 := hM5.calm hgr (fun r e => by cases e; exact ⟨by omega, _, hD5, rfl⟩) qwb
  have hz6 := Dt.kept (yz hgr (fun r e => by cases e; exact ⟨_, hD5, rfl⟩)) _ hz5 (Dt.at_true _)
  refine wpListIn_nil (hK6 _ _ (wpIn_ret (hret _ _ ?_)))
  show LeavesInM _ _ _ _ _ _ a3.defers .returning _
  rw [h6, had]
  refine ⟨by simp, .inl ⟨D, _, rfl, run_takeDeferred hD5, ?_⟩⟩
  have hfin : (fun (e : Ending) (w' : World) => ∃ t2 : Dt, e = .returned (.agg (t2.d.cells t2.ts.length).toArray) ∧ (t2.rd w' ∧ t2.tr = yw (ts.map Dt.tr) u.tr) ∧ Below w.heap.size w w' ∧ ∀ w9, (∀ b i v, w.heap.size ≤ b → w'.cell? ⟨b, i, none⟩ = some v → w9.cell? ⟨b, i, none⟩ = some v) → (∀ t ∈ ts, t.rd w9) → u.rd w9 → t2.rd w9) (.returned (.agg (z.d.cells z.ts.length).toArray)) ((W.setCells g4 0 (z.d.cells z.ts.length)).putObj D (.deferred none)) := by
   refine ⟨z, rfl, ⟨hz6, ?_⟩, hM6.bel, fun w9 h9 hts hu9 => hsz w9 (fun b i v hb h3 h4 hc => h9 b i v hb ((yz hgr (fun r e => by cases e; exact ⟨_, hD5, rfl⟩)).2 b i v trivial ((qea _ _ _ _).2 b i v h4 hc))) (fun x hx => hts _ (by have h8 : x.1.2 ∈ xs.map (fun x => x.1.2) := List.mem_map_of_mem hx; rw [show xs.map (fun x => x.1.2) = ts.reverse from S] at h8; exact List.mem_reverse.1 h8)) hu9⟩
   rw [htz]
   have e1 : xs.map (fun x => x.1.2.tr) = (xs.map (fun x => x.1.2)).map Dt.tr := by rw [List.map_map]; rfl
   rw [e1, show xs.map (fun x => x.1.2) = ts.reverse from S, List.map_reverse, List.reverse_reverse]
  exact (yn (P := Tryz.prog) (fn := Tryz.f56) (Z := (fun (e : Ending) (w' : World) => ∃ t2 : Dt, e = .returned (.agg (t2.d.cells t2.ts.length).toArray) ∧ (t2.rd w' ∧ t2.tr = yw (ts.map Dt.tr) u.tr) ∧ Below w.heap.size w w' ∧ ∀ w9, (∀ b i v, w.heap.size ≤ b → w'.cell? ⟨b, i, none⟩ = some v → w9.cell? ⟨b, i, none⟩ = some v) → (∀ t ∈ ts, t.rd w9) → u.rd w9 → t2.rd w9)) (v := .agg (z.d.cells z.ts.length).toArray) (rs := [.cell 4 30]) (vs := [.agg (z.d.cells z.ts.length).toArray]) hA3 rfl (.cons (zn hM6 ua rfl 0 rfl (cs := z.d.cells z.ts.length) rfl rfl) .nil) rfl hfin).2
 case stop =>
  rintro D c pre W _ _ h _
  exact h.elim
def zxf : Dt := lfD 6 0 ⟨#[113, 117, 111, 116, 101]⟩
def jcb : Tr := lfT 6 0 ⟨#[113, 117, 111, 116, 101]⟩
theorem zqf (w : World) : zxf.rd w := zzj (by decide) (by decide) (by decide) (by decide) (by decide)
theorem jcc : zxf.tr = jcb := qhi 6 0 ⟨#[113, 117, 111, 116, 101]⟩
theorem zdj {w0 w : World} {X Y : List Ck} {t : Dt} (hX : xk X) (hY : xk Y) (ht : Lv w0 Y t) (hM0 : Mg w0 w (X ++ Y)) : Calls Tryz.prog 38 #[.agg (t.d.cells t.ts.length).toArray] w fun e w' => ∃ t2 F, e = .returned (.agg (t2.d.cells t2.ts.length).toArray) ∧ t2.tr = yw [jcb, t.tr] nilT ∧ (Lv w0 (F ++ Y) t2 ∧ Ob F) ∧ Mg w0 w' (X ++ (F ++ Y)) := by
 have M : Mg w0 w ((X ++ Y)) := hM0
 refine qr (l := [(0, .agg (t.d.cells t.ts.length).toArray)]) Tryz.func38 rfl Tryz.ntmps38 rfl rfl ?_
 intro Q hret hnorm hP a H
 refine wsk fun K1 hK1 => wrl (vr (vs := [iV t.d.k, iV t.d.n, bV t.d.y.q.b1, .slice t.d.y.o1 t.d.y.q.t1.length t.d.y.c1, .slice t.d.y.o2 t.d.y.q.q1.length t.d.y.c2, bV t.d.y.q.b2, .slice t.d.y.o3 t.d.y.q.t2.length t.d.y.c3, .slice t.d.y.o4 t.d.y.q.q2.length t.d.y.c4, .string t.d.s, .slice t.d.ro t.d.rl.length t.d.rc, .slice t.d.lo t.ts.length t.d.lc]) (t := 30) H M rfl rfl rfl pg (zg rfl rfl) (by decide) ?_)
 intro g2 w3 M a H
 refine vr (vs := zD) (t := 30) H M rfl rfl rfl pg (ql (z := .agg zD.toArray) (by kernel_rfl) rfl) (by decide) ?_
 intro g4 w5 M a H
 refine qa (hK1 _ _ (wsk fun K6 hK6 => wrl (sdo (v := .agg #[iV 6, iV 0, bV false, .slice none 0 0, .slice none 0 0, bV false, .slice none 0 0, .slice none 0 0, .string (⟨#[113, 117, 111, 116, 101]⟩), .slice none 0 0, .slice none 0 0]) H (qw rfl (fun w => by kernel_rfl)) λa H↦?_)))
 refine vr (vs := zD) (t := 30) H M rfl rfl rfl pg (ql (z := .agg zD.toArray) (by kernel_rfl) rfl) (by decide) ?_
 intro g7 w8 M a H
 refine zh (L' := (.obj g7 (.cells #[iV 6, iV 0, bV false, .slice none 0 0, .slice none 0 0, bV false, .slice none 0 0, .slice none 0 0, .string (⟨#[113, 117, 111, 116, 101]⟩), .slice none 0 0, .slice none 0 0] 30) :: .obj g4 zC :: .obj g2 (.cells (t.d.cells t.ts.length).toArray 30) :: (X ++ Y))) H M rfl rfl (qy rfl rfl rfl (by kernel_rfl) M 0 rfl rfl rfl) 0 rfl rfl rfl ?_
 intro w9 M
 refine qa (hK6 _ _ (wsk fun K10 hK10 => wrl (sdo H (vd M xw rfl 0 rfl (cs := [iV 6, iV 0, bV false, .slice none 0 0, .slice none 0 0, bV false, .slice none 0 0, .slice none 0 0, .string (⟨#[113, 117, 111, 116, 101]⟩), .slice none 0 0, .slice none 0 0]) rfl rfl) λa H↦?_)))
 refine sdo H (vd M xw rfl 2 rfl (cs := [iV t.d.k, iV t.d.n, bV t.d.y.q.b1, .slice t.d.y.o1 t.d.y.q.t1.length t.d.y.c1, .slice t.d.y.o2 t.d.y.q.q1.length t.d.y.c2, bV t.d.y.q.b2, .slice t.d.y.o3 t.d.y.q.t2.length t.d.y.c3, .slice t.d.y.o4 t.d.y.q.q2.length t.d.y.c4, .string t.d.s, .slice t.d.ro t.d.rl.length t.d.rc, .slice t.d.lo t.ts.length t.d.lc]) rfl rfl) λa H↦?_
 refine qph (e := 30) (sz := 11) (m := 2) (vs := zv [zxf, t]) H M rfl rfl rfl (jv rfl (by kernel_rfl)) rfl rfl (.inl (by decide)) ?_
 intro g11 w12 M a H
 refine sdo (v := .agg #[iV 1, iV 0, bV false, .slice none 0 0, .slice none 0 0, bV false, .slice none 0 0, .slice none 0 0, .string (⟨#[]⟩), .slice none 0 0, .slice none 0 0]) H (qw rfl (fun w => by kernel_rfl)) λa H↦?_
 have hrt := zoc (M.has 0 rfl)
 have htw := ht _ (M.sub (List.Sublist.trans (List.sublist_append_right X Y) (cn (cn (cn (cn (.refl _)))))))
 have hnb : xk (X ++ Y) := ke hX hY
 refine sct H (ef rfl rfl) (qgj (ts := [zxf, t]) (u := zja) hrt.1 (fun x hx => by rcases List.mem_cons.1 hx with rfl | hx; exact zqf _; rw [List.mem_singleton.1 hx]; exact htw) (qii _) (by show 2 ≤ _; decide)) ?_
 rintro _ w14 ⟨t2, rfl, ⟨hr2, htt2⟩, hb13, hst⟩
 have hL2 : Lv w0 (made w12 w14 ++ Y) t2 := zbe (K := fun w9 => t.rd w9) (fun w9 h9 hk => hst w9 h9 (fun x hx => by rcases List.mem_cons.1 hx with rfl | hx; exact zqf _; rw [List.mem_singleton.1 hx]; exact hk) (qii _)) (fun w9 h9 => ht w9 h9)
 replace M : Mg w0 w14 (.obj g7 (.cells #[iV 6, iV 0, bV false, .slice none 0 0, .slice none 0 0, bV false, .slice none 0 0, .slice none 0 0, .string (⟨#[113, 117, 111, 116, 101]⟩), .slice none 0 0, .slice none 0 0] 30) :: .obj g4 zC :: .obj g2 (.cells (t.d.cells t.ts.length).toArray 30) :: (X ++ (made w12 w14 ++ Y))) := (qqd (A := [.obj g7 (.cells #[iV 6, iV 0, bV false, .slice none 0 0, .slice none 0 0, bV false, .slice none 0 0, .slice none 0 0, .string (⟨#[113, 117, 111, 116, 101]⟩), .slice none 0 0, .slice none 0 0] 30), .obj g4 zC, .obj g2 (.cells (t.d.cells t.ts.length).toArray 30)]) (X := X) (Y := Y) (M.sub (cn (cc (cc (cc (.refl _)))))) (zq (by simp) (zq (by simp) (zq (by simp) hnb))) hb13)
 refine ⟨_, rfl, ?_⟩
 intro a H
 refine zh (L' := (.obj g7 (.cells #[iV 6, iV 0, bV false, .slice none 0 0, .slice none 0 0, bV false, .slice none 0 0, .slice none 0 0, .string (⟨#[113, 117, 111, 116, 101]⟩), .slice none 0 0, .slice none 0 0] 30) :: .obj g4 (.cells (t2.d.cells t2.ts.length).toArray 30) :: .obj g2 (.cells (t.d.cells t.ts.length).toArray 30) :: (X ++ (made w12 w14 ++ Y)))) H M rfl rfl (qy rfl rfl rfl (by kernel_rfl) M 1 rfl rfl rfl) 1 rfl rfl rfl ?_
 intro w15 M
 refine qa (hK10 _ _ (wp_ret (hret _ _ (en1 H rfl (zn M xw rfl 1 rfl (cs := [iV t2.d.k, iV t2.d.n, bV t2.d.y.q.b1, .slice t2.d.y.o1 t2.d.y.q.t1.length t2.d.y.c1, .slice t2.d.y.o2 t2.d.y.q.q1.length t2.d.y.c2, bV t2.d.y.q.b2, .slice t2.d.y.o3 t2.d.y.q.t2.length t2.d.y.c3, .slice t2.d.y.o4 t2.d.y.q.q2.length t2.d.y.c4, .string t2.d.s, .slice t2.d.ro t2.d.rl.length t2.d.rc, .slice t2.d.lo t2.ts.length t2.d.lc]) rfl rfl) ?_))))
 exact ⟨t2, made w12 w14, rfl, by rw [htt2, List.map_cons, List.map_cons, List.map_nil, jcc, zfj], ⟨hL2, Ob.made⟩, M.sub (cn (cn (cn (.refl _))))⟩
def xj : Nat → Nat → List UInt8 → Option Nat
 | _, 0, _ => some 0
 | 0, _ + 1, _ => none
 | f + 1, k + 1, l => if Lib.hasPrefix l [35, 124] = true then (xj f (k + 2) (l.drop 2)).map (· + 2) else if Lib.hasPrefix l [124, 35] = true then (xj f k (l.drop 2)).map (· + 2) else if l.isEmpty = true then none else (xj f (k + 1) (l.drop (dcX l).2)).map (· + (dcX l).2)
theorem qbd : ∀ (f g k : Nat) (l : List UInt8), l.length < f → l.length < g → xj f k l = xj g k l
 | f, g, 0, l, _, _ => by unfold xj; rfl
 | 0, _, k + 1, l, h, _ => by omega
 | _ + 1, 0, k + 1, l, _, h => by omega
 | f + 1, g + 1, k + 1, l, hf, hg => by
  unfold xj
  by_cases h1 : Lib.hasPrefix l [35, 124] = true
  ·
   have hl : 2 ≤ l.length := (List.isPrefixOf_iff_prefix.1 h1).length_le
   rw [if_pos h1, if_pos h1, qbd f g (k + 2) (l.drop 2) (by rw [List.length_drop]; omega) (by rw [List.length_drop]; omega)]
  ·
   rw [if_neg h1, if_neg h1]
   by_cases h2 : Lib.hasPrefix l [124, 35] = true
   ·
    have hl : 2 ≤ l.length := (List.isPrefixOf_iff_prefix.1 h2).length_le
    rw [if_pos h2, if_pos h2, qbd f g k (l.drop 2) (by rw [List.length_drop]; omega) (by rw [List.length_drop]; omega)]
   ·
    rw [if_neg h2, if_neg h2]
    by_cases h3 : l.isEmpty = true
    ·
     rw [if_pos h3, if_pos h3]
    ·
     have hne : l ≠ [] := fun e => h3 (by rw [e]; rfl)
     have hw := (xl hne).1
     have hw2 := (xl hne).2
     rw [if_neg h3, if_neg h3, qbd f g (k + 1) (l.drop (dcX l).2) (by rw [List.length_drop]; omega) (by rw [List.length_drop]; omega)]
def NI (L : List UInt8) (r : Option Nat) (p q o f : Nat) : Prop := p ≤ q ∧ r = (xj f o (L.drop q)).map (· + (q - p))
theorem NI.go {L : List UInt8} {r : Option Nat} {p q o o' f m : Nat} (h : NI L r p q o (f + 1)) (e : xj (f + 1) o (L.drop q) = (xj f o' ((L.drop q).drop m)).map (· + m)) : NI L r p (q + m) o' f := by
 refine ⟨by have := h.1; omega, ?_⟩
 rw [h.2, e, Option.map_map, List.drop_drop]
 congr 1
 funext x
 have := h.1
 show x + m + (q - p) = x + (q + m - p)
 omega
theorem qrg {w0 w : World} {g p : Nat} {lg : Bool} {L : List UInt8} {T : List Ck} (hT : Tb w0) (hp : p ≤ L.length) (hl : L.length ≤ 1000000000) (hM0 : Mg w0 w (.obj g (rC L p lg) :: T)) : Calls Tryz.prog 33 #[pA g 0] w fun e w' => (e = .panicked flt ∧ xj (L.length + 1) 1 (L.drop p) = none ∧ ∃ q, Mg w0 w' (.obj g (rC L q lg) :: T)) ∨ ∃ n, e = .returned (.tuple #[]) ∧ (xj (L.length + 1) 1 (L.drop p) = some n ∧ p + n ≤ L.length) ∧ Mg w0 w' (.obj g (rC L (p + n) lg) :: T) := by
 have M : Mg w0 w (.obj g (rC L p lg) :: T) := hM0
 refine ji (l := [(0, pA g 0)]) Tryz.func33 rfl Tryz.ntmps33 rfl rfl ?_
 intro Q hret hnorm hP hX a A
 refine wsk fun K1 hK1 => wrl (sda A λa A↦?_)
 refine qa (hK1 _ _ (wp_block (jd (fun m_ a w1 => ∃ (q : Nat) (o : Nat) (f : Nat), m_ = 1 + (L.length - q) ∧ (q ≤ L.length ∧ (L.length - q < f ∧ o ≤ q + 1) ∧ NI L (xj (L.length + 1) 1 (L.drop p)) p q o f) ∧ Sl a 17 [(0, pA g 0), (2, iV (((o : Nat) : Int)))] ∧ Mg w0 w1 (.obj g (rC L q lg) :: T)) _ ⟨p, 1, L.length + 1, rfl, ⟨hp, by omega, Nat.le_refl _, by rw [Nat.sub_self]; simp⟩, A.keep _ ⟨rfl, rfl, trivial⟩, M⟩ ?_)))
 clear M A
 rintro m_ a w2 ⟨q, o, f, rfl, hinv4, A, M⟩ K3 hK3
 obtain ⟨hq0, ⟨hf0, ho0⟩, hi⟩ := hinv4
 obtain ⟨f, rfl⟩ : ∃ f1, f = f1 + 1 := ⟨f - 1, by omega⟩
 refine wsk fun K5 hK5 => wsk fun K6 hK6 => wrl (sdm A λa A↦?_)
 rcases tf (decide (0 < ((o : Nat) : Int))) with hb7 | hb7
 ·
  have hb7' := of_decide_eq_true hb7
  refine sdc A zs hb7 λa A↦?_
  refine qa (hK6 _ _ (ct A ?_))
  refine wp_skip (hK5 _ _ ?_)
  iterate 2 refine wp_block ?_
  refine wsk fun K8 hK8 => wrl (sdm A λa A↦?_)
  rcases tf (Lib.hasPrefix (L.drop q) [35, 124]) with hb9 | hb9
  ·
   have htl11 : 2 ≤ (L.drop q).length := (List.isPrefixOf_iff_prefix.1 hb9).length_le
   rw [List.length_drop] at htl11
   refine sct A (ef rfl rfl) (xv (p := q) (L := L) (T := (T)) (by omega) (by omega) hb9 M) ?_
   rintro _ w12 ⟨rfl, hM10⟩
   replace M : Mg w0 w12 (.obj g (rC L (q + 2) lg) :: T) := hM10
   refine ⟨_, rfl, ?_⟩
   intro a A
   refine sda A λa A↦?_
   refine qa (hK8 _ _ (ct A ?_))
   refine wrl (sdm A λa A↦?_)
   refine sdo (v := iV (((o + 1 : Nat) : Int))) A (qb rfl rfl (ar_add ((in_i64 (by omega) (by omega)).trans (by omega)))) λa A↦?_
   refine sda A λa A↦?_
   refine qa ?_
   refine hK3 _ _ _ (by omega) ⟨q + 2, o + 1, f, rfl, ⟨by omega, by omega, hi.go (o := o) (by rw [show o = (o - 1) + 1 by omega, xj, if_pos hb9])⟩, A.keep _ ⟨rfl, rfl, trivial⟩, M⟩
  ·
   refine sct A (ef rfl rfl) (ve (p := q) (L := L) (T := (T)) (by omega) (by omega) hb9 M) ?_
   rintro _ w14 ⟨rfl, hM13⟩
   replace M : Mg w0 w14 (.obj g (rC L q lg) :: T) := hM13
   refine ⟨_, rfl, ?_⟩
   intro a A
   refine sda A λa A↦?_
   refine qa (hK8 _ _ (cf A ?_))
   refine wsk fun K15 hK15 => wrl (sdm A λa A↦?_)
   rcases tf (Lib.hasPrefix (L.drop q) [124, 35]) with hb16 | hb16
   ·
    have htl18 : 2 ≤ (L.drop q).length := (List.isPrefixOf_iff_prefix.1 hb16).length_le
    rw [List.length_drop] at htl18
    refine sct A (ef rfl rfl) (xv (p := q) (L := L) (T := (T)) (by omega) (by omega) hb16 M) ?_
    rintro _ w19 ⟨rfl, hM17⟩
    replace M : Mg w0 w19 (.obj g (rC L (q + 2) lg) :: T) := hM17
    refine ⟨_, rfl, ?_⟩
    intro a A
    refine sda A λa A↦?_
    refine qa (hK15 _ _ (ct A ?_))
    refine wrl (sdm A λa A↦?_)
    refine sdo (v := iV (((o - 1 : Nat) : Int))) A (qb rfl rfl (ar_sub ((in_i64 (by omega) (by omega)).trans (by omega)))) λa A↦?_
    refine sda A λa A↦?_
    refine qa ?_
    refine hK3 _ _ _ (by omega) ⟨q + 2, o - 1, f, rfl, ⟨by omega, by omega, hi.go (o := o) (by rw [show o = (o - 1) + 1 by omega, xj, if_neg (by rw [hb9]; decide), if_pos hb16]; rfl)⟩, A.keep _ ⟨rfl, rfl, trivial⟩, M⟩
   ·
    refine sct A (ef rfl rfl) (ve (p := q) (L := L) (T := (T)) (by omega) (by omega) hb16 M) ?_
    rintro _ w21 ⟨rfl, hM20⟩
    replace M : Mg w0 w21 (.obj g (rC L q lg) :: T) := hM20
    refine ⟨_, rfl, ?_⟩
    intro a A
    refine sda A λa A↦?_
    refine qa (hK15 _ _ (cf A ?_))
    refine wrl (sdm A λa A↦?_)
    rcases tf ((L.drop q).isEmpty) with hb22 | hb22
    ·
     refine qt A rfl rfl rfl (ef rfl rfl) (qjg (p := q) (L := L) (T := (T)) hT (by omega) (by omega) (List.isEmpty_iff.1 hb22) M) ?_
     rintro _ w23 ⟨rfl, hp24⟩
     exact .inl ⟨_, rfl, hX _ _ _ _ _ A (.inl ⟨rfl, by rw [hi.2, show o = (o - 1) + 1 by omega, xj, if_neg (by rw [hb9]; decide), if_neg (by rw [hb16]; decide), if_pos hb22]; rfl, _, hp24⟩)⟩
    ·
     have hne28 : (L.drop q) ≠ [] := fun k => by rw [k] at hb22; cases hb22
     obtain ⟨hw26, hw27⟩ := xl hne28
     rw [List.length_drop] at hw27
     refine sct A (ef rfl rfl) (qid (p := q) (L := L) (T := (T)) hT (by omega) (by omega) hne28 M) ?_
     rintro _ w29 ⟨rfl, hM25⟩
     replace M : Mg w0 w29 (.obj g (rC L (q + (dcX (L.drop q)).2) lg) :: T) := hM25
     refine ⟨_, rfl, ?_⟩
     intro a A
     refine qa ?_
     refine hK3 _ _ _ (by omega) ⟨q + (dcX (L.drop q)).2, o, f, rfl, ⟨by omega, by omega, hi.go (o := o) (by rw [show o = (o - 1) + 1 by omega, xj, if_neg (by rw [hb9]; decide), if_neg (by rw [hb16]; decide), if_neg (by rw [hb22]; decide)])⟩, A.keep _ ⟨rfl, rfl, trivial⟩, M⟩
 ·
  have hb7' := of_decide_eq_false hb7
  refine sdc A zs hb7 λa A↦?_
  refine qa (hK6 _ _ (cf A ?_))
  refine wp_exit (hnorm _ _ (yn (v := .tuple #[]) A rfl .nil rfl ?_))
  have e9 : o = 0 := by omega
  subst e9
  refine .inr ⟨q - p, rfl, ⟨by rw [hi.2]; unfold xj; simp, by have := hi.1; omega⟩, ?_⟩
  rw [show p + (q - p) = q by have := hi.1; omega]
  exact M
def byX : List Tr → Option (List UInt8)
 | [] => some []
 | t :: ts => if (ka t.q).2 = 0 ∧ 0 ≤ (ka t.q).1 ∧ (ka t.q).1 ≤ 255 then (byX ts).map ((ka t.q).1.toNat.toUInt8 :: ·) else none
def jcd (ts : List Tr) : Tr := .mk 9 0 Q6.zero ⟨#[]⟩ [] ts
def zqg (l : List UInt8) : Tr := .mk 7 0 Q6.zero ⟨#[]⟩ l []
def moK (e : UInt8) (l : List UInt8) (o : Option Nat) : Option (Bool × Nat) := o.bind fun a => if Lib.hasPrefix (l.drop a) [e] = true then some (false, a + 1) else some (true, a)
mutual
def skp : Nat → List UInt8 → Option Nat
 | 0, _ => none
 | f + 1, l =>
  if C.blankB (((dcX l).1 : Nat) : Int) = true then (skp f (l.drop (dcX l).2)).map (· + (dcX l).2)
  else if (((dcX l).1 : Nat) : Int) = 59 then (skp f (l.drop (lnX l))).map (· + lnX l)
  else if Lib.hasPrefix l [35, 124] = true then (xj ((l.drop 2).length + 1) 1 (l.drop 2)).bind fun n => (skp f ((l.drop 2).drop n)).map (· + (2 + n))
  else if Lib.hasPrefix l [35, 59] = true then ((skp f (l.drop 2)).bind fun a => (dat f ((l.drop 2).drop a)).bind fun r => if Lib.validD ((l.drop 2).take (a + r.2.1)) = true then some (a + r.2.1) else none).bind fun n => (skp f ((l.drop 2).drop n)).map (· + (2 + n))
  else some 0
def dat : Nat → List UInt8 → Option (Tr × Nat × Bool)
 | 0, _ => none
 | f + 1, l =>
  if Lib.hasPrefix l [40] = true then (lst f 41 true (l.drop 1)).map fun r => (yw r.1 r.2.1, r.2.2.1 + 1, r.2.2.2)
  else if Lib.hasPrefix l [91] = true then (lst f 93 true (l.drop 1)).map fun r => (yw r.1 r.2.1, r.2.2.1 + 1, r.2.2.2)
  else if Lib.hasPrefix l [35, 40] = true then (itm f 41 (l.drop 2)).map fun r => (jcd r.1, r.2.1 + 2, r.2.2)
  else if Lib.hasPrefix l [35, 118, 117, 56, 40] = true then (itm f 41 (l.drop 5)).bind fun r => (byX r.1).map fun s => (zqg s, r.2.1 + 5, r.2.2)
  else if Lib.hasPrefix l [39] = true then (skp f (l.drop 1)).bind fun a => (dat f ((l.drop 1).drop a)).map fun r => (yw [jcb, r.1] nilT, 1 + a + r.2.1, r.2.2)
  else if Lib.hasPrefix l [34] = true then (zoi (l.drop 1)).map fun r => (lfT 5 0 (tx r.1), 1 + r.2, false)
  else qna l
def itm : Nat → UInt8 → List UInt8 → Option (List Tr × Nat × Bool)
 | 0, _, _ => none
 | f + 1, e, l => (moK e l (skp f l)).bind fun m => if m.1 = true then (dat f (l.drop m.2)).bind fun r => (itm f e ((l.drop m.2).drop r.2.1)).map fun s => (r.1 :: s.1, m.2 + r.2.1 + s.2.1, r.2.2 || s.2.2) else some ([], m.2, false)
def lst : Nat → UInt8 → Bool → List UInt8 → Option (List Tr × Tr × Nat × Bool)
 | 0, _, _, _ => none
 | f + 1, e, h, l => (moK e l (skp f l)).bind fun m => if m.1 = true then
   (if qia (l.drop m.2) = true then (if h = true then none else (skp f ((l.drop m.2).drop 1)).bind fun b => (dat f (((l.drop m.2).drop 1).drop b)).bind fun r => (moK e ((((l.drop m.2).drop 1).drop b).drop r.2.1) (skp f ((((l.drop m.2).drop 1).drop b).drop r.2.1))).bind fun k => if k.1 = true then none else some ([], r.1, m.2 + 1 + b + r.2.1 + k.2, r.2.2))
    else (dat f (l.drop m.2)).bind fun r => (lst f e false ((l.drop m.2).drop r.2.1)).map fun s => (r.1 :: s.1, s.2.1, m.2 + r.2.1 + s.2.2.1, r.2.2 || s.2.2.2))
  else some ([], nilT, m.2, false)
end
def sdX (f : Nat) (l : List UInt8) : Option Nat := (skp f l).bind fun a => (dat f (l.drop a)).bind fun r => if Lib.validD (l.take (a + r.2.1)) = true then some (a + r.2.1) else none
def KI (L : List UInt8) (R : Option Nat) (p q f : Nat) : Prop := p ≤ q ∧ R = (skp f (L.drop q)).map (· + (q - p))
theorem KI.go {L : List UInt8} {R : Option Nat} {p q f n : Nat} (h : KI L R p q (f + 1)) (e : skp (f + 1) (L.drop q) = (skp f ((L.drop q).drop n)).map (· + n)) : KI L R p (q + n) f := by
 refine ⟨by have := h.1; omega, ?_⟩
 rw [h.2, e, Option.map_map, List.drop_drop]
 congr 1
 funext x
 have := h.1
 show x + n + (q - p) = x + (q + n - p)
 omega
theorem KI.no {L : List UInt8} {R : Option Nat} {p q f : Nat} (h : KI L R p q f) (e : skp f (L.drop q) = none) : R = none := by rw [h.2, e]; rfl
theorem KI.fin {L : List UInt8} {R : Option Nat} {p q f : Nat} (h : KI L R p q f) (e : skp f (L.drop q) = some 0) : R = some (q - p) := by rw [h.2, e]; show some (0 + (q - p)) = _; rw [Nat.zero_add]
def TI (e : UInt8) (L : List UInt8) (R : Option (List Tr × Nat × Bool)) (p q f : Nat) (acc : List Tr) (bb : Bool) : Prop := p ≤ q ∧ R = (itm f e (L.drop q)).map fun s => (acc ++ s.1, (q - p) + s.2.1, bb || s.2.2)
theorem TI.go {e : UInt8} {L : List UInt8} {R : Option (List Tr × Nat × Bool)} {p q f a n : Nat} {acc : List Tr} {bb b : Bool} {t : Tr} (h : TI e L R p q (f + 1) acc bb) (h1 : moK e (L.drop q) (skp f (L.drop q)) = some (true, a)) (h2 : dat f (L.drop (q + a)) = some (t, n, b)) : TI e L R p (q + a + n) f (acc ++ [t]) (bb || b) := by
 refine ⟨by have := h.1; omega, ?_⟩
 rw [h.2, itm, h1, Option.bind_some, if_pos rfl]
 show ((dat f ((L.drop q).drop a)).bind _).map _ = _
 rw [List.drop_drop, h2]
 show ((itm f e ((L.drop (q + a)).drop n)).map _).map _ = _
 rw [Option.map_map, List.drop_drop]
 congr 1
 funext s
 have := h.1
 show (acc ++ t :: s.1, q - p + (a + n + s.2.1), (bb || (b || s.2.2))) = (acc ++ [t] ++ s.1, q + a + n - p + s.2.1, (bb || b || s.2.2))
 rw [List.append_assoc, Bool.or_assoc, show q - p + (a + n + s.2.1) = q + a + n - p + s.2.1 by omega]
 rfl
theorem TI.fin {e : UInt8} {L : List UInt8} {R : Option (List Tr × Nat × Bool)} {p q f a : Nat} {acc : List Tr} {bb : Bool} (h : TI e L R p q (f + 1) acc bb) (h1 : moK e (L.drop q) (skp f (L.drop q)) = some (false, a)) : R = some (acc, q + a - p, bb) := by
 have := h.1
 rw [h.2, itm, h1]
 show some (acc ++ [], q - p + a, (bb || false)) = _
 rw [List.append_nil, Bool.or_false, show q - p + a = q + a - p by omega]
theorem TI.no {e : UInt8} {L : List UInt8} {R : Option (List Tr × Nat × Bool)} {p q f : Nat} {acc : List Tr} {bb : Bool} (h : TI e L R p q (f + 1) acc bb) (h1 : moK e (L.drop q) (skp f (L.drop q)) = none) : R = none := by rw [h.2, itm, h1]; rfl
theorem TI.no2 {e : UInt8} {L : List UInt8} {R : Option (List Tr × Nat × Bool)} {p q f a : Nat} {acc : List Tr} {bb : Bool} (h : TI e L R p q (f + 1) acc bb) (h1 : moK e (L.drop q) (skp f (L.drop q)) = some (true, a)) (h2 : dat f (L.drop (q + a)) = none) : R = none := by
 rw [h.2, itm, h1, Option.bind_some, if_pos rfl]
 show ((dat f ((L.drop q).drop a)).bind _).map _ = _
 rw [List.drop_drop, h2]; rfl
def UI (e : UInt8) (L : List UInt8) (R : Option (List Tr × Tr × Nat × Bool)) (p q f : Nat) (acc : List Tr) (bb : Bool) : Prop := p ≤ q ∧ R = (lst f e acc.isEmpty (L.drop q)).map fun s => (acc ++ s.1, s.2.1, (q - p) + s.2.2.1, bb || s.2.2.2)
theorem UI.go {e : UInt8} {L : List UInt8} {R : Option (List Tr × Tr × Nat × Bool)} {p q f a n : Nat} {acc : List Tr} {bb b : Bool} {t : Tr} (h : UI e L R p q (f + 1) acc bb) (h1 : moK e (L.drop q) (skp f (L.drop q)) = some (true, a)) (hd : qia (L.drop (q + a)) = false) (h2 : dat f (L.drop (q + a)) = some (t, n, b)) : UI e L R p (q + a + n) f (acc ++ [t]) (bb || b) := by
 refine ⟨by have := h.1; omega, ?_⟩
 rw [h.2, lst, h1, show (acc ++ [t]).isEmpty = false by cases acc <;> rfl]
 rw [Option.bind_some, if_pos rfl]
 show (ite (qia ((L.drop q).drop a) = true) _ (Option.bind (dat f ((L.drop q).drop a)) _)).map _ = _
 rw [List.drop_drop, if_neg (by rw [hd]; decide), h2]
 show ((lst f e false ((L.drop (q + a)).drop n)).map _).map _ = _
 rw [Option.map_map, List.drop_drop]
 congr 1
 funext s
 have := h.1
 show (acc ++ t :: s.1, s.2.1, q - p + (a + n + s.2.2.1), (bb || (b || s.2.2.2))) = (acc ++ [t] ++ s.1, s.2.1, q + a + n - p + s.2.2.1, (bb || b || s.2.2.2))
 rw [List.append_assoc, Bool.or_assoc, show q - p + (a + n + s.2.2.1) = q + a + n - p + s.2.2.1 by omega]
 rfl
theorem UI.fin {e : UInt8} {L : List UInt8} {R : Option (List Tr × Tr × Nat × Bool)} {p q f a : Nat} {acc : List Tr} {bb : Bool} (h : UI e L R p q (f + 1) acc bb) (h1 : moK e (L.drop q) (skp f (L.drop q)) = some (false, a)) : R = some (acc, nilT, q + a - p, bb) := by
 have := h.1
 rw [h.2, lst, h1]
 show some (acc ++ [], nilT, q - p + a, (bb || false)) = _
 rw [List.append_nil, Bool.or_false, show q - p + a = q + a - p by omega]
theorem UI.no {e : UInt8} {L : List UInt8} {R : Option (List Tr × Tr × Nat × Bool)} {p q f : Nat} {acc : List Tr} {bb : Bool} (h : UI e L R p q (f + 1) acc bb) (h1 : moK e (L.drop q) (skp f (L.drop q)) = none) : R = none := by rw [h.2, lst, h1]; rfl
theorem UI.no2 {e : UInt8} {L : List UInt8} {R : Option (List Tr × Tr × Nat × Bool)} {p q f a : Nat} {acc : List Tr} {bb : Bool} (h : UI e L R p q (f + 1) acc bb) (h1 : moK e (L.drop q) (skp f (L.drop q)) = some (true, a)) (hd : qia (L.drop (q + a)) = false) (h2 : dat f (L.drop (q + a)) = none) : R = none := by
 rw [h.2, lst, h1]
 rw [Option.bind_some, if_pos rfl]
 show (ite (qia ((L.drop q).drop a) = true) _ (Option.bind (dat f ((L.drop q).drop a)) _)).map _ = _
 rw [List.drop_drop, if_neg (by rw [hd]; decide), h2]; rfl
def dtX (f : Nat) (e : UInt8) (h : Bool) (l : List UInt8) : Option (Tr × Nat × Bool) := if h = true then none else (skp f l).bind fun b => (dat f (l.drop b)).bind fun r => (moK e ((l.drop b).drop r.2.1) (skp f ((l.drop b).drop r.2.1))).bind fun k => if k.1 = true then none else some (r.1, b + r.2.1 + k.2, r.2.2)
theorem zxg {f : Nat} {e : UInt8} {h : Bool} {l : List UInt8} {a : Nat} (h1 : moK e l (skp f l) = some (true, a)) (hd : qia (l.drop a) = true) : lst (f + 1) e h l = (dtX f e h ((l.drop a).drop 1)).map fun r => ([], r.1, a + 1 + r.2.1, r.2.2) := by
 rw [lst, h1, Option.bind_some, if_pos rfl, if_pos (show qia (l.drop (true, a).2) = true from hd)]
 unfold dtX
 by_cases hh : h = true
 ·
  rw [if_pos hh, if_pos hh]; rfl
 ·
  rw [if_neg hh, if_neg hh]
  cases skp f ((l.drop a).drop 1) with
  | none => rfl
  | some b =>
   show (dat f (((l.drop a).drop 1).drop b)).bind _ = ((dat f (((l.drop a).drop 1).drop b)).bind _).map _
   cases dat f (((l.drop a).drop 1).drop b) with
   | none => rfl
   | some r =>
    show (moK e _ (skp f ((((l.drop a).drop 1).drop b).drop r.2.1))).bind _ = ((moK e _ (skp f ((((l.drop a).drop 1).drop b).drop r.2.1))).bind _).map _
    cases moK e ((((l.drop a).drop 1).drop b).drop r.2.1) (skp f ((((l.drop a).drop 1).drop b).drop r.2.1)) with
    | none => rfl
    | some k =>
     show (if k.1 = true then _ else _ : Option (List Tr × Tr × Nat × Bool)) = (if k.1 = true then _ else _ : Option (Tr × Nat × Bool)).map _
     by_cases hk : k.1 = true
     ·
      rw [if_pos hk, if_pos hk]; rfl
     ·
      rw [if_neg hk, if_neg hk]
      show some ([], r.1, a + 1 + b + r.2.1 + k.2, r.2.2) = some ([], r.1, a + 1 + (b + r.2.1 + k.2), r.2.2)
      rw [show a + 1 + b + r.2.1 + k.2 = a + 1 + (b + r.2.1 + k.2) by omega]
theorem UI.dot {e : UInt8} {L : List UInt8} {R : Option (List Tr × Tr × Nat × Bool)} {p q f a : Nat} {acc : List Tr} {bb : Bool} (h : UI e L R p q (f + 1) acc bb) (h1 : moK e (L.drop q) (skp f (L.drop q)) = some (true, a)) (hd : qia (L.drop (q + a)) = true) : R = (dtX f e acc.isEmpty (L.drop (q + a + 1))).map fun r => (acc, r.1, q + a + 1 - p + r.2.1, bb || r.2.2) := by
 have := h.1
 rw [h.2, zxg h1 (by rw [List.drop_drop]; exact hd), Option.map_map, List.drop_drop, List.drop_drop]
 congr 1
 funext r
 show (acc ++ [], r.1, q - p + (a + 1 + r.2.1), (bb || r.2.2)) = _
 rw [List.append_nil, show q - p + (a + 1 + r.2.1) = q + a + 1 - p + r.2.1 by omega]
section
variable {P : Program} {ops : List Oper} {Q : Exit → Act → World → Prop} {a : Act} {w : World} {n : Nat} {l : List (Nat × Value)} {o : Oper} {S : World → Prop} {md : Region.Mode} {fuel : Nat} {listed : Array Bool}
theorem zqh (H : Sl a n l) (i : Nat) (hi : ops[i]? = some o) (hg : zb l ops o = true) {d : Nat} (hdst : o.dst = some d) (hd : Nat.blt d n = true)
  {f : FuncId} {vs : List Value} (he : Enters P l o w f vs) {R : Ending → World → Prop} (hc : Calls P f vs.toArray w R)
  (hk : ∀ e w', R e w' → (∃ ch, e = .panicked ch ∧ Q (.panic ch) a w') ∨ ∃ v, e = .returned v ∧ S w' ∧ ∀ a', Sl a' n ((d, v) :: l) → wpAnyH P md ops.toArray Q S fuel (listed.setIfInBounds i true) a' w') : wpOp P ops.toArray Q i (fun a' w' => S w' ∧ wpAnyH P md ops.toArray Q S fuel (listed.setIfInBounds i true) a' w') a w := by
 unfold wpOp
 simp only [List.getElem?_toArray, hi]
 rw [if_pos (H.wanted hg)]
 refine .inl ?_
 unfold Oper.wp
 rw [he a.eval (fun x u hx => H.ev hx), Oper.upon_enter]
 refine hc.mono ?_
 intro e w' hR
 rcases hk e w' hR with ⟨ch, rfl, h⟩ | ⟨v, rfl, h1, h2⟩
 ·
  exact h
 ·
  simp only [hdst]
  exact ⟨h1, h2 _ (H.put hd v)⟩
end
def SkC (f : Nat) : Prop := ∀ {w0 w : World} {g p : Nat} {lg : Bool} {L : List UInt8} {U Z : List Ck}, Env w0 → Cu U → Ob Z → p ≤ L.length → L.length ≤ 1000000000 → 2 * (L.length - p) + 1 ≤ f → Mg w0 w (.obj g (rC L p lg) :: (U ++ Z)) → Calls Tryz.prog 20 #[pA g 0] w fun e w' => (e = .panicked flt ∧ skp f (L.drop p) = none ∧ ∃ q lg2, Mg w0 w' (.obj g (rC L q lg2) :: (U ++ Z))) ∨ ∃ n, e = .returned (.tuple #[]) ∧ (skp f (L.drop p) = some n ∧ p + n ≤ L.length) ∧ Mg w0 w' (.obj g (rC L (p + n) lg) :: (U ++ Z))
def DaC (f : Nat) : Prop := ∀ {w0 w : World} {g p : Nat} {lg : Bool} {L : List UInt8} {U Z : List Ck}, Env w0 → Cu U → Ob Z → p ≤ L.length → L.length ≤ 1000000000 → 2 * (L.length - p) + 1 ≤ f → Mg w0 w (.obj g (rC L p lg) :: (U ++ Z)) → Calls Tryz.prog 22 #[pA g 0] w fun e w' => (e = .panicked flt ∧ dat f (L.drop p) = none ∧ ∃ q lg2, Mg w0 w' (.obj g (rC L q lg2) :: (U ++ Z))) ∨ ∃ t F n b, e = .returned (.agg (t.d.cells t.ts.length).toArray) ∧ (dat f (L.drop p) = some (t.tr, n, b) ∧ p + n ≤ L.length ∧ 1 ≤ n) ∧ (Lv w0 (F ++ Z) t ∧ Ob F) ∧ Mg w0 w' (.obj g (rC L (p + n) ((lg || b))) :: (U ++ (F ++ Z)))
theorem jgj {w : World} (h : Tb w) : Tabs8 w := h
theorem qjb {w : World} {l : List UInt8} {b : Bool} (hl : l.length ≤ 1000000000) (hT : Tb w) (h : Lib.validD l = b) : Calls Tryz.prog 24 #[.string (tx l)] w fun e w' => e = .returned (bV b) ∧ Below w.heap.size w w' := zic (by rw [jt]; omega) (jgj hT) (by unfold okS; rw [xf]; exact h)
theorem ym {U Z U1 F : List Ck} : (U ++ Z).Sublist ((U1 ++ U) ++ (F ++ Z)) := List.Sublist.append (List.sublist_append_right _ _) (List.sublist_append_right _ _)
theorem zgg {U Z U1 F F2 : List Ck} : (U ++ Z).Sublist ((U1 ++ U) ++ (F2 ++ (F ++ Z))) := List.Sublist.append (List.sublist_append_right _ _) ((List.sublist_append_right _ _).trans (List.sublist_append_right _ _))
theorem zqi {U Z F : List Ck} : (U ++ Z).Sublist (U ++ (F ++ Z)) := List.Sublist.append (.refl _) (List.sublist_append_right _ _)
theorem qli {f : Nat} (V : SkC f) {w0 w : World} {g p : Nat} {lg : Bool} {L : List UInt8} {U Z : List Ck} {ec : UInt8} (hN : Env w0) (hU : Cu U) (hZ : Ob Z) (hp : p ≤ L.length) (hl : L.length ≤ 1000000000) (hf : 2 * (L.length - p) + 1 ≤ f) (hM0 : Mg w0 w (.obj g (rC L p lg) :: (U ++ Z))) : Calls Tryz.prog 54 #[pA g 0, .string (tx [ec])] w fun e w' => (e = .panicked flt ∧ moK ec (L.drop p) (skp f (L.drop p)) = none ∧ ∃ q lg2, Mg w0 w' (.obj g (rC L q lg2) :: (U ++ Z))) ∨ ∃ b n, e = .returned (bV b) ∧ (moK ec (L.drop p) (skp f (L.drop p)) = some (b, n) ∧ p + n ≤ L.length) ∧ Mg w0 w' (.obj g (rC L (p + n) lg) :: (U ++ Z)) := by
 have M : Mg w0 w (.obj g (rC L p lg) :: (U ++ Z)) := hM0
 refine ji (l := [(0, pA g 0), (1, .string ((tx ([ec]))))]) Tryz.func54 rfl Tryz.ntmps54 rfl rfl ?_
 intro Q hret hnorm hP hX a A
 refine wsk fun K1 hK1 => wrl (sda A λa A↦?_)
 refine qa (hK1 _ _ (wsk fun K2 hK2 => wrl (sdm A λa A↦?_)))
 refine qt A rfl rfl rfl (ef rfl rfl) (V (U := U) (Z := Z) hN hU hZ (by omega) (by omega) (by omega) M) ?_
 rintro _ w7 (⟨rfl, hp8⟩ | ⟨n3, rfl, ⟨hs4, hl5⟩, hM6⟩)
 ·
  exact .inl ⟨_, rfl, hX _ _ _ _ _ A (.inl ⟨rfl, by unfold moK; rw [hp8.1]; rfl, hp8.2.elim fun q9 h9 => h9.elim fun l9 h9 => ⟨q9, l9, h9.sub (cc (.refl _))⟩⟩)⟩
 replace M : Mg w0 w7 (.obj g (rC L (p + n3) lg) :: (U ++ Z)) := hM6
 refine .inr ⟨_, rfl, ?_⟩
 intro a A
 refine qa (hK2 _ _ (wsk fun K9 hK9 => wrl ?_))
 iterate 2 refine sdm A λa A↦?_
 rcases tf (Lib.hasPrefix (L.drop (p + n3)) [ec]) with hb10 | hb10
 ·
  have htl12 : 1 ≤ (L.drop (p + n3)).length := (List.isPrefixOf_iff_prefix.1 hb10).length_le
  rw [List.length_drop] at htl12
  refine sct A (ef rfl rfl) (xv (p := p + n3) (L := L) (T := ((U ++ Z))) (by omega) (by omega) hb10 M) ?_
  rintro _ w13 ⟨rfl, hM11⟩
  replace M : Mg w0 w13 (.obj g (rC L (p + n3 + 1) lg) :: (U ++ Z)) := hM11
  refine ⟨_, rfl, ?_⟩
  intro a A
  refine sdo (v := bV false) A (za rfl zk) λa A↦?_
  refine sda A λa A↦?_
  refine qa (hK9 _ _ (wr1 hret A ?_))
  exact .inr ⟨false, n3 + 1, rfl, ⟨by unfold moK; rw [hs4, Option.bind_some, if_pos (by rw [List.drop_drop]; exact hb10)], by omega⟩, by rw [← Nat.add_assoc]; exact M⟩
 ·
  refine sct A (ef rfl rfl) (ve (p := p + n3) (L := L) (T := ((U ++ Z))) (by omega) (by omega) hb10 M) ?_
  rintro _ w15 ⟨rfl, hM14⟩
  replace M : Mg w0 w15 (.obj g (rC L (p + n3) lg) :: (U ++ Z)) := hM14
  refine ⟨_, rfl, ?_⟩
  intro a A
  refine sdo (v := bV true) A (za rfl zk) λa A↦?_
  refine sda A λa A↦?_
  refine qa (hK9 _ _ (wr1 hret A ?_))
  exact .inr ⟨true, n3, rfl, ⟨by unfold moK; rw [hs4, Option.bind_some, if_neg (by rw [List.drop_drop, hb10]; decide)], by omega⟩, M⟩
theorem qnb {f : Nat} (V : SkC f) (hD : DaC f) {w0 w : World} {g p : Nat} {lg : Bool} {L : List UInt8} {U Z : List Ck} (hN : Env w0) (hU : Cu U) (hZ : Ob Z) (hp : p ≤ L.length) (hl : L.length ≤ 1000000000) (hf : 2 * (L.length - p) + 1 ≤ f) (hM0 : Mg w0 w (.obj g (rC L p lg) :: (U ++ Z))) : Calls Tryz.prog 34 #[pA g 0] w fun e w' => (e = .panicked flt ∧ sdX f (L.drop p) = none ∧ ∃ q lg2, Mg w0 w' (.obj g (rC L q lg2) :: (U ++ Z))) ∨ ∃ n, e = .returned (.tuple #[]) ∧ (sdX f (L.drop p) = some n ∧ p + n ≤ L.length) ∧ Mg w0 w' (.obj g (rC L (p + n) lg) :: (U ++ Z)) := by
 have hT := hN.tb
 have M : Mg w0 w (.obj g (rC L p lg) :: (U ++ Z)) := hM0
 refine ji (l := [(0, pA g 0)]) Tryz.func34 rfl Tryz.ntmps34 rfl rfl ?_
 intro Q hret hnorm hP hX a A
 refine wsk fun K1 hK1 => jh (S := fun w1 => Mg w0 w1 (.obj g (rC L p lg) :: [])) (by kernel_rfl) ?_
 replace M := M.drew
 refine amv A 0 rfl hP (M.sub (cc ns)) λa A↦?_
 refine atk A 1 rfl hP (M.sub (cc ns)) (λ_ M↦zt rfl) λa A↦?_
 refine atk (v := pA g 1) A 2 rfl hP (M.sub (cc ns)) (λ_ M↦qe yk rfl rfl) λa A↦?_
 refine atk A 3 rfl hP (M.sub (cc ns)) (λ_ M↦zi M o93 rfl 0 rfl rfl) λa A↦?_
 refine amv A 4 rfl hP (M.sub (cc ns)) λa A↦?_
 refine atk A 5 rfl hP (M.sub (cc ns)) (λ_ M↦zt rfl) λa A↦?_
 refine atk (v := pA g 2) A 6 rfl hP (M.sub (cc ns)) (λ_ M↦qe qqb rfl rfl) λa A↦?_
 refine atk A 7 rfl hP (M.sub (cc ns)) (λ_ M↦zi M o94 rfl 0 rfl rfl) λa A↦?_
 refine atk A 8 rfl hP (M.sub (cc ns)) (λ_ M↦zd rfl) λa A↦?_
 refine atk A 9 rfl hP (M.sub (cc ns)) (λ_ M↦zd rfl) λa A↦?_
 refine zr (by kernel_rfl) ?_
 refine hK1 _ _ (wsk fun K2 hK2 => wrl (sdm A λa A↦?_))
 refine qt A rfl rfl rfl (ef rfl rfl) (V (U := U) (Z := Z) hN hU hZ (by omega) (by omega) (by omega) M) ?_
 rintro _ w7 (⟨rfl, hp8⟩ | ⟨n3, rfl, ⟨hs4, hl5⟩, hM6⟩)
 ·
  exact .inl ⟨_, rfl, hX _ _ _ _ _ A (.inl ⟨rfl, by unfold sdX; rw [hp8.1]; rfl, hp8.2.elim fun q9 h9 => h9.elim fun l9 h9 => ⟨q9, l9, h9.sub (cc (.refl _))⟩⟩)⟩
 replace M : Mg w0 w7 (.obj g (rC L (p + n3) lg) :: (U ++ Z)) := hM6
 refine .inr ⟨_, rfl, ?_⟩
 intro a A
 refine qa (hK2 _ _ (wsk fun K9 hK9 => wrl (sdm A λa A↦?_)))
 refine qt A rfl rfl rfl (ef rfl rfl) (hD (U := U) (Z := Z) hN hU hZ (by omega) (by omega) (by omega) M) ?_
 rintro _ w20 (⟨rfl, hp21⟩ | ⟨t10, F11, n12, b13, rfl, ⟨hd14, hl15, hn16⟩, ⟨hL17, hO18⟩, hM19⟩)
 ·
  exact .inl ⟨_, rfl, hX _ _ _ _ _ A (.inl ⟨rfl, by unfold sdX; rw [hs4, Option.bind_some, List.drop_drop, hp21.1]; rfl, hp21.2.elim fun q9 h9 => h9.elim fun l9 h9 => ⟨q9, l9, h9.sub (cc (.refl _))⟩⟩)⟩
 replace M : Mg w0 w20 (.obj g (rC L (p + n3 + n12) ((lg || b13))) :: (U ++ (F11 ++ Z))) := hM19
 refine .inr ⟨_, rfl, ?_⟩
 intro a A
 refine qa (hK9 _ _ (wsk fun K22 hK22 => jh (S := fun w1 => Mg w0 w1 (.obj g (rC L (p + n3 + n12) ((lg || b13))) :: [])) (by kernel_rfl) ?_))
 replace M := M.drew
 refine amv A 0 rfl hP (M.sub (cc ns)) λa A↦?_
 refine atk A 1 rfl hP (M.sub (cc ns)) (λ_ M↦zt rfl) λa A↦?_
 refine atk (v := pA g 0) A 2 rfl hP (M.sub (cc ns)) (λ_ M↦qe jaj rfl rfl) λa A↦?_
 refine atk A 3 rfl hP (M.sub (cc ns)) (λ_ M↦zi M o99 rfl 0 rfl rfl) λa A↦?_
 refine amv A 4 rfl hP (M.sub (cc ns)) λa A↦?_
 refine amv A 5 rfl hP (M.sub (cc ns)) λa A↦?_
 refine atk A 6 rfl hP (M.sub (cc ns)) (λ_ M↦zt rfl) λa A↦?_
 refine atk (v := pA g 1) A 7 rfl hP (M.sub (cc ns)) (λ_ M↦qe yk rfl rfl) λa A↦?_
 refine atk A 8 rfl hP (M.sub (cc ns)) (λ_ M↦zi M o93 rfl 0 rfl rfl) λa A↦?_
 refine atk (v := .string ((tx ((L.take (p + n3 + n12)).drop p)))) A 9 rfl hP (M.sub (cc ns)) (λ_ M↦qyg (s := L) (p := p) (q := p + n3 + n12) Tryz.underlying9 rfl rfl rfl rfl rfl (by omega) (by omega)) λa A↦?_
 rcases tf (Lib.validD ((L.take (p + n3 + n12)).drop p)) with hb24 | hb24
 ·
  refine zj (by kernel_rfl) (js A 10 rfl rfl rfl rfl (ef rfl rfl) (qjb (l := (L.take (p + n3 + n12)).drop p) (by rw [List.length_drop, List.length_take]; omega) (hT.below M.bel) hb24) ?_)
  rintro _ w26 ⟨rfl, hb25⟩
  replace M := M.call hb25
  refine ⟨_, rfl, (M.sub (cc ns)), ?_⟩
  intro a A
  refine zj (by kernel_rfl) (js A 11 rfl rfl rfl rfl (ef rfl rfl) (vm) ?_)
  rintro _ w28 ⟨rfl, hb27⟩
  replace M := M.call hb27
  refine ⟨_, rfl, (M.sub (cc ns)), ?_⟩
  intro a A
  refine zr (by kernel_rfl) ?_
  refine hK22 _ _ (wrl ?_)
  iterate 2 refine sdm A λa A↦?_
  refine sdo A (zt rfl) λa A↦?_
  refine sdo (v := pA g 2) A (qe qqb rfl rfl) λa A↦?_
  refine zh (L' := (.obj g (rC L (p + n3 + n12) lg) :: (U ++ (F11 ++ Z)))) A M rfl rfl (qy rfl rfl rfl (by kernel_rfl) M 0 rfl rfl rfl) 0 rfl rfl rfl ?_
  intro w29 M
  refine qa (hnorm _ _ (yn (v := .tuple #[]) A rfl .nil rfl ?_))
  refine .inr ⟨n3 + n12, rfl, ⟨by unfold sdX; rw [hs4, Option.bind_some, List.drop_drop, hd14, Option.bind_some, if_pos (show Lib.validD ((L.drop p).take (n3 + n12)) = true from by rw [← hb24, List.drop_take, show p + n3 + n12 - p = n3 + n12 by omega])], by omega⟩, ?_⟩
  rw [← Nat.add_assoc]
  exact M.sub (.cons_cons _ zqi)
 ·
  refine zj (by kernel_rfl) (js A 10 rfl rfl rfl rfl (ef rfl rfl) (qjb (l := (L.take (p + n3 + n12)).drop p) (by rw [List.length_drop, List.length_take]; omega) (hT.below M.bel) hb24) ?_)
  rintro _ w31 ⟨rfl, hb30⟩
  replace M := M.call hb30
  refine ⟨_, rfl, (M.sub (cc ns)), ?_⟩
  intro a A
  refine zj (by kernel_rfl) (zqh A 11 rfl rfl rfl rfl (ef rfl rfl) (xq) ?_)
  rintro _ w33 ⟨rfl, hp34⟩
  exact .inl ⟨_, rfl, hX _ _ _ _ _ A (.inl ⟨rfl, by unfold sdX; rw [hs4, Option.bind_some, List.drop_drop, hd14, Option.bind_some, if_neg (by rw [(show Lib.validD ((L.drop p).take (n3 + n12)) = false from by rw [← hb24, List.drop_take, show p + n3 + n12 - p = n3 + n12 by omega])]; decide)], _, _, (M.call hp34).sub (.cons_cons _ zqi)⟩)⟩
theorem zqj (l : List UInt8) : lnX l ≤ l.length := by
 unfold lnX
 have : ∀ (f : Nat) (l : List UInt8), C.lnN f l ≤ l.length := by
  intro f
  induction f with
  | zero => intro l; exact Nat.zero_le _
  | succ f ih =>
   intro l
   rw [C.lnN]
   by_cases h : l.isEmpty = true
   ·
    rw [if_pos h]; exact Nat.zero_le _
   ·
    rw [if_neg h]
    by_cases h2 : C.ln7 (((Lib.decodeL l).1 : Nat) : Int) = true
    ·
     rw [if_pos h2]; exact Nat.zero_le _
    ·
     rw [if_neg h2]
     have h3 := qhb l (fun k => h (by rw [k]; rfl))
     have h4 := ih (l.drop (Lib.decodeL l).2)
     rw [List.length_drop] at h4
     omega
 exact this _ _
theorem zgh {l : List UInt8} (h : (((dcX l).1 : Nat) : Int) = 59) : 1 ≤ lnX l := by
 have hne : l ≠ [] := fun k => by rw [k] at h; cases h
 have hw := (xl hne).1
 rw [qjf hne] at h hw
 unfold lnX
 obtain ⟨n, hn⟩ : ∃ n, l.length = n + 1 := ⟨l.length - 1, by have := List.length_pos_iff.2 hne; omega⟩
 rw [hn, C.lnN, if_neg (fun k => hne (List.isEmpty_iff.1 k)), h, if_neg (by decide)]
 omega
theorem zgi {f : Nat} {l : List UInt8} {r : Option Nat} (h : xj f 1 l = r) (hf : l.length < f) : xj (l.length + 1) 1 l = r := by rw [← h]; exact qbd _ _ _ _ (by omega) hf
theorem qxg {w : World} {r : Int} {b : Bool} (hb : C.blankB r = b) : Calls Tryz.prog 30 #[.int .i32 r] w fun e w' => e = .returned (bV b) ∧ Below w.heap.size w w' := hb ▸ (C.blank_any r w).mono fun e w' h => ⟨h.1, h.2 ▸ Below.refl _ _⟩
theorem zra {f0 : Nat} (ih : ∀ f, f < f0 → SkC f ∧ DaC f) : SkC f0 := by
 intro w0 w g p lg L U Z hN hU hZ hp hl hf0 hM0
 have hT := hN.tb
 have M : Mg w0 w (.obj g (rC L p lg) :: (U ++ Z)) := hM0
 refine ji (l := [(0, pA g 0)]) Tryz.func20 rfl Tryz.ntmps20 rfl rfl ?_
 intro Q hret hnorm hP hX a A
 refine wp_block (jd (fun m_ a w1 => ∃ (q : Nat) (f : Nat), m_ = 1 + (L.length - q) ∧ (q ≤ L.length ∧ 2 * (L.length - q) + 1 ≤ f ∧ f ≤ f0 ∧ KI L (skp f0 (L.drop p)) p q f) ∧ Sl a 36 [(0, pA g 0)] ∧ Mg w0 w1 (.obj g (rC L q lg) :: (U ++ Z))) _ ⟨p, f0, rfl, ⟨hp, hf0, Nat.le_refl _, Nat.le_refl _, by rw [Nat.sub_self]; simp⟩, A.keep _ ⟨rfl, trivial⟩, M⟩ ?_)
 clear M A
 rintro m_ a w1 ⟨q, f, rfl, hinv3, A, M⟩ K2 hK2
 obtain ⟨hq0, hf1, hf2, hi⟩ := hinv3
 have hpq := hi.1
 obtain ⟨f, rfl⟩ : ∃ f1, f = f1 + 1 := ⟨f - 1, by omega⟩
 refine wp_block (wsk fun K4 hK4 => wrl (sdm A λa A↦?_))
 refine sct A (ef rfl rfl) (xg (p := q) (L := L) (T := ((U ++ Z))) (by omega) M) ?_
 rintro _ w6 ⟨rfl, hM5⟩
 replace M : Mg w0 w6 (.obj g (rC L q lg) :: (U ++ Z)) := hM5
 refine ⟨_, rfl, ?_⟩
 intro a A
 refine gcl A M (ef rfl rfl) (qfh (l := L.drop q) (hT.below M.bel)) fun w8 hb7 M a A => ?_
 refine sdm A λa A↦?_
 iterate 2 refine sdo A (qh (vs := [.int .i32 ((((dcX (L.drop q)).1 : Nat) : Int)), iV ((((dcX (L.drop q)).2 : Nat) : Int))]) rfl rfl) λa A↦?_
 iterate 2 refine sda A λa A↦?_
 refine qa (hK4 _ _ (wp_block (wsk fun K9 hK9 => wrl (sdm A λa A↦?_))))
 rcases tf (C.blankB (((dcX (L.drop q)).1 : Nat) : Int)) with hb10 | hb10
 ·
  refine sct A (ef rfl rfl) (qxg hb10) ?_
  rintro _ w12 ⟨rfl, hb11⟩
  have hne : L.drop q ≠ [] := fun k => by rw [k] at hb10; exact absurd hb10 (by decide)
  obtain ⟨hw1, hw2⟩ := xl hne
  rw [List.length_drop] at hw2
  replace M := M.call hb11
  refine ⟨_, rfl, ?_⟩
  intro a A
  refine sda A λa A↦?_
  refine qa (hK9 _ _ (ct A ?_))
  refine wrl (sdm A λa A↦?_)
  refine sdo A (zt rfl) λa A↦?_
  refine sdo (v := pA g 1) A (qe yk rfl rfl) λa A↦?_
  refine sdo A (zi M o93 rfl 0 rfl rfl) λa A↦?_
  refine sdm A λa A↦?_
  refine sdo (v := iV (((q + (dcX (L.drop q)).2 : Nat) : Int))) A (qb rfl rfl (ar_add ((in_i64 (by omega) (by omega)).trans (by omega)))) λa A↦?_
  refine sdo A (zt rfl) λa A↦?_
  refine sdo (v := pA g 1) A (qe yk rfl rfl) λa A↦?_
  refine zh (L' := (.obj g (rC L (q + (dcX (L.drop q)).2) lg) :: (U ++ Z))) A M rfl rfl (qy rfl rfl rfl (by kernel_rfl) M 0 rfl rfl rfl) 0 rfl rfl rfl ?_
  intro w13 M
  refine qa ?_
  refine hK2 _ _ _ (by omega) ⟨q + (dcX (L.drop q)).2, f, rfl, ⟨by omega, by omega, by omega, hi.go (by rw [skp, if_pos hb10])⟩, A.keep _ ⟨rfl, trivial⟩, M⟩
 ·
  refine gcl A M (ef rfl rfl) (qxg hb10) fun w15 hb14 M a A => ?_
  refine sda A λa A↦?_
  refine qa (hK9 _ _ (cf A ?_))
  refine wsk fun K16 hK16 => wrl (sdm A λa A↦?_)
  rcases tf (((((dcX (L.drop q)).1 : Nat) : Int) == 59)) with hb17 | hb17
  ·
   have hb17' := eq_of_beq hb17
   refine sdc A qj hb17 λa A↦?_
   refine sda A λa A↦?_
   refine qa (hK16 _ _ (ct A ?_))
   refine wrl (sdm A λa A↦?_)
   refine sct A (ef rfl rfl) (qpd (p := q) (L := L) (T := ((U ++ Z))) (by omega) (by omega) M) ?_
   rintro _ w19 ⟨rfl, hM18⟩
   have hx1 := zgh (eq_of_beq hb17)
   have hx2 := zqj (L.drop q)
   rw [List.length_drop] at hx2
   replace M : Mg w0 w19 (.obj g (rC L (q + lnX (L.drop q)) lg) :: (U ++ Z)) := hM18
   refine ⟨_, rfl, ?_⟩
   intro a A
   refine qa ?_
   refine hK2 _ _ _ (by omega) ⟨q + lnX (L.drop q), f, rfl, ⟨by omega, by omega, by omega, hi.go (by rw [skp, if_neg (by rw [hb10]; decide), if_pos (eq_of_beq hb17)])⟩, A.keep _ ⟨rfl, trivial⟩, M⟩
  ·
   have hb17' := ne_of_beq_false hb17
   refine sdc A qj hb17 λa A↦?_
   refine sda A λa A↦?_
   refine qa (hK16 _ _ (cf A ?_))
   refine wsk fun K20 hK20 => wrl (sdm A λa A↦?_)
   rcases tf (Lib.hasPrefix (L.drop q) [35, 124]) with hb21 | hb21
   ·
    have htl23 : 2 ≤ (L.drop q).length := (List.isPrefixOf_iff_prefix.1 hb21).length_le
    rw [List.length_drop] at htl23
    refine sct A (ef rfl rfl) (xv (p := q) (L := L) (T := ((U ++ Z))) (by omega) (by omega) hb21 M) ?_
    rintro _ w24 ⟨rfl, hM22⟩
    replace M : Mg w0 w24 (.obj g (rC L (q + 2) lg) :: (U ++ Z)) := hM22
    refine ⟨_, rfl, ?_⟩
    intro a A
    refine sda A λa A↦?_
    refine qa (hK20 _ _ (ct A ?_))
    refine wrl (sdm A λa A↦?_)
    refine qt A rfl rfl rfl (ef rfl rfl) (qrg (p := q + 2) (L := L) (T := ((U ++ Z))) hT (by omega) (by omega) M) ?_
    rintro _ w26 (⟨rfl, hp27⟩ | ⟨n, rfl, ⟨hnn, hnl⟩, hM25⟩)
    ·
     exact .inl ⟨_, rfl, hX _ _ _ _ _ A (.inl ⟨rfl, hi.no (by rw [skp, if_neg (by rw [hb10]; decide), if_neg (ne_of_beq_false hb17), if_pos hb21]; rw [List.drop_drop, zgi hp27.1 (by rw [List.length_drop]; omega)]; try rfl), hp27.2.elim fun q9 h9 => ⟨q9, _, h9⟩⟩)⟩
    replace M : Mg w0 w26 (.obj g (rC L (q + 2 + n) lg) :: (U ++ Z)) := hM25
    refine .inr ⟨_, rfl, ?_⟩
    intro a A
    refine qa ?_
    rw [Nat.add_assoc] at M
    refine hK2 _ _ _ (by omega) ⟨q + (2 + n), f, rfl, ⟨by omega, by omega, by omega, hi.go (n := 2 + n) (by rw [skp, if_neg (by rw [hb10]; decide), if_neg (ne_of_beq_false hb17), if_pos hb21]; rw [zgi (f := L.length + 1) (r := some n) (by rw [List.drop_drop]; exact hnn) (by rw [List.length_drop, List.length_drop]; omega), Option.bind_some, List.drop_drop])⟩, A.keep _ ⟨rfl, trivial⟩, M⟩
   ·
    refine sct A (ef rfl rfl) (ve (p := q) (L := L) (T := ((U ++ Z))) (by omega) (by omega) hb21 M) ?_
    rintro _ w29 ⟨rfl, hM28⟩
    replace M : Mg w0 w29 (.obj g (rC L q lg) :: (U ++ Z)) := hM28
    refine ⟨_, rfl, ?_⟩
    intro a A
    refine sda A λa A↦?_
    refine qa (hK20 _ _ (cf A ?_))
    refine wsk fun K30 hK30 => wrl (sdm A λa A↦?_)
    rcases tf (Lib.hasPrefix (L.drop q) [35, 59]) with hb31 | hb31
    ·
     have htl33 : 2 ≤ (L.drop q).length := (List.isPrefixOf_iff_prefix.1 hb31).length_le
     rw [List.length_drop] at htl33
     refine sct A (ef rfl rfl) (xv (p := q) (L := L) (T := ((U ++ Z))) (by omega) (by omega) hb31 M) ?_
     rintro _ w34 ⟨rfl, hM32⟩
     replace M : Mg w0 w34 (.obj g (rC L (q + 2) lg) :: (U ++ Z)) := hM32
     refine ⟨_, rfl, ?_⟩
     intro a A
     refine sda A λa A↦?_
     refine qa (hK30 _ _ (ct A ?_))
     refine wrl (sdm A λa A↦?_)
     refine qt A rfl rfl rfl (ef rfl rfl) (qnb (f := f) (ih f (by omega)).1 (ih f (by omega)).2 hN hU hZ (by omega) (by omega) (by omega) M) ?_
     rintro _ w36 (⟨rfl, hp37⟩ | ⟨n, rfl, ⟨hnn, hnl⟩, hM35⟩)
     ·
      exact .inl ⟨_, rfl, hX _ _ _ _ _ A (.inl ⟨rfl, hi.no (by rw [skp, if_neg (by rw [hb10]; decide), if_neg (ne_of_beq_false hb17), if_neg (by rw [hb21]; decide), if_pos hb31]; show (sdX f ((L.drop q).drop 2)).bind _ = _; rw [List.drop_drop, hp37.1]; rfl), hp37.2⟩)⟩
     replace M : Mg w0 w36 (.obj g (rC L (q + 2 + n) lg) :: (U ++ Z)) := hM35
     refine .inr ⟨_, rfl, ?_⟩
     intro a A
     refine qa ?_
     rw [Nat.add_assoc] at M
     refine hK2 _ _ _ (by omega) ⟨q + (2 + n), f, rfl, ⟨by omega, by omega, by omega, hi.go (n := 2 + n) (by rw [skp, if_neg (by rw [hb10]; decide), if_neg (ne_of_beq_false hb17), if_neg (by rw [hb21]; decide), if_pos hb31]; show (sdX f ((L.drop q).drop 2)).bind _ = _; rw [List.drop_drop, hnn, Option.bind_some, List.drop_drop, List.drop_drop, Nat.add_assoc])⟩, A.keep _ ⟨rfl, trivial⟩, M⟩
    ·
     refine sct A (ef rfl rfl) (ve (p := q) (L := L) (T := ((U ++ Z))) (by omega) (by omega) hb31 M) ?_
     rintro _ w39 ⟨rfl, hM38⟩
     replace M : Mg w0 w39 (.obj g (rC L q lg) :: (U ++ Z)) := hM38
     refine ⟨_, rfl, ?_⟩
     intro a A
     refine sda A λa A↦?_
     refine qa (hK30 _ _ (cf A ?_))
     refine wp_ret (hret _ _ (yn (v := .tuple #[]) A rfl .nil rfl ?_))
     refine .inr ⟨q - p, rfl, ⟨hi.fin (by rw [skp, if_neg (by rw [hb10]; decide), if_neg (ne_of_beq_false hb17), if_neg (by rw [hb21]; decide), if_neg (by rw [hb31]; decide)]), by omega⟩, ?_⟩
     rw [show p + (q - p) = q by omega]
     exact M
def ItC (f0 : Nat) : Prop := ∀ {w0 w : World} {g p : Nat} {lg : Bool} {L : List UInt8} {U Z : List Ck} {ec : UInt8}, Env w0 → Cu U → Ob Z → p ≤ L.length → L.length ≤ 1000000000 → 2 * (L.length - p) + 2 ≤ f0 → Mg w0 w (.obj g (rC L p lg) :: (U ++ Z)) → Calls Tryz.prog 36 #[pA g 0, .string (tx [ec])] w fun e w' => (e = .panicked flt ∧ itm f0 ec (L.drop p) = none ∧ ∃ q lg2, Mg w0 w' (.obj g (rC L q lg2) :: (U ++ Z))) ∨ ∃ so ca ts U1 F n b, e = .returned (.slice so (List.length ts) ca) ∧ (itm f0 ec (L.drop p) = some (List.map Dt.tr ts, n, b) ∧ p + n ≤ L.length ∧ 1 ≤ n ∧ List.length ts ≤ n) ∧ (IR 30 so ca ts U1 ∧ (∀ t ∈ ts, Lv w0 (F ++ Z) t) ∧ Ob F) ∧ Mg w0 w' (.obj g (rC L (p + n) ((lg || b))) :: ((U1 ++ U) ++ (F ++ Z)))
theorem zgj {ec : UInt8} {l : List UInt8} {o : Option Nat} {n : Nat} (h : moK ec l o = some (false, n)) : 1 ≤ n := by
 unfold moK at h
 cases o with
 | none => cases h
 | some a =>
  rw [Option.bind_some] at h
  by_cases k : Lib.hasPrefix (l.drop a) [ec] = true
  ·
   rw [if_pos k] at h; cases h; omega
  ·
   rw [if_neg k] at h; cases h
theorem zrb {w0 : World} {Z F : List Ck} {ts : List Dt} {t : Dt} (h : ∀ t ∈ ts, Lv w0 Z t) (ht : Lv w0 (F ++ Z) t) : ∀ x ∈ ts ++ [t], Lv w0 (F ++ Z) x := fun x hx => by
 rcases List.mem_append.1 hx with hx | hx
 ·
  exact (h x hx).app F
 ·
  rw [List.mem_singleton.1 hx]; exact ht
theorem qoe {f0 : Nat} (ih : ∀ f, f < f0 → SkC f ∧ DaC f) : ItC f0 := by
 intro w0 w g p lg L U Z ec hN hUb hZ hp hl hf0 hM0
 have M : Mg w0 w (.obj g (rC L p lg) :: (U ++ Z)) := hM0
 refine ji (l := [(0, pA g 0), (1, .string ((tx ([ec]))))]) Tryz.func36 rfl Tryz.ntmps36 rfl rfl ?_
 intro Q hret hnorm hP hX a A
 refine wsk fun K1 hK1 => wrl (sda A λa A↦?_)
 refine qa (hK1 _ _ (wsk fun K2 hK2 => wrl (sda A λa A↦?_)))
 refine qa (hK2 _ _ (wsk fun K3 hK3 => wp_block ?_))
 rw [← Bool.or_false lg] at M
 refine jd (fun m_ a w1 => ∃ (q : Nat) (f : Nat) (so : Option Addr) (ca : Nat) (ts : List Dt) (U1 : List Ck) (F : List Ck) (bb : Bool), m_ = 1 + (L.length - q) ∧ (q ≤ L.length ∧ 2 * (L.length - q) + 2 ≤ f ∧ f ≤ f0 ∧ ts.length ≤ q - p ∧ IR 30 so ca ts U1 ∧ (∀ t ∈ ts, Lv w0 (F ++ Z) t) ∧ Ob F ∧ TI ec L (itm f0 ec (L.drop p)) p q f (ts.map Dt.tr) bb) ∧ Sl a 15 [(0, pA g 0), (1, .string ((tx ([ec])))), (4, .slice none 0 0), (5, .slice so ts.length ca)] ∧ Mg w0 w1 (.obj g (rC L q ((lg || bb))) :: ((U1 ++ U) ++ (F ++ Z)))) _ ⟨p, f0, none, 0, [], [], [], false, rfl, ⟨hp, hf0, Nat.le_refl _, Nat.zero_le _, IR.start _, (fun t h => by cases h), Ob.nil, Nat.le_refl _, by rw [Nat.sub_self]; simp⟩, A.keep _ ⟨rfl, rfl, rfl, rfl, trivial⟩, M⟩ ?_
 clear M A
 rintro m_ a w4 ⟨q, f, so, ca, ts, U1, F, bb, rfl, hinv6, A, M⟩ K5 hK5
 obtain ⟨hq0, hf1, hf2, hsl, hI, hts, hF, hi⟩ := hinv6
 have hpq := hi.1
 obtain ⟨f, rfl⟩ : ∃ f1, f = f1 + 1 := ⟨f - 1, by omega⟩
 refine wsk fun K7 hK7 => wsk fun K8 hK8 => wrl ?_
 iterate 2 refine sdm A λa A↦?_
 refine qt A rfl rfl rfl (ef rfl rfl) (qli (f := f) (ih f (by omega)).1 (U := (U1 ++ U)) (Z := (F ++ Z)) hN (Cu.app hI.cu hUb) (Ob.app hF hZ) (by omega) (by omega) (by omega) M) ?_
 rintro _ w14 (⟨rfl, hp15⟩ | ⟨b113, n9, rfl, ⟨hm10, hl11⟩, hM12⟩)
 ·
  exact .inl ⟨_, rfl, hX _ _ _ _ _ A (.inl ⟨rfl, hi.no hp15.1, hp15.2.elim fun q9 h9 => h9.elim fun l9 h9 => ⟨q9, l9, h9.sub (.cons_cons _ ym)⟩⟩)⟩
 replace M : Mg w0 w14 (.obj g (rC L (q + n9) ((lg || bb))) :: ((U1 ++ U) ++ (F ++ Z))) := hM12
 refine .inr ⟨_, rfl, ?_⟩
 intro a A
 refine qa (hK8 _ _ ?_)
 refine wp_cond_split (t := b113) (A.ev rfl) (fun hc16 => ?_) (fun hc16 => ?_)
 ·
  have b113h : b113 = true := by simpa using hc16
  refine wp_skip (hK7 _ _ (wp_block (wrl ?_)))
  iterate 2 refine sdm A λa A↦?_
  refine qt A rfl rfl rfl (ef rfl rfl) ((ih f (by omega)).2 (U := (U1 ++ U)) (Z := (F ++ Z)) hN (Cu.app hI.cu hUb) (Ob.app hF hZ) (by omega) (by omega) (by omega) M) ?_
  rintro _ w27 (⟨rfl, hp28⟩ | ⟨t17, F18, n19, b20, rfl, ⟨hd21, hl22, hn23⟩, ⟨hL24, hO25⟩, hM26⟩)
  ·
   exact .inl ⟨_, rfl, hX _ _ _ _ _ A (.inl ⟨rfl, hi.no2 (by rw [hm10, b113h]) hp28.1, hp28.2.elim fun q9 h9 => h9.elim fun l9 h9 => ⟨q9, l9, h9.sub (.cons_cons _ ym)⟩⟩)⟩
  replace M : Mg w0 w27 (.obj g (rC L (q + n9 + n19) (((lg || bb) || b20))) :: ((U1 ++ U) ++ (F18 ++ (F ++ Z)))) := hM26
  refine .inr ⟨_, rfl, ?_⟩
  intro a A
  refine qph (e := 30) (sz := 11) (m := 1) (vs := t17.cells) A M rfl rfl rfl (jv rfl (by kernel_rfl)) rfl rfl (.inl (by decide)) ?_
  intro g29 w30 M a A
  replace M : Mg w0 w30 (.obj g (rC L (q + n9 + n19) (((lg || bb) || b20))) :: .row 30 11 (.slice (aO g29) 1 1) 1 t17.cells :: ((U1 ++ U) ++ (F18 ++ (F ++ Z)))) := M.bring 1 rfl rfl
  replace M : Mg w0 w30 (.row 30 11 (.slice (aO g29) 1 1) 1 t17.cells :: .obj g (rC L (q + n9 + n19) (((lg || bb) || b20))) :: ((U1 ++ U) ++ (F18 ++ (F ++ Z)))) := M.bring 1 rfl rfl
  replace M : Mg w0 w30 (.row 30 11 (.slice (aO g29) 1 1) 1 t17.cells :: .obj g (rC L (q + n9 + n19) (((lg || bb) || b20))) :: (U1 ++ (U ++ (F18 ++ (F ++ Z))))) := by rw [List.append_assoc] at M; exact M
  refine zoh (e := 30) (m := (ts ++ [t17]).length) (ts := ts ++ [t17]) (c := .obj g (rC L (q + n9 + n19) (((lg || bb) || b20)))) (X := (U ++ (F18 ++ (F ++ Z)))) A rfl rfl rfl (zog (z := .agg zD.toArray) (by_ := 192) Tryz.underlying28 (by kernel_rfl) rfl rfl rfl hI M (zq (by simp) (ke hUb.ob.nob (Ob.app hO25 (Ob.app hF hZ)).nob)) rfl rfl (by omega)) ?_
  intro so31 ca32 U33 w34 hI35 M a A
  replace M : Mg w0 w34 (.obj g (rC L (q + n9 + n19) (((lg || bb) || b20))) :: ((U33 ++ U) ++ (F18 ++ (F ++ Z)))) := by rw [← List.append_assoc] at M; exact M
  refine sda A λa A↦?_
  refine qa ?_
  have hta : ∀ x ∈ ts ++ [t17], Lv w0 ((F18 ++ F) ++ Z) x := by rw [List.append_assoc]; exact zrb hts hL24
  replace M : Mg w0 w34 (.obj g (rC L (q + n9 + n19) (((lg || bb) || b20))) :: ((U33 ++ U) ++ ((F18 ++ F) ++ Z))) := by rw [List.append_assoc F18 F Z]; exact M
  rw [Bool.or_assoc] at M
  refine hK5 _ _ _ (by omega) ⟨q + n9 + n19, f, so31, ca32, ts ++ [t17], U33, F18 ++ F, bb || b20, rfl, ⟨by omega, by omega, by omega, by rw [List.length_append, List.length_singleton]; omega, hI35, hta, Ob.app hO25 hF, by rw [List.map_append, List.map_singleton]; exact hi.go (by rw [hm10, b113h]) hd21⟩, A.keep _ ⟨rfl, rfl, rfl, rfl, trivial⟩, M⟩
 ·
  have b113h : b113 = false := by simpa using hc16
  refine wp_exit (hK3 _ _ (wsk fun K36 hK36 => wrl (sdm A λa A↦?_)))
  refine sda A λa A↦?_
  refine qa (hK36 _ _ (wr1 hret A ?_))
  refine .inr ⟨so, ca, ts, U1, F, q + n9 - p, bb, rfl, ⟨hi.fin (by rw [hm10, b113h]), by omega, by have := zgj (by rw [hm10, b113h]); omega, by omega⟩, ⟨hI, hts, hF⟩, ?_⟩
  rw [show p + (q + n9 - p) = q + n9 by omega]
  exact M
def lsX (f : Nat) (ec : UInt8) (l : List UInt8) : Option (Tr × Nat × Bool) := (lst f ec true l).map fun r => (yw r.1 r.2.1, r.2.2.1, r.2.2.2)
def LiC (f0 : Nat) : Prop := ∀ {w0 w : World} {g p : Nat} {lg : Bool} {L : List UInt8} {U Z : List Ck} {ec : UInt8}, Env w0 → Cu U → Ob Z → p ≤ L.length → L.length ≤ 1000000000 → 2 * (L.length - p) + 2 ≤ f0 → Mg w0 w (.obj g (rC L p lg) :: (U ++ Z)) → Calls Tryz.prog 35 #[pA g 0, .string (tx [ec])] w fun e w' => (e = .panicked flt ∧ lsX f0 ec (L.drop p) = none ∧ ∃ q lg2, Mg w0 w' (.obj g (rC L q lg2) :: (U ++ Z))) ∨ ∃ t F n b, e = .returned (.agg (t.d.cells t.ts.length).toArray) ∧ (lsX f0 ec (L.drop p) = some (t.tr, n, b) ∧ p + n ≤ L.length ∧ 1 ≤ n) ∧ (Lv w0 (F ++ Z) t ∧ Ob F) ∧ Mg w0 w' (.obj g (rC L (p + n) ((lg || b))) :: (U ++ (F ++ Z)))
theorem qbe {ts : List Dt} {b : Bool} (h : decide (0 < ((ts.length : Nat) : Int)) = b) : (ts.map Dt.tr).isEmpty = !b := by
 rw [← h]
 cases ts with
 | nil => rfl
 | cons a t => rw [decide_eq_true (by simp only [List.length_cons]; omega)]; rfl
theorem um {f0 : Nat} {ec : UInt8} {l : List UInt8} (h : lst f0 ec true l = none) : lsX f0 ec l = none := by unfold lsX; rw [h]; rfl
theorem zha {f0 n : Nat} {ec : UInt8} {l : List UInt8} {a : List Tr} {z t : Tr} {b : Bool} (h : lst f0 ec true l = some (a, z, n, b)) (ht : t = yw a z) : lsX f0 ec l = some (t, n, b) := by unfold lsX; rw [h, ht]; rfl
theorem zrc {f0 : Nat} (ih : ∀ f, f < f0 → SkC f ∧ DaC f) : LiC f0 := by
 intro w0 w g p lg L U Z ec hN hUb hZ hp hl hf0 hM0
 have hT := hN.tb
 have M : Mg w0 w (.obj g (rC L p lg) :: (U ++ Z)) := hM0
 refine ji (l := [(0, pA g 0), (1, .string ((tx ([ec]))))]) Tryz.func35 rfl Tryz.ntmps35 rfl rfl ?_
 intro Q hret hnorm hP hX a H
 refine wsk fun K1 hK1 => wrl (vr (vs := zD) (t := 30) H M rfl rfl rfl pg (ql (z := .agg zD.toArray) (by kernel_rfl) rfl) (by decide) ?_)
 intro g2 w3 M a H
 refine qa (hK1 _ _ (wsk fun K4 hK4 => wrl (sda H λa H↦?_)))
 refine qa (hK4 _ _ (wsk fun K5 hK5 => wp_block ?_))
 replace M : Mg w0 w3 (.obj g (rC L p lg) :: .obj g2 zC :: (U ++ Z)) := M.bring 1 rfl rfl
 rw [← Bool.or_false lg] at M
 refine jd (fun m_ a w1 => ∃ (q : Nat) (f : Nat) (so : Option Addr) (ca : Nat) (ts : List Dt) (U1 : List Ck) (F : List Ck) (bb : Bool), m_ = 1 + (L.length - q) ∧ (q ≤ L.length ∧ 2 * (L.length - q) + 2 ≤ f ∧ f ≤ f0 ∧ ts.length ≤ q - p ∧ IR 30 so ca ts U1 ∧ (∀ t ∈ ts, Lv w0 (F ++ Z) t) ∧ Ob F ∧ UI ec L (lst f0 ec true (L.drop p)) p q f (ts.map Dt.tr) bb) ∧ Sl a 36 [(0, pA g 0), (1, .string ((tx ([ec])))), (4, pA g2 0), (5, .slice so ts.length ca)] ∧ Mg w0 w1 (.obj g (rC L q ((lg || bb))) :: .obj g2 zC :: ((U1 ++ U) ++ (F ++ Z)))) _ ⟨p, f0, none, 0, [], [], [], false, rfl, ⟨hp, hf0, Nat.le_refl _, Nat.zero_le _, IR.start _, (fun t h => by cases h), Ob.nil, Nat.le_refl _, by rw [Nat.sub_self]; simp⟩, H.keep _ ⟨rfl, rfl, rfl, rfl, trivial⟩, M⟩ ?_
 clear M H
 rintro m_ a w6 ⟨q, f, so, ca, ts, U1, F, bb, rfl, hinv8, H, M⟩ K7 hK7
 obtain ⟨hq0, hf1, hf2, hsl, hI, hts, hF, hi⟩ := hinv8
 have hpq := hi.1
 obtain ⟨f, rfl⟩ : ∃ f1, f = f1 + 1 := ⟨f - 1, by omega⟩
 refine wsk fun K9 hK9 => wsk fun K10 hK10 => wrl ?_
 iterate 2 refine sdm H λa H↦?_
 refine qt H rfl rfl rfl (ef rfl rfl) (qli (f := f) (ih f (by omega)).1 (U := (.obj g2 zC :: (U1 ++ U))) (Z := (F ++ Z)) hN (Cu.cons rfl (Cu.app hI.cu hUb)) (Ob.app hF hZ) (by omega) (by omega) (by omega) M) ?_
 rintro _ w16 (⟨rfl, hp17⟩ | ⟨b115, n11, rfl, ⟨hm12, hl13⟩, hM14⟩)
 ·
  exact .inl ⟨_, rfl, hX _ _ _ _ _ H (.inl ⟨rfl, um (hi.no hp17.1), hp17.2.elim fun q9 h9 => h9.elim fun l9 h9 => ⟨q9, l9, h9.sub (.cons_cons _ (.cons _ ym))⟩⟩)⟩
 replace M : Mg w0 w16 (.obj g (rC L (q + n11) ((lg || bb))) :: .obj g2 zC :: ((U1 ++ U) ++ (F ++ Z))) := hM14
 refine .inr ⟨_, rfl, ?_⟩
 intro a H
 refine qa (hK10 _ _ ?_)
 refine wp_cond_split (t := b115) (H.ev rfl) (fun hc18 => ?_) (fun hc18 => ?_)
 ·
  have b115h : b115 = true := by simpa using hc18
  refine wp_skip (hK9 _ _ (wp_block (wsk fun K19 hK19 => wsk fun K20 hK20 => wrl (sdm H λa H↦?_))))
  rcases tf (qia (L.drop (q + n11))) with hb21 | hb21
  ·
   have hdl : 1 ≤ (L.drop (q + n11)).length := (List.isPrefixOf_iff_prefix.1 (zei (of_decide_eq_true hb21))).length_le
   rw [List.length_drop] at hdl
   refine sct H (ef rfl rfl) (zhi (p := q + n11) (L := L) (T := (.obj g2 zC :: ((U1 ++ U) ++ (F ++ Z)))) hT (by omega) (by omega) hb21 M) ?_
   rintro _ w23 ⟨rfl, hM22⟩
   replace M : Mg w0 w23 (.obj g (rC L (q + n11 + 1) ((lg || bb))) :: .obj g2 zC :: ((U1 ++ U) ++ (F ++ Z))) := hM22
   refine ⟨_, rfl, ?_⟩
   intro a H
   refine qa (hK20 _ _ (ct H ?_))
   refine wsk fun K24 hK24 => wrl (sdm H λa H↦?_)
   refine sdo H (zp Tryz.underlying28 rfl) λa H↦?_
   rcases tf (decide (0 < ((ts.length : Nat) : Int))) with hb25 | hb25
   ·
    have hb25' := of_decide_eq_true hb25
    refine sdc H zs hb25 λa H↦?_
    refine gcl H M (ef rfl rfl) (vm) fun w27 hb26 M a H => ?_
    refine qa (hK24 _ _ (wsk fun K28 hK28 => wrl (sdm H λa H↦?_)))
    refine qt H rfl rfl rfl (ef rfl rfl) ((ih f (by omega)).1 (U := (.obj g2 zC :: (U1 ++ U))) (Z := (F ++ Z)) hN (Cu.cons rfl (Cu.app hI.cu hUb)) (Ob.app hF hZ) (by omega) (by omega) (by omega) M) ?_
    rintro _ w33 (⟨rfl, hp34⟩ | ⟨n29, rfl, ⟨hs30, hl31⟩, hM32⟩)
    ·
     exact .inl ⟨_, rfl, hX _ _ _ _ _ H (.inl ⟨rfl, um (by rw [hi.dot (by rw [hm12, b115h]) hb21, show dtX _ _ _ _ = none from by unfold dtX; rw [if_neg (by rw [qbe hb25]; decide), hp34.1]; rfl]; rfl), hp34.2.elim fun q9 h9 => h9.elim fun l9 h9 => ⟨q9, l9, h9.sub (.cons_cons _ (.cons _ ym))⟩⟩)⟩
    replace M : Mg w0 w33 (.obj g (rC L (q + n11 + 1 + n29) ((lg || bb))) :: .obj g2 zC :: ((U1 ++ U) ++ (F ++ Z))) := hM32
    refine .inr ⟨_, rfl, ?_⟩
    intro a H
    refine qa (hK28 _ _ (wsk fun K35 hK35 => wrl (sdm H λa H↦?_)))
    refine qt H rfl rfl rfl (ef rfl rfl) ((ih f (by omega)).2 (U := (.obj g2 zC :: (U1 ++ U))) (Z := (F ++ Z)) hN (Cu.cons rfl (Cu.app hI.cu hUb)) (Ob.app hF hZ) (by omega) (by omega) (by omega) M) ?_
    rintro _ w46 (⟨rfl, hp47⟩ | ⟨t36, F37, n38, b39, rfl, ⟨hd40, hl41, hn42⟩, ⟨hL43, hO44⟩, hM45⟩)
    ·
     exact .inl ⟨_, rfl, hX _ _ _ _ _ H (.inl ⟨rfl, um (by rw [hi.dot (by rw [hm12, b115h]) hb21, show dtX _ _ _ _ = none from by unfold dtX; rw [if_neg (by rw [qbe hb25]; decide), hs30, Option.bind_some, List.drop_drop, hp47.1]; rfl]; rfl), hp47.2.elim fun q9 h9 => h9.elim fun l9 h9 => ⟨q9, l9, h9.sub (.cons_cons _ (.cons _ ym))⟩⟩)⟩
    replace M : Mg w0 w46 (.obj g (rC L (q + n11 + 1 + n29 + n38) (((lg || bb) || b39))) :: .obj g2 zC :: ((U1 ++ U) ++ (F37 ++ (F ++ Z)))) := hM45
    refine .inr ⟨_, rfl, ?_⟩
    intro a H
    refine vr (vs := zD) (t := 30) H M rfl rfl rfl pg (ql (z := .agg zD.toArray) (by kernel_rfl) rfl) (by decide) ?_
    intro g48 w49 M a H
    refine zh (L' := (.obj g48 (.cells (t36.d.cells t36.ts.length).toArray 30) :: .obj g (rC L (q + n11 + 1 + n29 + n38) (((lg || bb) || b39))) :: .obj g2 zC :: ((U1 ++ U) ++ (F37 ++ (F ++ Z))))) H M rfl rfl (qy rfl rfl rfl (by kernel_rfl) M 0 rfl rfl rfl) 0 rfl rfl rfl ?_
    intro w50 M
    refine qa (hK35 _ _ (wsk fun K51 hK51 => wrl ?_))
    iterate 2 refine sdm H λa H↦?_
    replace M : Mg w0 w50 (.obj g (rC L (q + n11 + 1 + n29 + n38) (((lg || bb) || b39))) :: .obj g48 (.cells (t36.d.cells t36.ts.length).toArray 30) :: .obj g2 zC :: ((U1 ++ U) ++ (F37 ++ (F ++ Z)))) := M.bring 1 rfl rfl
    refine qt H rfl rfl rfl (ef rfl rfl) (qli (f := f) (ih f (by omega)).1 (U := (.obj g48 (.cells (t36.d.cells t36.ts.length).toArray 30) :: .obj g2 zC :: (U1 ++ U))) (Z := (F37 ++ (F ++ Z))) hN (Cu.cons rfl (Cu.cons rfl (Cu.app hI.cu hUb))) (Ob.app hO44 (Ob.app hF hZ)) (by omega) (by omega) (by omega) M) ?_
    rintro _ w57 (⟨rfl, hp58⟩ | ⟨b156, n52, rfl, ⟨hm53, hl54⟩, hM55⟩)
    ·
     exact .inl ⟨_, rfl, hX _ _ _ _ _ H (.inl ⟨rfl, um (by rw [hi.dot (by rw [hm12, b115h]) hb21, show dtX _ _ _ _ = none from by unfold dtX; rw [if_neg (by rw [qbe hb25]; decide), hs30, Option.bind_some, List.drop_drop, hd40, Option.bind_some, List.drop_drop, hp58.1]; rfl]; rfl), hp58.2.elim fun q9 h9 => h9.elim fun l9 h9 => ⟨q9, l9, h9.sub (.cons_cons _ (.cons _ (.cons _ zgg)))⟩⟩)⟩
    replace M : Mg w0 w57 (.obj g (rC L (q + n11 + 1 + n29 + n38 + n52) (((lg || bb) || b39))) :: .obj g48 (.cells (t36.d.cells t36.ts.length).toArray 30) :: .obj g2 zC :: ((U1 ++ U) ++ (F37 ++ (F ++ Z)))) := hM55
    refine .inr ⟨_, rfl, ?_⟩
    intro a H
    rcases b156 with _ | _
    ·
     refine sdo (v := bV true) H (za rfl zk) λa H↦?_
     refine gcl H M (ef rfl rfl) (vm) fun w60 hb59 M a H => ?_
     refine qa (hK51 _ _ (wsk fun K61 hK61 => wrl (sdm H λa H↦?_)))
     refine sdo H (vd M xw rfl 1 rfl (cs := [iV t36.d.k, iV t36.d.n, bV t36.d.y.q.b1, .slice t36.d.y.o1 t36.d.y.q.t1.length t36.d.y.c1, .slice t36.d.y.o2 t36.d.y.q.q1.length t36.d.y.c2, bV t36.d.y.q.b2, .slice t36.d.y.o3 t36.d.y.q.t2.length t36.d.y.c3, .slice t36.d.y.o4 t36.d.y.q.q2.length t36.d.y.c4, .string t36.d.s, .slice t36.d.ro t36.d.rl.length t36.d.rc, .slice t36.d.lo t36.ts.length t36.d.lc]) rfl rfl) λa H↦?_
     have hrt := hI.rt M (fun c hc => List.mem_cons_of_mem _ (List.mem_cons_of_mem _ (List.mem_cons_of_mem _ (List.mem_append_left _ (List.mem_append_left _ hc)))))
     have hMz := M.sub (cn (cn (cn (List.sublist_append_right _ _))))
     have htz : ∀ x ∈ ts, Lv w0 (F37 ++ (F ++ Z)) x := fun x hx => (hts x hx).app F37
     have hnb : xk (U ++ (F37 ++ (F ++ Z))) := ke hUb.ob.nob (Ob.app hO44 (Ob.app hF hZ)).nob
     have hMs : Mg w0 w60 (.obj g (rC L (q + n11 + 1 + n29 + n38 + n52) (((lg || bb) || b39))) :: .obj g48 (.cells (t36.d.cells t36.ts.length).toArray 30) :: .obj g2 zC :: (U ++ (F37 ++ (F ++ Z)))) := M.sub (.cons_cons _ (.cons_cons _ (.cons_cons _ (List.Sublist.append (List.sublist_append_right _ _) (.refl _)))))
     refine sct H (ef rfl rfl) (qgj (ts := ts) (u := t36) hrt (fun x hx => htz x hx _ hMz) (hL43 _ hMz) (by omega)) ?_
     rintro _ w63 ⟨t2, rfl, ⟨hr2, htt2⟩, hb62, hst⟩
     have hL2 : Lv w0 (made w60 w63 ++ (F37 ++ (F ++ Z))) t2 := zbe (K := fun w9 => (∀ x ∈ ts, x.rd w9) ∧ Dt.rd w9 t36) (fun w9 h9 hk => hst w9 h9 hk.1 hk.2) (fun w9 h9 => ⟨fun x hx => htz x hx w9 h9, hL43 w9 h9⟩)
     replace M : Mg w0 w63 (.obj g (rC L (q + n11 + 1 + n29 + n38 + n52) (((lg || bb) || b39))) :: .obj g48 (.cells (t36.d.cells t36.ts.length).toArray 30) :: .obj g2 zC :: (U ++ (made w60 w63 ++ (F37 ++ (F ++ Z))))) := (qqd (A := [.obj g (rC L (q + n11 + 1 + n29 + n38 + n52) (((lg || bb) || b39))), .obj g48 (.cells (t36.d.cells t36.ts.length).toArray 30), .obj g2 zC]) (X := U) (Y := (F37 ++ (F ++ Z))) hMs (zq (by simp) (zq (by simp) (zq (by simp) hnb))) hb62)
     refine ⟨_, rfl, ?_⟩
     intro a H
     refine zh (L' := (.obj g (rC L (q + n11 + 1 + n29 + n38 + n52) (((lg || bb) || b39))) :: .obj g48 (.cells (t36.d.cells t36.ts.length).toArray 30) :: .obj g2 (.cells (t2.d.cells t2.ts.length).toArray 30) :: (U ++ (made w60 w63 ++ (F37 ++ (F ++ Z)))))) H M rfl rfl (qy rfl rfl rfl (by kernel_rfl) M 2 rfl rfl rfl) 2 rfl rfl rfl ?_
     intro w64 M
     refine qa (hK61 _ _ (wp_ret (hret _ _ (en1 H rfl (zn M xw rfl 2 rfl (cs := [iV t2.d.k, iV t2.d.n, bV t2.d.y.q.b1, .slice t2.d.y.o1 t2.d.y.q.t1.length t2.d.y.c1, .slice t2.d.y.o2 t2.d.y.q.q1.length t2.d.y.c2, bV t2.d.y.q.b2, .slice t2.d.y.o3 t2.d.y.q.t2.length t2.d.y.c3, .slice t2.d.y.o4 t2.d.y.q.q2.length t2.d.y.c4, .string t2.d.s, .slice t2.d.ro t2.d.rl.length t2.d.rc, .slice t2.d.lo t2.ts.length t2.d.lc]) rfl rfl) ?_))))
     rw [Bool.or_assoc] at M
     refine .inr ⟨t2, made w60 w63 ++ (F37 ++ F), q + n11 + 1 - p + (n29 + n38 + n52), bb || b39, rfl, ⟨zha (by rw [hi.dot (by rw [hm12, b115h]) hb21, show dtX _ _ _ _ = some (t36.tr, (n29 + n38 + n52), b39) from by unfold dtX; rw [if_neg (by rw [qbe hb25]; decide), hs30, Option.bind_some, List.drop_drop, hd40, Option.bind_some, List.drop_drop, hm53, Option.bind_some, if_neg (show ¬ (false = true) by decide)]]; rfl) htt2, by omega, by omega⟩, ⟨by simp only [List.append_assoc]; exact hL2, Ob.app Ob.made (Ob.app hO44 hF)⟩, ?_⟩
     rw [show p + (q + n11 + 1 - p + (n29 + n38 + n52)) = q + n11 + 1 + n29 + n38 + n52 by omega]
     have h9 := M.sub (cc (cn (cn (.refl _))))
     simp only [List.append_assoc]
     exact h9
    ·
     refine sdo (v := bV false) H (za rfl zk) λa H↦?_
     refine qt H rfl rfl rfl (ef rfl rfl) (xq) ?_
     rintro _ w66 ⟨rfl, hp67⟩
     exact .inl ⟨_, rfl, hX _ _ _ _ _ H (.inl ⟨rfl, um (by rw [hi.dot (by rw [hm12, b115h]) hb21, show dtX _ _ _ _ = none from by unfold dtX; rw [if_neg (by rw [qbe hb25]; decide), hs30, Option.bind_some, List.drop_drop, hd40, Option.bind_some, List.drop_drop, hm53, Option.bind_some, if_pos rfl]]; rfl), _, _, (M.call hp67).sub (.cons_cons _ (.cons _ (.cons _ zgg)))⟩)⟩
   ·
    have hb25' := of_decide_eq_false hb25
    refine sdc H zs hb25 λa H↦?_
    refine qt H rfl rfl rfl (ef rfl rfl) (xq) ?_
    rintro _ w69 ⟨rfl, hp70⟩
    exact .inl ⟨_, rfl, hX _ _ _ _ _ H (.inl ⟨rfl, um (by rw [hi.dot (by rw [hm12, b115h]) hb21, show dtX _ _ _ _ = none from by unfold dtX; rw [if_pos (by rw [qbe hb25]; rfl)]]; rfl), _, _, (M.call hp70).sub (.cons_cons _ (.cons _ ym))⟩)⟩
  ·
   refine sct H (ef rfl rfl) (zhj (p := q + n11) (L := L) (T := (.obj g2 zC :: ((U1 ++ U) ++ (F ++ Z)))) hT (by omega) (by omega) hb21 M) ?_
   rintro _ w72 ⟨rfl, hM71⟩
   replace M : Mg w0 w72 (.obj g (rC L (q + n11) ((lg || bb))) :: .obj g2 zC :: ((U1 ++ U) ++ (F ++ Z))) := hM71
   refine ⟨_, rfl, ?_⟩
   intro a H
   refine qa (hK20 _ _ (cf H ?_))
   refine wp_skip (hK19 _ _ (wrl ?_))
   iterate 2 refine sdm H λa H↦?_
   refine qt H rfl rfl rfl (ef rfl rfl) ((ih f (by omega)).2 (U := (.obj g2 zC :: (U1 ++ U))) (Z := (F ++ Z)) hN (Cu.cons rfl (Cu.app hI.cu hUb)) (Ob.app hF hZ) (by omega) (by omega) (by omega) M) ?_
   rintro _ w83 (⟨rfl, hp84⟩ | ⟨t73, F74, n75, b76, rfl, ⟨hd77, hl78, hn79⟩, ⟨hL80, hO81⟩, hM82⟩)
   ·
    exact .inl ⟨_, rfl, hX _ _ _ _ _ H (.inl ⟨rfl, um (hi.no2 (by rw [hm12, b115h]) hb21 hp84.1), hp84.2.elim fun q9 h9 => h9.elim fun l9 h9 => ⟨q9, l9, h9.sub (.cons_cons _ (.cons _ ym))⟩⟩)⟩
   replace M : Mg w0 w83 (.obj g (rC L (q + n11 + n75) (((lg || bb) || b76))) :: .obj g2 zC :: ((U1 ++ U) ++ (F74 ++ (F ++ Z)))) := hM82
   refine .inr ⟨_, rfl, ?_⟩
   intro a H
   refine qph (e := 30) (sz := 11) (m := 1) (vs := t73.cells) H M rfl rfl rfl (jv rfl (by kernel_rfl)) rfl rfl (.inl (by decide)) ?_
   intro g85 w86 M a H
   replace M : Mg w0 w86 (.obj g (rC L (q + n11 + n75) (((lg || bb) || b76))) :: .row 30 11 (.slice (aO g85) 1 1) 1 t73.cells :: .obj g2 zC :: ((U1 ++ U) ++ (F74 ++ (F ++ Z)))) := M.bring 1 rfl rfl
   replace M : Mg w0 w86 (.row 30 11 (.slice (aO g85) 1 1) 1 t73.cells :: .obj g (rC L (q + n11 + n75) (((lg || bb) || b76))) :: .obj g2 zC :: ((U1 ++ U) ++ (F74 ++ (F ++ Z)))) := M.bring 1 rfl rfl
   replace M : Mg w0 w86 (.row 30 11 (.slice (aO g85) 1 1) 1 t73.cells :: .obj g (rC L (q + n11 + n75) (((lg || bb) || b76))) :: (U1 ++ (.obj g2 zC :: (U ++ (F74 ++ (F ++ Z)))))) := M.perm (by
    refine .cons _ (.cons _ ?_)
    show (_ :: ((U1 ++ U) ++ (F74 ++ (F ++ Z)))).Perm _
    rw [List.append_assoc]
    exact List.perm_middle.symm)
   refine zoh (e := 30) (m := (ts ++ [t73]).length) (ts := ts ++ [t73]) (c := .obj g (rC L (q + n11 + n75) (((lg || bb) || b76)))) (X := (.obj g2 zC :: (U ++ (F74 ++ (F ++ Z))))) H rfl rfl rfl (zog (z := .agg zD.toArray) (by_ := 192) Tryz.underlying28 (by kernel_rfl) rfl rfl rfl hI M (zq (by simp) (zq (by simp) (ke hUb.ob.nob (Ob.app hO81 (Ob.app hF hZ)).nob))) rfl rfl (by omega)) ?_
   intro so87 ca88 U89 w90 hI91 M a H
   replace M : Mg w0 w90 (.obj g (rC L (q + n11 + n75) (((lg || bb) || b76))) :: .obj g2 zC :: ((U89 ++ U) ++ (F74 ++ (F ++ Z)))) := M.perm (by
    refine .cons _ ?_
    show (U89 ++ (_ :: (U ++ (F74 ++ (F ++ Z))))).Perm (_ :: ((U89 ++ U) ++ (F74 ++ (F ++ Z))))
    rw [List.append_assoc]
    exact List.perm_middle)
   refine sda H λa H↦?_
   refine qa ?_
   replace M : Mg w0 w90 (.obj g2 zC :: .obj g (rC L (q + n11 + n75) (((lg || bb) || b76))) :: ((U89 ++ U) ++ (F74 ++ (F ++ Z)))) := M.bring 1 rfl rfl
   replace M : Mg w0 w90 (.obj g (rC L (q + n11 + n75) (((lg || bb) || b76))) :: .obj g2 zC :: ((U89 ++ U) ++ (F74 ++ (F ++ Z)))) := M.bring 1 rfl rfl
   have hta : ∀ x ∈ ts ++ [t73], Lv w0 ((F74 ++ F) ++ Z) x := by rw [List.append_assoc]; exact zrb hts hL80
   replace M : Mg w0 w90 (.obj g (rC L (q + n11 + n75) (((lg || bb) || b76))) :: .obj g2 zC :: ((U89 ++ U) ++ ((F74 ++ F) ++ Z))) := by rw [List.append_assoc F74 F Z]; exact M
   rw [Bool.or_assoc] at M
   refine hK7 _ _ _ (by omega) ⟨q + n11 + n75, f, so87, ca88, ts ++ [t73], U89, F74 ++ F, bb || b76, rfl, ⟨by omega, by omega, by omega, by rw [List.length_append, List.length_singleton]; omega, hI91, hta, Ob.app hO81 hF, by rw [List.map_append, List.map_singleton]; exact hi.go (by rw [hm12, b115h]) hb21 hd77⟩, H.keep _ ⟨rfl, rfl, rfl, rfl, trivial⟩, M⟩
 ·
  have b115h : b115 = false := by simpa using hc18
  refine wp_exit (hK5 _ _ (wsk fun K92 hK92 => wrl (sdm H λa H↦?_)))
  refine sdo (v := .agg #[iV 1, iV 0, bV false, .slice none 0 0, .slice none 0 0, bV false, .slice none 0 0, .slice none 0 0, .string (⟨#[]⟩), .slice none 0 0, .slice none 0 0]) H (qw rfl (fun w => by kernel_rfl)) λa H↦?_
  have hrt := hI.rt M (fun c hc => List.mem_cons_of_mem _ (List.mem_cons_of_mem _ (List.mem_append_left _ (List.mem_append_left _ hc))))
  have hMz := M.sub (cn (cn (List.sublist_append_right _ _)))
  have htz : ∀ x ∈ ts, Lv w0 (F ++ Z) x := hts
  have hnb : xk (U ++ (F ++ Z)) := ke hUb.ob.nob (Ob.app hF hZ).nob
  have hMs : Mg w0 w16 (.obj g (rC L (q + n11) ((lg || bb))) :: .obj g2 zC :: (U ++ (F ++ Z))) := M.sub (.cons_cons _ (.cons_cons _ (List.Sublist.append (List.sublist_append_right _ _) (.refl _))))
  refine sct H (ef rfl rfl) (qgj (ts := ts) (u := zja) hrt (fun x hx => htz x hx _ hMz) (qii _) (by omega)) ?_
  rintro _ w94 ⟨t2, rfl, ⟨hr2, htt2⟩, hb93, hst⟩
  have hL2 : Lv w0 (made w16 w94 ++ (F ++ Z)) t2 := zbe (K := fun w9 => (∀ x ∈ ts, x.rd w9) ∧ Dt.rd w9 zja) (fun w9 h9 hk => hst w9 h9 hk.1 hk.2) (fun w9 h9 => ⟨fun x hx => htz x hx w9 h9, qii w9⟩)
  replace M : Mg w0 w94 (.obj g (rC L (q + n11) ((lg || bb))) :: .obj g2 zC :: (U ++ (made w16 w94 ++ (F ++ Z)))) := (qqd (A := [.obj g (rC L (q + n11) ((lg || bb))), .obj g2 zC]) (X := U) (Y := (F ++ Z)) hMs (zq (by simp) (zq (by simp) hnb)) hb93)
  refine ⟨_, rfl, ?_⟩
  intro a H
  refine zh (L' := (.obj g (rC L (q + n11) ((lg || bb))) :: .obj g2 (.cells (t2.d.cells t2.ts.length).toArray 30) :: (U ++ (made w16 w94 ++ (F ++ Z))))) H M rfl rfl (qy rfl rfl rfl (by kernel_rfl) M 1 rfl rfl rfl) 1 rfl rfl rfl ?_
  intro w95 M
  refine qa (hK92 _ _ (wp_ret (hret _ _ (en1 H rfl (zn M xw rfl 1 rfl (cs := [iV t2.d.k, iV t2.d.n, bV t2.d.y.q.b1, .slice t2.d.y.o1 t2.d.y.q.t1.length t2.d.y.c1, .slice t2.d.y.o2 t2.d.y.q.q1.length t2.d.y.c2, bV t2.d.y.q.b2, .slice t2.d.y.o3 t2.d.y.q.t2.length t2.d.y.c3, .slice t2.d.y.o4 t2.d.y.q.q2.length t2.d.y.c4, .string t2.d.s, .slice t2.d.ro t2.d.rl.length t2.d.rc, .slice t2.d.lo t2.ts.length t2.d.lc]) rfl rfl) ?_))))
  refine .inr ⟨t2, made w16 w94 ++ F, q + n11 - p, bb, rfl, ⟨zha (hi.fin (by rw [hm12, b115h])) (by rw [htt2, zfj]), by omega, by have := zgj (by rw [hm12, b115h]); omega⟩, ⟨by simp only [List.append_assoc]; exact hL2, Ob.app Ob.made hF⟩, ?_⟩
  rw [show p + (q + n11 - p) = q + n11 by omega]
  have h9 := M.sub (cc (cn (.refl _)))
  simp only [List.append_assoc]
  exact h9
def byF (f : Nat) (ec : UInt8) (l : List UInt8) : Option (List UInt8 × Nat × Bool) := (itm f ec l).bind fun r => (byX r.1).map fun s => (s, r.2.1, r.2.2)
theorem qri {f n : Nat} {ec : UInt8} {l : List UInt8} {ts : List Tr} {b : Bool} (h : itm f ec l = some (ts, n, b)) (h2 : byX ts = none) : byF f ec l = none := by unfold byF; rw [h, Option.bind_some, h2]; rfl
theorem zxh {f n : Nat} {ec : UInt8} {l r : List UInt8} {ts : List Tr} {b : Bool} (h : itm f ec l = some (ts, n, b)) (h2 : byX ts = some r) : byF f ec l = some (r, n, b) := by unfold byF; rw [h, Option.bind_some, h2]; rfl
def BI (ts : List Tr) (i : Nat) (rl : List UInt8) : Prop := byX ts = (byX (ts.drop i)).map (rl ++ ·)
theorem jha (t : Dt) : t.tr.q = t.d.y.q := by cases t; rw [Dt.tr_mk]; rfl
theorem BI.go {ts : List Dt} {i : Nat} {rl : List UInt8} {t : Dt} {z e : Int} (h : BI (ts.map Dt.tr) i rl) (hi : ts[i]? = some t) (hz : ka t.d.y.q = (z, e)) (h0 : e = 0) (h1 : 0 ≤ z) (h2 : z ≤ 255) : BI (ts.map Dt.tr) (i + 1) (rl ++ [z.toNat.toUInt8]) := by
 unfold BI at h ⊢
 rw [h, yr hi, byX, jha, hz, if_pos ⟨h0, h1, h2⟩, Option.map_map]
 congr 1
 funext r
 show rl ++ (z.toNat.toUInt8 :: r) = rl ++ [z.toNat.toUInt8] ++ r
 rw [List.append_assoc]; rfl
theorem BI.no {ts : List Dt} {i : Nat} {rl : List UInt8} {t : Dt} {z e : Int} (h : BI (ts.map Dt.tr) i rl) (hi : ts[i]? = some t) (hz : ka t.d.y.q = (z, e)) (hn : ¬ (e = 0 ∧ 0 ≤ z ∧ z ≤ 255)) : byX (ts.map Dt.tr) = none := by
 unfold BI at h
 rw [h, yr hi, byX, jha, hz, if_neg hn]; rfl
theorem BI.fin {ts : List Dt} {i : Nat} {rl : List UInt8} (h : BI (ts.map Dt.tr) i rl) (hi : ¬ i < ts.length) : byX (ts.map Dt.tr) = some rl := by
 unfold BI at h
 rw [h, qgb hi, byX]
 show some (rl ++ []) = _
 rw [List.append_nil]
theorem jce {w : World} {t : Dt} (h : t.rd w) : t.d.y.nm w ∧ LenQ t.d.y.q := by
 cases t
 rw [Dt.rd_iff] at h
 exact ⟨h.1.num, h.1.len⟩
theorem jhb {w0 w : World} {v : Value} {rl : List UInt8} {L : List Ck} (M : Mg w0 w (.row BY 1 v rl.length (Lib.byteCells rl) :: L)) (hL : xk L) : ∃ ro rc R, v = .slice ro rl.length rc ∧ (rl.length ≤ rc ∧ rc ≤ 9223372036854775807) ∧ Ob R ∧ Mg w0 w (R ++ L) ∧ ∀ w9 Z, Mg w0 w9 (R ++ Z) → Rb w9 ro rl := by
 rcases zgb M hL with ⟨h1, h2, _, h4⟩ | ⟨g, cap, cur, h1, h2, h3, h4, h5, h6⟩
 ·
  refine ⟨none, 0, [], by rw [h1, h2], ⟨by omega, by omega⟩, Ob.nil, h4, fun w9 Z _ => ⟨fun h => absurd (List.length_eq_zero_iff.1 h2) h⟩⟩
 ·
  refine ⟨_, cap, [.obj g (.cells cur BY)], h1, ⟨h2, Nat.le_trans h3 (by decide)⟩, Ob.cons Ob.nil, h6, fun w9 Z h9 => ?_⟩
  have hh := h9.all _ List.mem_cons_self
  have hown : w9.ownsRow w0.heap.size BY 1 (.slice (aO g) rl.length cap) rl.length (Lib.byteCells rl) := ⟨by simp [Lib.byteCells], .inr ⟨g, cap, cur, rfl, hh.1, hh.2, h2, h3, h4, h5⟩⟩
  refine ⟨fun hne => ⟨g, 0, rfl, (Array.getElem?_eq_some_iff.1 hh.2).1, fun j hj => ?_⟩⟩
  rw [Nat.zero_add, World.ownsRow.cellAt hown j (by omega)]
  simp [Lib.byteCells, List.getD_eq_getElem?_getD, hj]
theorem jhc {w0 w : World} {c : Ck} {R U1 U F Z : List Ck} (h : Mg w0 w (R ++ (c :: ((U1 ++ U) ++ (F ++ Z))))) : Mg w0 w (c :: (U ++ ((R ++ F) ++ Z))) := by
 refine (h.sub (L' := R ++ (c :: (U ++ (F ++ Z)))) (.append (.refl _) (.cons_cons _ (.append (List.sublist_append_right _ _) (.refl _))))).perm ?_
 rw [List.append_assoc R F Z]
 exact List.perm_middle.trans (.cons _ (List.perm_append_comm_assoc _ _ _))
theorem zeb {P : Program} {s d : TypeId} (hs : P.underlying s = some (.int .i64)) (hd : P.underlying d = some (.int .u8)) {n : Int} (h0 : 0 ≤ n) (h1 : n ≤ 255) : ∀ w, (convert s d (iV n)).run P w = .ok (.int .u8 ((n.toNat.toUInt8.toNat : Nat) : Int)) w := fun w => by
 rw [ue h0 h1]
 simp [go_sem, run_underlying hs, run_underlying hd, convert]
 exact in_u8 h0 h1
def ByC (f0 : Nat) : Prop := ∀ {w0 w : World} {g p : Nat} {lg : Bool} {L : List UInt8} {U Z : List Ck} {ec : UInt8}, Env w0 → Cu U → Ob Z → p ≤ L.length → L.length ≤ 1000000000 → 2 * (L.length - p) + 2 ≤ f0 → Mg w0 w (.obj g (rC L p lg) :: (U ++ Z)) → Calls Tryz.prog 37 #[pA g 0, .string (tx [ec])] w fun e w' => (e = .panicked flt ∧ byF f0 ec (L.drop p) = none ∧ ∃ q lg2, Mg w0 w' (.obj g (rC L q lg2) :: (U ++ Z))) ∨ ∃ ro rl rc F n b, e = .returned (.slice ro (List.length rl) rc) ∧ (byF f0 ec (L.drop p) = some (rl, n, b) ∧ p + n ≤ L.length ∧ 1 ≤ n) ∧ ((∀ w9, Mg w0 w9 (F ++ Z) → Rb w9 ro rl) ∧ List.length rl ≤ rc ∧ rc ≤ 9223372036854775807 ∧ Ob F) ∧ Mg w0 w' (.obj g (rC L (p + n) ((lg || b))) :: (U ++ (F ++ Z)))
theorem zji {f0 : Nat} (ih : ∀ f, f < f0 → SkC f ∧ DaC f) : ByC f0 := by
 intro w0 w g p lg L U Z ec hN hU hZ hp hl hf0 hM0
 have hIt : ItC f0 := qoe ih
 have M : Mg w0 w (.obj g (rC L p lg) :: (U ++ Z)) := hM0
 refine ji (l := [(0, pA g 0), (1, .string ((tx ([ec]))))]) Tryz.func37 rfl Tryz.ntmps37 rfl rfl ?_
 intro Q hret hnorm hP hX a A
 refine wsk fun K1 hK1 => wrl (sda A λa A↦?_)
 refine qa (hK1 _ _ (wsk fun K2 hK2 => wrl (sda A λa A↦?_)))
 refine qa (hK2 _ _ (wsk fun K3 hK3 => wsk fun K4 hK4 => wrl ?_))
 iterate 2 refine sdm A λa A↦?_
 refine qt A rfl rfl rfl (ef rfl rfl) (hIt (U := U) (Z := Z) hN hU hZ (by omega) (by omega) (by omega) M) ?_
 rintro _ w20 (⟨rfl, hp21⟩ | ⟨so5, ca6, ts, U8, F9, n10, b11, rfl, ⟨hd12, hl13, hn14, hk15⟩, ⟨hI16, hts17, hO18⟩, hM19⟩)
 ·
  exact .inl ⟨_, rfl, hX _ _ _ _ _ A (.inl ⟨rfl, by unfold byF; rw [hp21.1]; rfl, hp21.2.elim fun q9 h9 => h9.elim fun l9 h9 => ⟨q9, l9, h9.sub (cc (.refl _))⟩⟩)⟩
 replace M : Mg w0 w20 (.obj g (rC L (p + n10) ((lg || b11))) :: ((U8 ++ U) ++ (F9 ++ Z))) := hM19
 refine .inr ⟨_, rfl, ?_⟩
 intro a A
 refine sdo A (zp Tryz.underlying28 rfl) λa A↦?_
 refine sdm A λa A↦?_
 refine qa (hK4 _ _ (wp_block ?_))
 have hnb : xk ((U8 ++ U) ++ (F9 ++ Z)) := ke (Cu.app hI16.cu hU).ob.nob (Ob.app hO18 hZ).nob
 replace M := M.nilRow (zq (by simp) hnb) BY 1
 replace M : Mg w0 w20 (.row BY 1 (.slice none 0 0) (([] : List UInt8).length) ((Lib.byteCells ([] : List UInt8))) :: .obj g (rC L (p + n10) ((lg || b11))) :: ((U8 ++ U) ++ (F9 ++ Z))) := M
 replace M : Mg w0 w20 (.obj g (rC L (p + n10) ((lg || b11))) :: .row BY 1 (.slice none 0 0) (([] : List UInt8).length) ((Lib.byteCells ([] : List UInt8))) :: ((U8 ++ U) ++ (F9 ++ Z))) := M.bring 1 rfl rfl
 refine jd (fun m_ a w1 => ∃ (i : Nat) (rl : List UInt8) (v : Value), m_ = 1 + (ts.length - i) ∧ (i ≤ ts.length ∧ rl.length = i ∧ BI (ts.map Dt.tr) i rl) ∧ Sl a 42 [(0, pA g 0), (1, .string ((tx ([ec])))), (4, .slice none 0 0), (5, v), (10, pA g 0), (11, .string ((tx ([ec])))), (12, .slice so5 ts.length ca6), (13, iV (((ts.length : Nat) : Int))), (14, iV (((i : Nat) : Int)))] ∧ Mg w0 w1 (.obj g (rC L (p + n10) ((lg || b11))) :: .row BY 1 (v) rl.length ((Lib.byteCells rl)) :: ((U8 ++ U) ++ (F9 ++ Z)))) _ ⟨0, [], .slice none 0 0, rfl, ⟨Nat.zero_le _, rfl, by unfold BI; rw [List.drop_zero]; simp⟩, A.keep _ (by repeat' constructor), M⟩ ?_
 clear M A
 rintro m_ a w22 ⟨i, rl, v, rfl, hinv24, A, M⟩ K23 hK23
 obtain ⟨hi0, hrl, hi⟩ := hinv24
 refine wsk fun K25 hK25 => wrl ?_
 rcases tf (decide (((i : Nat) : Int) < ((ts.length : Nat) : Int))) with hb26 | hb26
 ·
  have hb26' := of_decide_eq_true hb26
  refine sdc A jc hb26 λa A↦?_
  refine qa (hK25 _ _ (wsk fun K27 hK27 => wp_cond_true (A.ev rfl) ?_))
  refine wp_skip (hK27 _ _ (wsk fun K28 hK28 => wp_block (wsk fun K29 hK29 => wrl ?_)))
  have hrt := hI16.rt M (fun c hc => List.mem_cons_of_mem _ (List.mem_cons_of_mem _ (List.mem_append_left _ (List.mem_append_left _ hc))))
  obtain ⟨t1, b1, o1, hi1, hm1, hr1, hlo1, hH1⟩ := jgb hrt (fun x hx => hts17 x hx _ (M.sub (cn (cn (List.sublist_append_right _ _))))) (i := i) (by omega)
  obtain ⟨z, ez, hz⟩ : ∃ z e, ka t1.d.y.q = (z, e) := ⟨_, _, rfl⟩
  refine sdo (v := pA b1 (o1 + i * 11)) A (xh (k := i) Tryz.underlying28 (by kernel_rfl) rfl rfl rfl hlo1 (by omega)) λa A↦?_
  refine sdo A (jl rfl (va xw _ rfl (fun j v hj => hH1.2 j v hj))) λa A↦?_
  refine vr (vs := zD) (t := 30) A M rfl rfl rfl pg (ql (z := .agg zD.toArray) (by kernel_rfl) rfl) (by decide) ?_
  intro g30 w31 M a A
  refine zh (L' := (.obj g30 (.cells (t1.d.cells t1.ts.length).toArray 30) :: .obj g (rC L (p + n10) ((lg || b11))) :: .row BY 1 (v) rl.length ((Lib.byteCells rl)) :: ((U8 ++ U) ++ (F9 ++ Z)))) A M rfl rfl (qy rfl rfl rfl (by kernel_rfl) M 0 rfl rfl rfl) 0 rfl rfl rfl ?_
  intro w32 M
  refine qa (hK29 _ _ (wsk fun K33 hK33 => wrl (sdo (v := pA g30 2) A (qe zac rfl rfl) λa A↦?_)))
  refine sdo A (vd M zvb rfl 0 rfl (cs := [bV t1.d.y.q.b1, .slice t1.d.y.o1 t1.d.y.q.t1.length t1.d.y.c1, .slice t1.d.y.o2 t1.d.y.q.q1.length t1.d.y.c2, bV t1.d.y.q.b2, .slice t1.d.y.o3 t1.d.y.q.t2.length t1.d.y.c3, .slice t1.d.y.o4 t1.d.y.q.q2.length t1.d.y.c4]) rfl rfl) λa A↦?_
  have hnm := jce (hts17 t1 hm1 _ (M.sub (cn (cn (cn (List.sublist_append_right _ _))))))
  refine gcl A M (ef rfl rfl) ((by have h := zea hnm.1 hnm.2; rw [hz] at h; exact h)) fun w35 hb34 M a A => ?_
  refine sdm A λa A↦?_
  iterate 2 refine sdo A (qh (vs := [iV z, iV ez]) rfl rfl) λa A↦?_
  iterate 2 refine sda A λa A↦?_
  refine qa (hK33 _ _ (wsk fun K36 hK36 => wrl (sdm A λa A↦?_)))
  rcases tf ((ez == 0)) with hb37 | hb37
  ·
   have hb37' := eq_of_beq hb37
   refine sdc A qj hb37 λa A↦?_
   iterate 2 refine sdm A λa A↦?_
   rcases tf (decide (0 ≤ z)) with hb38 | hb38
   ·
    have hb38' := of_decide_eq_true hb38
    refine sdc A jf hb38 λa A↦?_
    refine sdk (v := bV true) A λa A↦?_
    iterate 2 refine sdm A λa A↦?_
    rcases tf (decide (z ≤ 255)) with hb39 | hb39
    ·
     have hb39' := of_decide_eq_true hb39
     refine sdc A jk hb39 λa A↦?_
     refine sdk (v := bV true) A λa A↦?_
     refine gcl A M (ef rfl rfl) (vm) fun w41 hb40 M a A => ?_
     refine qa (hK36 _ _ (wrl ?_))
     iterate 2 refine sdm A λa A↦?_
     refine sdo (v := .int .u8 (((z.toNat.toUInt8.toNat : Nat) : Int))) A (zu rfl (zeb Tryz.underlying3 Tryz.underlying5 (by omega) (by omega))) λa A↦?_
     refine jfd (vs := [.int .u8 (((z.toNat.toUInt8.toNat : Nat) : Int))]) A M rfl rfl rfl (jv rfl (by kernel_rfl)) rfl rfl (zq (by simp) (zq (by simp) (zq (by simp) hnb))) ?_
     intro g42 w43 M a A
     refine qta (k := 3) (q := rl.length) (m := 1) (xs := (Lib.byteCells rl)) (news := [.int .u8 (((z.toNat.toUInt8.toNat : Nat) : Int))]) (L' := fun v44 => (.row BY 1 (.slice (aO g42) 1 1) 1 ([.int .u8 (((z.toNat.toUInt8.toNat : Nat) : Int))]) :: .obj g30 (.cells (t1.d.cells t1.ts.length).toArray 30) :: .obj g (rC L (p + n10) ((lg || b11))) :: .row BY 1 (v44) (rl.length + 1) ((Lib.byteCells rl) ++ [.int .u8 (((z.toNat.toUInt8.toNat : Nat) : Int))]) :: ((U8 ++ U) ++ (F9 ++ Z)))) A rfl rfl rfl (zmi Tryz.underlying27 (by kernel_rfl) M 3 rfl rfl 0 rfl rfl rfl rfl (by omega)) (fun _ => rfl) ?_
     intro v44 w45 M a A
     refine sda A λa A↦?_
     refine qa (hK28 _ _ (wrl (sdo (v := iV (((i + 1 : Nat) : Int))) A (qb rfl rfl (ar_add ((in_i64 (by omega) (by omega)).trans (by omega)))) λa A↦?_)))
     refine sdm A λa A↦?_
     refine qa ?_
     replace M : Mg w0 w45 (.row BY 1 (v44) (rl.length + 1) ((Lib.byteCells rl) ++ [.int .u8 (((z.toNat.toUInt8.toNat : Nat) : Int))]) :: .row BY 1 (.slice (aO g42) 1 1) 1 ([.int .u8 (((z.toNat.toUInt8.toNat : Nat) : Int))]) :: .obj g30 (.cells (t1.d.cells t1.ts.length).toArray 30) :: .obj g (rC L (p + n10) ((lg || b11))) :: ((U8 ++ U) ++ (F9 ++ Z))) := M.bring 3 rfl rfl
     replace M : Mg w0 w45 (.obj g (rC L (p + n10) ((lg || b11))) :: .row BY 1 (v44) (rl.length + 1) ((Lib.byteCells rl) ++ [.int .u8 (((z.toNat.toUInt8.toNat : Nat) : Int))]) :: .row BY 1 (.slice (aO g42) 1 1) 1 ([.int .u8 (((z.toNat.toUInt8.toNat : Nat) : Int))]) :: .obj g30 (.cells (t1.d.cells t1.ts.length).toArray 30) :: ((U8 ++ U) ++ (F9 ++ Z))) := M.bring 3 rfl rfl
     replace M : Mg w0 w45 (.obj g (rC L (p + n10) ((lg || b11))) :: .row BY 1 (v44) (rl.length + 1) ((Lib.byteCells rl) ++ [.int .u8 (((z.toNat.toUInt8.toNat : Nat) : Int))]) :: ((U8 ++ U) ++ (F9 ++ Z))) := M.sub (cc (cc (cn (cn (.refl _)))))
     replace M : Mg w0 w45 (.obj g (rC L (p + n10) ((lg || b11))) :: .row BY 1 (v44) ((rl ++ [z.toNat.toUInt8]).length) ((Lib.byteCells (rl ++ [z.toNat.toUInt8]))) :: ((U8 ++ U) ++ (F9 ++ Z))) := by rw [List.length_append, Lib.byteCells_append]; exact M
     refine hK23 _ _ _ (by omega) ⟨i + 1, rl ++ [z.toNat.toUInt8], v44, rfl, ⟨by omega, by rw [List.length_append, hrl]; rfl, hi.go hi1 hz (by omega) (by omega) (by omega)⟩, A.keep _ (by repeat' constructor), M⟩
    ·
     have hb39' := of_decide_eq_false hb39
     refine sdc A jk hb39 λa A↦?_
     refine sdk (v := bV false) A λa A↦?_
     replace M : Mg w0 w35 (.obj g (rC L (p + n10) ((lg || b11))) :: .obj g30 (.cells (t1.d.cells t1.ts.length).toArray 30) :: .row BY 1 (v) rl.length ((Lib.byteCells rl)) :: ((U8 ++ U) ++ (F9 ++ Z))) := M.bring 1 rfl rfl
     refine qt A rfl rfl rfl (ef rfl rfl) (xq) ?_
     rintro _ w47 ⟨rfl, hp48⟩
     exact .inl ⟨_, rfl, hX _ _ _ _ _ A (.inl ⟨rfl, qri hd12 (hi.no hi1 hz (by omega)), _, _, (M.call hp48).sub (.cons_cons _ (.cons _ (.cons _ ym)))⟩)⟩
   ·
    have hb38' := of_decide_eq_false hb38
    refine sdc A jf hb38 λa A↦?_
    refine sdk (v := bV false) A λa A↦?_
    refine sdm A λa A↦?_
    iterate 2 refine qi A rfl rfl rfl λa A↦?_
    refine sdk (v := bV false) A λa A↦?_
    replace M : Mg w0 w35 (.obj g (rC L (p + n10) ((lg || b11))) :: .obj g30 (.cells (t1.d.cells t1.ts.length).toArray 30) :: .row BY 1 (v) rl.length ((Lib.byteCells rl)) :: ((U8 ++ U) ++ (F9 ++ Z))) := M.bring 1 rfl rfl
    refine qt A rfl rfl rfl (ef rfl rfl) (xq) ?_
    rintro _ w50 ⟨rfl, hp51⟩
    exact .inl ⟨_, rfl, hX _ _ _ _ _ A (.inl ⟨rfl, qri hd12 (hi.no hi1 hz (by omega)), _, _, (M.call hp51).sub (.cons_cons _ (.cons _ (.cons _ ym)))⟩)⟩
  ·
   have hb37' := ne_of_beq_false hb37
   refine sdc A qj hb37 λa A↦?_
   refine sdm A λa A↦?_
   iterate 2 refine qi A rfl rfl rfl λa A↦?_
   refine sdk (v := bV false) A λa A↦?_
   refine sdm A λa A↦?_
   iterate 2 refine qi A rfl rfl rfl λa A↦?_
   refine sdk (v := bV false) A λa A↦?_
   replace M : Mg w0 w35 (.obj g (rC L (p + n10) ((lg || b11))) :: .obj g30 (.cells (t1.d.cells t1.ts.length).toArray 30) :: .row BY 1 (v) rl.length ((Lib.byteCells rl)) :: ((U8 ++ U) ++ (F9 ++ Z))) := M.bring 1 rfl rfl
   refine qt A rfl rfl rfl (ef rfl rfl) (xq) ?_
   rintro _ w53 ⟨rfl, hp54⟩
   exact .inl ⟨_, rfl, hX _ _ _ _ _ A (.inl ⟨rfl, qri hd12 (hi.no hi1 hz (by omega)), _, _, (M.call hp54).sub (.cons_cons _ (.cons _ (.cons _ ym)))⟩)⟩
 ·
  have hb26' := of_decide_eq_false hb26
  refine sdc A jc hb26 λa A↦?_
  refine qa (hK25 _ _ (wsk fun K55 hK55 => wp_cond_false (A.ev rfl) ?_))
  refine wp_exit (hK3 _ _ (wsk fun K56 hK56 => wrl (sdm A λa A↦?_)))
  refine sda A λa A↦?_
  refine qa (hK56 _ _ (wr1 hret A ?_))
  replace M : Mg w0 w22 (.row BY 1 (v) rl.length ((Lib.byteCells rl)) :: .obj g (rC L (p + n10) ((lg || b11))) :: ((U8 ++ U) ++ (F9 ++ Z))) := M.bring 1 rfl rfl
  obtain ⟨ro, rc, R, rfl, hrc, hR, hM9, hRb⟩ := jhb M (zq (by simp) hnb)
  refine .inr ⟨ro, rl, rc, R ++ F9, n10, b11, rfl, ⟨zxh hd12 (hi.fin (by omega)), by omega, hn14⟩, ⟨fun w9 h9 => hRb w9 (F9 ++ Z) (by rw [List.append_assoc] at h9; exact h9), hrc.1, hrc.2, Ob.app hR hO18⟩, jhc hM9⟩
theorem zxi {a : Ck} {U1 U Y : List Ck} : ((U1 ++ (a :: U)) ++ Y).Perm (a :: ((U1 ++ U) ++ Y)) := by
 rw [List.append_assoc, List.append_assoc]
 exact List.perm_middle
theorem zrd {U1 U F Z : List Ck} : ((U1 ++ U) ++ (F ++ Z)).Perm (U ++ ((U1 ++ F) ++ Z)) := by
 rw [List.append_assoc, List.append_assoc]
 exact List.perm_append_comm_assoc _ _ _
def zxj (so : Option Addr) (ca : Nat) (ts : List Dt) : Dt := .mk ⟨9, 0, zNu, ⟨#[]⟩, none, 0, [], so, ca⟩ ts
theorem jcf (so : Option Addr) (ca : Nat) (ts : List Dt) : (zxj so ca ts).tr = jcd (ts.map Dt.tr) := by unfold zxj jcd; rw [Dt.tr_mk]; rfl
theorem jcg {w0 : World} {e : TypeId} {so : Option Addr} {ca : Nat} {ts : List Dt} {U1 F Z : List Ck} (hI : IR e so ca ts U1) (hts : ∀ t ∈ ts, Lv w0 (F ++ Z) t) : Lv w0 ((U1 ++ F) ++ Z) (zxj so ca ts) := fun w9 h9 => by
 rw [List.append_assoc] at h9
 exact Dt.rd_iff.2 ⟨⟨zdh w9, yu, ⟨fun h => absurd rfl h⟩, Nat.le_refl _, Nat.zero_le _, (show (-9223372036854775808 : Int) ≤ 9 by decide), (show (9 : Int) ≤ 9223372036854775807 by decide), (show (-9223372036854775808 : Int) ≤ 0 by decide), (show (0 : Int) ≤ 9223372036854775807 by decide), (show (0 : Nat) ≤ 9223372036854775807 by decide)⟩, hI.cap.1, hI.cap.2, hI.rt h9 (fun c hc => List.mem_append_left _ hc), fun t ht => hts t ht w9 (h9.sub (List.sublist_append_right _ _))⟩
def zya (ro : Option Addr) (rc : Nat) (rl : List UInt8) : Dt := .mk ⟨7, 0, zNu, ⟨#[]⟩, ro, rc, rl, none, 0⟩ []
theorem jch (ro : Option Addr) (rc : Nat) (rl : List UInt8) : (zya ro rc rl).tr = zqg rl := by unfold zya zqg; rw [Dt.tr_mk]; rfl
theorem jci {w0 : World} {Z : List Ck} {ro : Option Addr} {rc : Nat} {rl : List UInt8} (h : ∀ w9, Mg w0 w9 Z → Rb w9 ro rl) (h1 : rl.length ≤ rc) (h2 : rc ≤ 9223372036854775807) : Lv w0 Z (zya ro rc rl) := fun w9 h9 =>
 Dt.rd_iff.2 ⟨⟨zdh w9, yu, h w9 h9, h1, h2, (show (-9223372036854775808 : Int) ≤ 7 by decide), (show (7 : Int) ≤ 9223372036854775807 by decide), (show (-9223372036854775808 : Int) ≤ 0 by decide), (show (0 : Int) ≤ 9223372036854775807 by decide), (show (0 : Nat) ≤ 9223372036854775807 by decide)⟩, Nat.le_refl _, Nat.zero_le _, fun h => absurd rfl h, fun t h => by cases h⟩
theorem qrj {f : Nat} {ec : UInt8} {l : List UInt8} : ((lst f ec true l).map fun r => (yw r.1 r.2.1, r.2.2.1 + 1, r.2.2.2)) = (lsX f ec l).map fun r => (r.1, r.2.1 + 1, r.2.2) := by unfold lsX; rw [Option.map_map]; rfl
theorem zre {f : Nat} {ec : UInt8} {l : List UInt8} : ((itm f ec l).bind fun r => (byX r.1).map fun s => (zqg s, r.2.1 + 5, r.2.2)) = (byF f ec l).map fun r => (zqg r.1, r.2.1 + 5, r.2.2) := by
 unfold byF
 cases itm f ec l with
 | none => rfl
 | some r =>
  show (byX r.1).map _ = ((byX r.1).map _).map _
  rw [Option.map_map]; rfl
theorem zjj {f0 : Nat} (ih : ∀ f, f < f0 → SkC f ∧ DaC f) : DaC f0 := by
 intro w0 w g p lg L U Z hN hU hZ hp hl hf0 hM0
 obtain ⟨f, rfl⟩ : ∃ f, f0 = f + 1 := ⟨f0 - 1, by omega⟩
 have hLi : LiC f := zrc (fun f1 h1 => ih f1 (by omega))
 have hIt : ItC f := qoe (fun f1 h1 => ih f1 (by omega))
 have hBy : ByC f := zji (fun f1 h1 => ih f1 (by omega))
 have hSk : SkC f := (ih f (by omega)).1
 have hDa : DaC f := (ih f (by omega)).2
 have hT := hN.tb
 have M : Mg w0 w (.obj g (rC L p lg) :: (U ++ Z)) := hM0
 refine ji (l := [(0, pA g 0)]) Tryz.func22 rfl Tryz.ntmps22 rfl rfl ?_
 intro Q hret hnorm hP hX a A
 refine wsk fun K1 hK1 => wrl (vr (vs := zD) (t := 30) A M rfl rfl rfl pg (ql (z := .agg zD.toArray) (by kernel_rfl) rfl) (by decide) ?_)
 intro g2 w3 M a A
 refine qa (hK1 _ _ (wsk fun K4 hK4 => wp_block (wsk fun K5 hK5 => wrl (sdm A λa A↦?_))))
 rcases tf (Lib.hasPrefix (L.drop p) [40]) with hb6 | hb6
 ·
  replace M : Mg w0 w3 (.obj g (rC L p lg) :: .obj g2 zC :: (U ++ Z)) := M.bring 1 rfl rfl
  have htl8 : 1 ≤ (L.drop p).length := (List.isPrefixOf_iff_prefix.1 hb6).length_le
  rw [List.length_drop] at htl8
  refine sct A (ef rfl rfl) (xv (p := p) (L := L) (T := (.obj g2 zC :: (U ++ Z))) (by omega) (by omega) hb6 M) ?_
  rintro _ w9 ⟨rfl, hM7⟩
  replace M : Mg w0 w9 (.obj g (rC L (p + 1) lg) :: .obj g2 zC :: (U ++ Z)) := hM7
  refine ⟨_, rfl, ?_⟩
  intro a A
  refine sda A λa A↦?_
  refine qa (hK5 _ _ (ct A ?_))
  refine wsk fun K10 hK10 => wrl (sdm A λa A↦?_)
  refine qt A rfl rfl rfl (ef rfl rfl) (hLi (U := (.obj g2 zC :: U)) (Z := Z) hN (Cu.cons rfl hU) hZ (by omega) (by omega) (by omega) M) ?_
  rintro _ w21 (⟨rfl, hp22⟩ | ⟨t11, F12, n13, b14, rfl, ⟨hd15, hl16, hn17⟩, ⟨hL18, hO19⟩, hM20⟩)
  ·
   exact .inl ⟨_, rfl, hX _ _ _ _ _ A (.inl ⟨rfl, by rw [dat, if_pos hb6]; rw [qrj, List.drop_drop, hp22.1]; rfl, hp22.2.elim fun q9 h9 => h9.elim fun l9 h9 => ⟨q9, l9, h9.sub (cc (cn (.refl _)))⟩⟩)⟩
  replace M : Mg w0 w21 (.obj g (rC L (p + 1 + n13) ((lg || b14))) :: .obj g2 zC :: (U ++ (F12 ++ Z))) := hM20
  refine .inr ⟨_, rfl, ?_⟩
  intro a A
  refine zh (L' := (.obj g (rC L (p + 1 + n13) ((lg || b14))) :: .obj g2 (.cells (t11.d.cells t11.ts.length).toArray 30) :: (U ++ (F12 ++ Z)))) A M rfl rfl (qy rfl rfl rfl (by kernel_rfl) M 1 rfl rfl rfl) 1 rfl rfl rfl ?_
  intro w23 M
  refine qa (hK10 _ _ (wp_ret (hret _ _ (en1 A rfl (zn M xw rfl 1 rfl (cs := [iV t11.d.k, iV t11.d.n, bV t11.d.y.q.b1, .slice t11.d.y.o1 t11.d.y.q.t1.length t11.d.y.c1, .slice t11.d.y.o2 t11.d.y.q.q1.length t11.d.y.c2, bV t11.d.y.q.b2, .slice t11.d.y.o3 t11.d.y.q.t2.length t11.d.y.c3, .slice t11.d.y.o4 t11.d.y.q.q2.length t11.d.y.c4, .string t11.d.s, .slice t11.d.ro t11.d.rl.length t11.d.rc, .slice t11.d.lo t11.ts.length t11.d.lc]) rfl rfl) ?_))))
  refine .inr ⟨t11, F12, n13 + 1, b14, rfl, ⟨by rw [dat, if_pos hb6]; rw [qrj, List.drop_drop, hd15]; rfl, by omega, by omega⟩, ⟨hL18, hO19⟩, ?_⟩
  rw [show p + (n13 + 1) = p + 1 + n13 by omega]
  exact M.sub (cc (cn (.refl _)))
 ·
  replace M : Mg w0 w3 (.obj g (rC L p lg) :: .obj g2 zC :: (U ++ Z)) := M.bring 1 rfl rfl
  refine sct A (ef rfl rfl) (ve (p := p) (L := L) (T := (.obj g2 zC :: (U ++ Z))) (by omega) (by omega) hb6 M) ?_
  rintro _ w25 ⟨rfl, hM24⟩
  replace M : Mg w0 w25 (.obj g (rC L p lg) :: .obj g2 zC :: (U ++ Z)) := hM24
  refine ⟨_, rfl, ?_⟩
  intro a A
  refine sda A λa A↦?_
  refine qa (hK5 _ _ (cf A ?_))
  refine wsk fun K26 hK26 => wrl (sdm A λa A↦?_)
  rcases tf (Lib.hasPrefix (L.drop p) [91]) with hb27 | hb27
  ·
   have htl29 : 1 ≤ (L.drop p).length := (List.isPrefixOf_iff_prefix.1 hb27).length_le
   rw [List.length_drop] at htl29
   refine sct A (ef rfl rfl) (xv (p := p) (L := L) (T := (.obj g2 zC :: (U ++ Z))) (by omega) (by omega) hb27 M) ?_
   rintro _ w30 ⟨rfl, hM28⟩
   replace M : Mg w0 w30 (.obj g (rC L (p + 1) lg) :: .obj g2 zC :: (U ++ Z)) := hM28
   refine ⟨_, rfl, ?_⟩
   intro a A
   refine sda A λa A↦?_
   refine qa (hK26 _ _ (ct A ?_))
   refine wsk fun K31 hK31 => wrl (sdm A λa A↦?_)
   refine qt A rfl rfl rfl (ef rfl rfl) (hLi (U := (.obj g2 zC :: U)) (Z := Z) hN (Cu.cons rfl hU) hZ (by omega) (by omega) (by omega) M) ?_
   rintro _ w42 (⟨rfl, hp43⟩ | ⟨t32, F33, n34, b35, rfl, ⟨hd36, hl37, hn38⟩, ⟨hL39, hO40⟩, hM41⟩)
   ·
    exact .inl ⟨_, rfl, hX _ _ _ _ _ A (.inl ⟨rfl, by rw [dat, if_neg (by rw [hb6]; decide), if_pos hb27]; rw [qrj, List.drop_drop, hp43.1]; rfl, hp43.2.elim fun q9 h9 => h9.elim fun l9 h9 => ⟨q9, l9, h9.sub (cc (cn (.refl _)))⟩⟩)⟩
   replace M : Mg w0 w42 (.obj g (rC L (p + 1 + n34) ((lg || b35))) :: .obj g2 zC :: (U ++ (F33 ++ Z))) := hM41
   refine .inr ⟨_, rfl, ?_⟩
   intro a A
   refine zh (L' := (.obj g (rC L (p + 1 + n34) ((lg || b35))) :: .obj g2 (.cells (t32.d.cells t32.ts.length).toArray 30) :: (U ++ (F33 ++ Z)))) A M rfl rfl (qy rfl rfl rfl (by kernel_rfl) M 1 rfl rfl rfl) 1 rfl rfl rfl ?_
   intro w44 M
   refine qa (hK31 _ _ (wp_ret (hret _ _ (en1 A rfl (zn M xw rfl 1 rfl (cs := [iV t32.d.k, iV t32.d.n, bV t32.d.y.q.b1, .slice t32.d.y.o1 t32.d.y.q.t1.length t32.d.y.c1, .slice t32.d.y.o2 t32.d.y.q.q1.length t32.d.y.c2, bV t32.d.y.q.b2, .slice t32.d.y.o3 t32.d.y.q.t2.length t32.d.y.c3, .slice t32.d.y.o4 t32.d.y.q.q2.length t32.d.y.c4, .string t32.d.s, .slice t32.d.ro t32.d.rl.length t32.d.rc, .slice t32.d.lo t32.ts.length t32.d.lc]) rfl rfl) ?_))))
   refine .inr ⟨t32, F33, n34 + 1, b35, rfl, ⟨by rw [dat, if_neg (by rw [hb6]; decide), if_pos hb27]; rw [qrj, List.drop_drop, hd36]; rfl, by omega, by omega⟩, ⟨hL39, hO40⟩, ?_⟩
   rw [show p + (n34 + 1) = p + 1 + n34 by omega]
   exact M.sub (cc (cn (.refl _)))
  ·
   refine sct A (ef rfl rfl) (ve (p := p) (L := L) (T := (.obj g2 zC :: (U ++ Z))) (by omega) (by omega) hb27 M) ?_
   rintro _ w46 ⟨rfl, hM45⟩
   replace M : Mg w0 w46 (.obj g (rC L p lg) :: .obj g2 zC :: (U ++ Z)) := hM45
   refine ⟨_, rfl, ?_⟩
   intro a A
   refine sda A λa A↦?_
   refine qa (hK26 _ _ (cf A ?_))
   refine wsk fun K47 hK47 => wrl (sdm A λa A↦?_)
   rcases tf (Lib.hasPrefix (L.drop p) [35, 40]) with hb48 | hb48
   ·
    have htl50 : 2 ≤ (L.drop p).length := (List.isPrefixOf_iff_prefix.1 hb48).length_le
    rw [List.length_drop] at htl50
    refine sct A (ef rfl rfl) (xv (p := p) (L := L) (T := (.obj g2 zC :: (U ++ Z))) (by omega) (by omega) hb48 M) ?_
    rintro _ w51 ⟨rfl, hM49⟩
    replace M : Mg w0 w51 (.obj g (rC L (p + 2) lg) :: .obj g2 zC :: (U ++ Z)) := hM49
    refine ⟨_, rfl, ?_⟩
    intro a A
    refine sda A λa A↦?_
    refine qa (hK47 _ _ (ct A ?_))
    refine wsk fun K52 hK52 => wrl (sdm A λa A↦?_)
    refine qt A rfl rfl rfl (ef rfl rfl) (hIt (U := (.obj g2 zC :: U)) (Z := Z) hN (Cu.cons rfl hU) hZ (by omega) (by omega) (by omega) M) ?_
    rintro _ w68 (⟨rfl, hp69⟩ | ⟨so53, ca54, ts, U56, F57, n58, b59, rfl, ⟨hd60, hl61, hn62, hk63⟩, ⟨hI64, hts65, hO66⟩, hM67⟩)
    ·
     exact .inl ⟨_, rfl, hX _ _ _ _ _ A (.inl ⟨rfl, by rw [dat, if_neg (by rw [hb6]; decide), if_neg (by rw [hb27]; decide), if_pos hb48]; rw [List.drop_drop, hp69.1]; rfl, hp69.2.elim fun q9 h9 => h9.elim fun l9 h9 => ⟨q9, l9, h9.sub (cc (cn (.refl _)))⟩⟩)⟩
    replace M : Mg w0 w68 (.obj g (rC L (p + 2 + n58) ((lg || b59))) :: .obj g2 zC :: ((U56 ++ U) ++ (F57 ++ Z))) := (hM67.perm (List.Perm.cons _ zxi))
    refine .inr ⟨_, rfl, ?_⟩
    intro a A
    refine sdo (v := .agg #[iV 9, iV 0, bV false, .slice none 0 0, .slice none 0 0, bV false, .slice none 0 0, .slice none 0 0, .string (⟨#[]⟩), .slice none 0 0, .slice so53 ts.length ca54]) A (qw rfl (fun w => by kernel_rfl)) λa A↦?_
    refine zh (L' := (.obj g (rC L (p + 2 + n58) ((lg || b59))) :: .obj g2 (.cells #[iV 9, iV 0, bV false, .slice none 0 0, .slice none 0 0, bV false, .slice none 0 0, .slice none 0 0, .string (⟨#[]⟩), .slice none 0 0, .slice so53 ts.length ca54] 30) :: ((U56 ++ U) ++ (F57 ++ Z)))) A M rfl rfl (qy rfl rfl rfl (by kernel_rfl) M 1 rfl rfl rfl) 1 rfl rfl rfl ?_
    intro w70 M
    refine qa (hK52 _ _ (wp_ret (hret _ _ (en1 A rfl (zn M xw rfl 1 rfl (cs := [iV 9, iV 0, bV false, .slice none 0 0, .slice none 0 0, bV false, .slice none 0 0, .slice none 0 0, .string (⟨#[]⟩), .slice none 0 0, .slice so53 ts.length ca54]) rfl rfl) ?_))))
    refine .inr ⟨zxj so53 ca54 ts, U56 ++ F57, n58 + 2, b59, rfl, ⟨by rw [dat, if_neg (by rw [hb6]; decide), if_neg (by rw [hb27]; decide), if_pos hb48]; rw [List.drop_drop, hd60, jcf]; rfl, by omega, by omega⟩, ⟨jcg hI64 hts65, Ob.app hI64.cu.ob hO66⟩, ?_⟩
    rw [show p + (n58 + 2) = p + 2 + n58 by omega]
    exact (M.sub (cc (cn (.refl _)))).perm (.cons _ zrd)
   ·
    refine sct A (ef rfl rfl) (ve (p := p) (L := L) (T := (.obj g2 zC :: (U ++ Z))) (by omega) (by omega) hb48 M) ?_
    rintro _ w72 ⟨rfl, hM71⟩
    replace M : Mg w0 w72 (.obj g (rC L p lg) :: .obj g2 zC :: (U ++ Z)) := hM71
    refine ⟨_, rfl, ?_⟩
    intro a A
    refine sda A λa A↦?_
    refine qa (hK47 _ _ (cf A ?_))
    refine wsk fun K73 hK73 => wrl (sdm A λa A↦?_)
    rcases tf (Lib.hasPrefix (L.drop p) [35, 118, 117, 56, 40]) with hb74 | hb74
    ·
     have htl76 : 5 ≤ (L.drop p).length := (List.isPrefixOf_iff_prefix.1 hb74).length_le
     rw [List.length_drop] at htl76
     refine sct A (ef rfl rfl) (xv (p := p) (L := L) (T := (.obj g2 zC :: (U ++ Z))) (by omega) (by omega) hb74 M) ?_
     rintro _ w77 ⟨rfl, hM75⟩
     replace M : Mg w0 w77 (.obj g (rC L (p + 5) lg) :: .obj g2 zC :: (U ++ Z)) := hM75
     refine ⟨_, rfl, ?_⟩
     intro a A
     refine sda A λa A↦?_
     refine qa (hK73 _ _ (ct A ?_))
     refine wsk fun K78 hK78 => wrl (sdm A λa A↦?_)
     refine qt A rfl rfl rfl (ef rfl rfl) (hBy (U := (.obj g2 zC :: U)) (Z := Z) hN (Cu.cons rfl hU) hZ (by omega) (by omega) (by omega) M) ?_
     rintro _ w93 (⟨rfl, hp94⟩ | ⟨ro79, rl80, rc81, F82, n83, b84, rfl, ⟨hd85, hl86, hn87⟩, ⟨hR88, hc89, hc90, hO91⟩, hM92⟩)
     ·
      exact .inl ⟨_, rfl, hX _ _ _ _ _ A (.inl ⟨rfl, by rw [dat, if_neg (by rw [hb6]; decide), if_neg (by rw [hb27]; decide), if_neg (by rw [hb48]; decide), if_pos hb74]; rw [zre, List.drop_drop, hp94.1]; rfl, hp94.2.elim fun q9 h9 => h9.elim fun l9 h9 => ⟨q9, l9, h9.sub (cc (cn (.refl _)))⟩⟩)⟩
     replace M : Mg w0 w93 (.obj g (rC L (p + 5 + n83) ((lg || b84))) :: .obj g2 zC :: (U ++ (F82 ++ Z))) := hM92
     refine .inr ⟨_, rfl, ?_⟩
     intro a A
     refine sdo (v := .agg #[iV 7, iV 0, bV false, .slice none 0 0, .slice none 0 0, bV false, .slice none 0 0, .slice none 0 0, .string (⟨#[]⟩), .slice ro79 rl80.length rc81, .slice none 0 0]) A (qw rfl (fun w => by kernel_rfl)) λa A↦?_
     refine zh (L' := (.obj g (rC L (p + 5 + n83) ((lg || b84))) :: .obj g2 (.cells #[iV 7, iV 0, bV false, .slice none 0 0, .slice none 0 0, bV false, .slice none 0 0, .slice none 0 0, .string (⟨#[]⟩), .slice ro79 rl80.length rc81, .slice none 0 0] 30) :: (U ++ (F82 ++ Z)))) A M rfl rfl (qy rfl rfl rfl (by kernel_rfl) M 1 rfl rfl rfl) 1 rfl rfl rfl ?_
     intro w95 M
     refine qa (hK78 _ _ (wp_ret (hret _ _ (en1 A rfl (zn M xw rfl 1 rfl (cs := [iV 7, iV 0, bV false, .slice none 0 0, .slice none 0 0, bV false, .slice none 0 0, .slice none 0 0, .string (⟨#[]⟩), .slice ro79 rl80.length rc81, .slice none 0 0]) rfl rfl) ?_))))
     refine .inr ⟨zya ro79 rc81 rl80, F82, n83 + 5, b84, rfl, ⟨by rw [dat, if_neg (by rw [hb6]; decide), if_neg (by rw [hb27]; decide), if_neg (by rw [hb48]; decide), if_pos hb74]; rw [zre, List.drop_drop, hd85, jch]; rfl, by omega, by omega⟩, ⟨jci hR88 hc89 hc90, hO91⟩, ?_⟩
     rw [show p + (n83 + 5) = p + 5 + n83 by omega]
     exact M.sub (cc (cn (.refl _)))
    ·
     refine sct A (ef rfl rfl) (ve (p := p) (L := L) (T := (.obj g2 zC :: (U ++ Z))) (by omega) (by omega) hb74 M) ?_
     rintro _ w97 ⟨rfl, hM96⟩
     replace M : Mg w0 w97 (.obj g (rC L p lg) :: .obj g2 zC :: (U ++ Z)) := hM96
     refine ⟨_, rfl, ?_⟩
     intro a A
     refine sda A λa A↦?_
     refine qa (hK73 _ _ (cf A ?_))
     refine wsk fun K98 hK98 => wrl (sdm A λa A↦?_)
     rcases tf (Lib.hasPrefix (L.drop p) [39]) with hb99 | hb99
     ·
      have htl101 : 1 ≤ (L.drop p).length := (List.isPrefixOf_iff_prefix.1 hb99).length_le
      rw [List.length_drop] at htl101
      refine sct A (ef rfl rfl) (xv (p := p) (L := L) (T := (.obj g2 zC :: (U ++ Z))) (by omega) (by omega) hb99 M) ?_
      rintro _ w102 ⟨rfl, hM100⟩
      replace M : Mg w0 w102 (.obj g (rC L (p + 1) lg) :: .obj g2 zC :: (U ++ Z)) := hM100
      refine ⟨_, rfl, ?_⟩
      intro a A
      refine sda A λa A↦?_
      refine qa (hK98 _ _ (ct A ?_))
      refine wsk fun K103 hK103 => wrl (sdm A λa A↦?_)
      refine qt A rfl rfl rfl (ef rfl rfl) (hSk (U := (.obj g2 zC :: U)) (Z := Z) hN (Cu.cons rfl hU) hZ (by omega) (by omega) (by omega) M) ?_
      rintro _ w108 (⟨rfl, hp109⟩ | ⟨n104, rfl, ⟨hs105, hl106⟩, hM107⟩)
      ·
       exact .inl ⟨_, rfl, hX _ _ _ _ _ A (.inl ⟨rfl, by rw [dat, if_neg (by rw [hb6]; decide), if_neg (by rw [hb27]; decide), if_neg (by rw [hb48]; decide), if_neg (by rw [hb74]; decide), if_pos hb99]; rw [List.drop_drop, hp109.1]; rfl, hp109.2.elim fun q9 h9 => h9.elim fun l9 h9 => ⟨q9, l9, h9.sub (cc (cn (.refl _)))⟩⟩)⟩
      replace M : Mg w0 w108 (.obj g (rC L (p + 1 + n104) lg) :: .obj g2 zC :: (U ++ Z)) := hM107
      refine .inr ⟨_, rfl, ?_⟩
      intro a A
      refine qa (hK103 _ _ (wsk fun K110 hK110 => wrl (sdm A λa A↦?_)))
      refine qt A rfl rfl rfl (ef rfl rfl) (hDa (U := (.obj g2 zC :: U)) (Z := Z) hN (Cu.cons rfl hU) hZ (by omega) (by omega) (by omega) M) ?_
      rintro _ w121 (⟨rfl, hp122⟩ | ⟨t111, F112, n113, b114, rfl, ⟨hd115, hl116, hn117⟩, ⟨hL118, hO119⟩, hM120⟩)
      ·
       exact .inl ⟨_, rfl, hX _ _ _ _ _ A (.inl ⟨rfl, by rw [dat, if_neg (by rw [hb6]; decide), if_neg (by rw [hb27]; decide), if_neg (by rw [hb48]; decide), if_neg (by rw [hb74]; decide), if_pos hb99]; rw [List.drop_drop, hs105, Option.bind_some, List.drop_drop, hp122.1]; rfl, hp122.2.elim fun q9 h9 => h9.elim fun l9 h9 => ⟨q9, l9, h9.sub (cc (cn (.refl _)))⟩⟩)⟩
      replace M : Mg w0 w121 (.obj g (rC L (p + 1 + n104 + n113) ((lg || b114))) :: .obj g2 zC :: (U ++ (F112 ++ Z))) := hM120
      refine .inr ⟨_, rfl, ?_⟩
      intro a A
      refine sct A (ef rfl rfl) (zdj (X := (.obj g (rC L (p + 1 + n104 + n113) ((lg || b114))) :: .obj g2 zC :: U)) (Y := (F112 ++ Z)) (t := t111) (zq (by simp) (zq (by simp) hU.ob.nob)) (Ob.app hO119 hZ).nob hL118 M) ?_
      rintro _ w124 ⟨t2, F2, rfl, htt2, ⟨hL2, hF2⟩, hM123⟩
      replace M : Mg w0 w124 (.obj g (rC L (p + 1 + n104 + n113) ((lg || b114))) :: .obj g2 zC :: (U ++ (F2 ++ (F112 ++ Z)))) := hM123
      refine ⟨_, rfl, ?_⟩
      intro a A
      refine zh (L' := (.obj g (rC L (p + 1 + n104 + n113) ((lg || b114))) :: .obj g2 (.cells (t2.d.cells t2.ts.length).toArray 30) :: (U ++ (F2 ++ (F112 ++ Z))))) A M rfl rfl (qy rfl rfl rfl (by kernel_rfl) M 1 rfl rfl rfl) 1 rfl rfl rfl ?_
      intro w125 M
      refine qa (hK110 _ _ (wp_ret (hret _ _ (en1 A rfl (zn M xw rfl 1 rfl (cs := [iV t2.d.k, iV t2.d.n, bV t2.d.y.q.b1, .slice t2.d.y.o1 t2.d.y.q.t1.length t2.d.y.c1, .slice t2.d.y.o2 t2.d.y.q.q1.length t2.d.y.c2, bV t2.d.y.q.b2, .slice t2.d.y.o3 t2.d.y.q.t2.length t2.d.y.c3, .slice t2.d.y.o4 t2.d.y.q.q2.length t2.d.y.c4, .string t2.d.s, .slice t2.d.ro t2.d.rl.length t2.d.rc, .slice t2.d.lo t2.ts.length t2.d.lc]) rfl rfl) ?_))))
      refine .inr ⟨t2, F2 ++ F112, 1 + n104 + n113, b114, rfl, ⟨by rw [dat, if_neg (by rw [hb6]; decide), if_neg (by rw [hb27]; decide), if_neg (by rw [hb48]; decide), if_neg (by rw [hb74]; decide), if_pos hb99]; rw [List.drop_drop, hs105, Option.bind_some, List.drop_drop, hd115, htt2]; rfl, by omega, by omega⟩, ⟨by rw [List.append_assoc]; exact hL2, Ob.app hF2 hO119⟩, ?_⟩
      rw [show p + (1 + n104 + n113) = p + 1 + n104 + n113 by omega, List.append_assoc]
      exact M.sub (cc (cn (.refl _)))
     ·
      refine sct A (ef rfl rfl) (ve (p := p) (L := L) (T := (.obj g2 zC :: (U ++ Z))) (by omega) (by omega) hb99 M) ?_
      rintro _ w127 ⟨rfl, hM126⟩
      replace M : Mg w0 w127 (.obj g (rC L p lg) :: .obj g2 zC :: (U ++ Z)) := hM126
      refine ⟨_, rfl, ?_⟩
      intro a A
      refine sda A λa A↦?_
      refine qa (hK98 _ _ (cf A ?_))
      refine wsk fun K128 hK128 => wrl (sdm A λa A↦?_)
      rcases tf (Lib.hasPrefix (L.drop p) [34]) with hb129 | hb129
      ·
       have htl131 : 1 ≤ (L.drop p).length := (List.isPrefixOf_iff_prefix.1 hb129).length_le
       rw [List.length_drop] at htl131
       refine sct A (ef rfl rfl) (xv (p := p) (L := L) (T := (.obj g2 zC :: (U ++ Z))) (by omega) (by omega) hb129 M) ?_
       rintro _ w132 ⟨rfl, hM130⟩
       replace M : Mg w0 w132 (.obj g (rC L (p + 1) lg) :: .obj g2 zC :: (U ++ Z)) := hM130
       refine ⟨_, rfl, ?_⟩
       intro a A
       refine sda A λa A↦?_
       refine qa (hK128 _ _ (ct A ?_))
       refine wsk fun K133 hK133 => wrl (sdm A λa A↦?_)
       refine qt A rfl rfl rfl (ef rfl rfl) (qmh (p := p + 1) (L := L) (T := (.obj g2 zC :: (U ++ Z))) hN (Ob.cons (Ob.app hU.ob hZ)) (by omega) (by omega) M) ?_
       rintro _ w135 (⟨rfl, hp136⟩ | ⟨s9, n9, rfl, ⟨hq9, hql, hq1, hqs⟩, hM134⟩)
       ·
        exact .inl ⟨_, rfl, hX _ _ _ _ _ A (.inl ⟨rfl, by rw [dat, if_neg (by rw [hb6]; decide), if_neg (by rw [hb27]; decide), if_neg (by rw [hb48]; decide), if_neg (by rw [hb74]; decide), if_neg (by rw [hb99]; decide), if_pos hb129]; rw [List.drop_drop, hp136.1]; rfl, hp136.2.elim fun q9 h9 => ⟨q9, _, h9.2.sub (cc (cn (.refl _)))⟩⟩)⟩
       replace M : Mg w0 w135 (.obj g (rC L (p + 1 + n9) lg) :: .obj g2 zC :: (U ++ Z)) := hM134
       refine .inr ⟨_, rfl, ?_⟩
       intro a A
       refine sdo (v := .agg #[iV 5, iV 0, bV false, .slice none 0 0, .slice none 0 0, bV false, .slice none 0 0, .slice none 0 0, .string ((tx s9)), .slice none 0 0, .slice none 0 0]) A (qw rfl (fun w => by kernel_rfl)) λa A↦?_
       refine zh (L' := (.obj g (rC L (p + 1 + n9) lg) :: .obj g2 (.cells #[iV 5, iV 0, bV false, .slice none 0 0, .slice none 0 0, bV false, .slice none 0 0, .slice none 0 0, .string ((tx s9)), .slice none 0 0, .slice none 0 0] 30) :: (U ++ Z))) A M rfl rfl (qy rfl rfl rfl (by kernel_rfl) M 1 rfl rfl rfl) 1 rfl rfl rfl ?_
       intro w137 M
       refine qa (hK133 _ _ (wp_ret (hret _ _ (en1 A rfl (zn M xw rfl 1 rfl (cs := [iV 5, iV 0, bV false, .slice none 0 0, .slice none 0 0, bV false, .slice none 0 0, .slice none 0 0, .string ((tx s9)), .slice none 0 0, .slice none 0 0]) rfl rfl) ?_))))
       refine .inr ⟨lfD 5 0 (tx s9), [], 1 + n9, false, rfl, ⟨by rw [dat, if_neg (by rw [hb6]; decide), if_neg (by rw [hb27]; decide), if_neg (by rw [hb48]; decide), if_neg (by rw [hb74]; decide), if_neg (by rw [hb99]; decide), if_pos hb129]; rw [List.drop_drop, hq9, qhi]; rfl, by omega, by omega⟩, ⟨qlg (by decide) (by decide) (by decide) (by decide) (by rw [jt]; omega), Ob.nil⟩, ?_⟩
       rw [show p + (1 + n9) = p + 1 + n9 by omega, Bool.or_false]
       exact M.sub (cc (cn (.refl _)))
      ·
       refine sct A (ef rfl rfl) (ve (p := p) (L := L) (T := (.obj g2 zC :: (U ++ Z))) (by omega) (by omega) hb129 M) ?_
       rintro _ w139 ⟨rfl, hM138⟩
       replace M : Mg w0 w139 (.obj g (rC L p lg) :: .obj g2 zC :: (U ++ Z)) := hM138
       refine ⟨_, rfl, ?_⟩
       intro a A
       refine sda A λa A↦?_
       refine qa (hK128 _ _ (cf A ?_))
       refine wp_skip (hK4 _ _ (wsk fun K140 hK140 => wrl (sdm A λa A↦?_)))
       refine qt A rfl rfl rfl (ef rfl rfl) (zqb (U := (.obj g2 zC :: U)) (Z := Z) hN (Cu.cons rfl hU) hZ (by omega) (by omega) M) ?_
       rintro _ w142 (⟨rfl, hp143⟩ | ⟨t7, F7, n7, b7, rfl, ⟨hd7, hl7, hn7⟩, ⟨hL7, hO7⟩, hM141⟩)
       ·
        exact .inl ⟨_, rfl, hX _ _ _ _ _ A (.inl ⟨rfl, by rw [dat, if_neg (by rw [hb6]; decide), if_neg (by rw [hb27]; decide), if_neg (by rw [hb48]; decide), if_neg (by rw [hb74]; decide), if_neg (by rw [hb99]; decide), if_neg (by rw [hb129]; decide)]; exact hp143.1, hp143.2.elim fun q9 h9 => h9.elim fun l9 h9 => ⟨q9, l9, h9.2.sub (cc (cn (.refl _)))⟩⟩)⟩
       replace M : Mg w0 w142 (.obj g (rC L (p + n7) ((lg || b7))) :: .obj g2 zC :: (U ++ (F7 ++ Z))) := hM141
       refine .inr ⟨_, rfl, ?_⟩
       intro a A
       refine zh (L' := (.obj g (rC L (p + n7) ((lg || b7))) :: .obj g2 (.cells (t7.d.cells t7.ts.length).toArray 30) :: (U ++ (F7 ++ Z)))) A M rfl rfl (qy rfl rfl rfl (by kernel_rfl) M 1 rfl rfl rfl) 1 rfl rfl rfl ?_
       intro w144 M
       refine qa (hK140 _ _ (wp_ret (hret _ _ (en1 A rfl (zn M xw rfl 1 rfl (cs := [iV t7.d.k, iV t7.d.n, bV t7.d.y.q.b1, .slice t7.d.y.o1 t7.d.y.q.t1.length t7.d.y.c1, .slice t7.d.y.o2 t7.d.y.q.q1.length t7.d.y.c2, bV t7.d.y.q.b2, .slice t7.d.y.o3 t7.d.y.q.t2.length t7.d.y.c3, .slice t7.d.y.o4 t7.d.y.q.q2.length t7.d.y.c4, .string t7.d.s, .slice t7.d.ro t7.d.rl.length t7.d.rc, .slice t7.d.lo t7.ts.length t7.d.lc]) rfl rfl) ?_))))
       exact .inr ⟨t7, F7, n7, b7, rfl, ⟨by rw [dat, if_neg (by rw [hb6]; decide), if_neg (by rw [hb27]; decide), if_neg (by rw [hb48]; decide), if_neg (by rw [hb74]; decide), if_neg (by rw [hb99]; decide), if_neg (by rw [hb129]; decide)]; exact hd7, by omega, hn7⟩, ⟨hL7, hO7⟩, M.sub (cc (cn (.refl _)))⟩
theorem qxh : ∀ f, SkC f ∧ DaC f := fun f => by
 induction f using Nat.strongRecOn with
 | ind f ih => exact ⟨zra ih, zjj ih⟩
end Go.Proofs.YtclkfideaameoaaGreatDoor.G
