/- Tables: what they hold, and what a look at a mark finds. Tables: what they hold, as pairs of trees in the order in which they came. Tables: how a table's state goes on. Calls on a table, by its state. Walks of the fixed fact, and of TableNil. What a bound on the bulk of what is read gives. Transcoders that come in as arguments. Rows of bytes that come in as arguments; the first part of a row, and of a text. Data that come in as arguments. -/
import Derived.Test.YtjlpecapebhgjaaGreatDoorPtablen8f
import Derived.Test.YtjlpecapebhgjaaGreatDoorPtablen8g
import Derived.Test.YtjlpecapebhgjaaGreatDoorRows
import Derived.Test.YtjlpecapebhgjaaGreatDoorPtablen8d
import Derived.Test.YtjlpecapebhgjaaGreatDoorProg
import Derived.WalkKit
import Derived.ProofKit
import Derived.OpenShut
import Derived.ChangeOld
import Derived.Lib.SmallJoins
import Derived.Deep.Strs
import Derived.Test.YtjlpecapebhgjaaGreatDoorPtablen8c
import Derived.Deep.Slices
namespace Go.Proofs.YtjlpecapebhgjaaGreatDoor.G
open Go.RowKit
set_option linter.unusedVariables false
set_option linter.unusedSimpArgs false

/-- Two sound and good trees are equal just if they are one. -/
theorem equT_iff {t u : Tr} (h1 : soundT shapeT t = true) (h2 : soundT shapeT u = true) (g1 : t.good) (g2 : u.good) : equT t u = true ↔ t = u := by
  unfold equT
  rw [h1, h2, Bool.and_self, Bool.true_and, decide_eq_true_eq]
  exact ⟨ordT_zero t g1 u g2, fun e => e ▸ ordT_self t⟩
/-- A table's state. -/
structure TS where
  m : Nat
  count : Nat
  last : Nat
  ck : Nat
  bs : List Bk
  T : List Ck
def flat (bs : List Bk) : List Et := bs.flatMap Bk.es
/-- What is so of an entry. -/
structure EtOk (mk : Tr → Tr) (ok : Tr → Bool) (T : List Ck) (last : Nat) (h : Int) (e : Et) : Prop where
  lk : Lives T e.k
  lv : Lives T e.v
  bk : e.k.tr.bulk ≤ 4000000
  bv : e.v.tr.bulk ≤ 4000000
  ok : ok e.k.tr = true
  ms : soundT shapeT (mk e.k.tr) = true
  mg : (mk e.k.tr).good
  hh : hshT (mk e.k.tr) = h
  pl : e.p ≤ last
theorem EtOk.mono {mk : Tr → Tr} {ok : Tr → Bool} {T T' : List Ck} {last last' : Nat} {h : Int} {e : Et} (k : EtOk mk ok T last h e) (hs : T.Sublist T') (hl : last ≤ last') : EtOk mk ok T' last' h e := { k with lk := k.lk.sub hs, lv := k.lv.sub hs, pl := Nat.le_trans k.pl hl }
/-- What is so of a table. -/
structure TOk (mk : Tr → Tr) (ok : Tr → Bool) (s : TS) : Prop where
  nb : noBld s.T
  ent : ∀ x ∈ s.bs, ∀ e ∈ x.es, EtOk mk ok s.T s.last x.h e
  ne : ∀ x ∈ s.bs, x.es ≠ []
  hd : s.bs.Pairwise fun x y => x.h ≠ y.h
  sd : s.bs.Pairwise fun x y => x.b ≠ y.b
  sl : ∀ x ∈ s.bs, x.b < s.ck
  md : (flat s.bs).Pairwise fun a b => mk a.k.tr ≠ mk b.k.tr
  pd : (flat s.bs).Pairwise fun a b => a.p ≠ b.p
  cn : s.count = (flat s.bs).length
theorem flat_mem {bs : List Bk} {e : Et} : e ∈ flat bs ↔ ∃ x ∈ bs, e ∈ x.es := List.mem_flatMap
theorem flat_mid (A B : List Bk) (x : Bk) : flat (A ++ x :: B) = flat A ++ (x.es ++ flat B) := by unfold flat; rw [List.flatMap_append, List.flatMap_cons]
theorem flat_len {bs : List Bk} {x : Bk} (h : x ∈ bs) : x.es.length ≤ (flat bs).length := by
  obtain ⟨A, B, rfl⟩ := List.append_of_mem h
  rw [flat_mid, List.length_append, List.length_append]; omega
theorem TOk.len {mk : Tr → Tr} {ok : Tr → Bool} {s : TS} (h : TOk mk ok s) {x : Bk} (hx : x ∈ s.bs) : x.es.length ≤ s.count := by rw [h.cn]; exact flat_len hx
/-- The question that is asked of entries. -/
def isM (mk : Tr → Tr) (μ : Tr) (e : Et) : Bool := equT μ (mk e.k.tr)
theorem isM_iff {mk : Tr → Tr} {ok : Tr → Bool} {T : List Ck} {last : Nat} {h : Int} {e : Et} (k : EtOk mk ok T last h e) {μ : Tr} (h1 : soundT shapeT μ = true) (h2 : μ.good) : isM mk μ e = true ↔ μ = mk e.k.tr := equT_iff h1 k.ms h2 k.mg
/-- A mark that is there. -/
theorem look_hit {mk : Tr → Tr} {ok : Tr → Bool} {s : TS} (h : TOk mk ok s) {μ : Tr} (h1 : soundT shapeT μ = true) (h2 : μ.good) {e : Et} (he : e ∈ flat s.bs) (hm : mk e.k.tr = μ) :
    ∃ A x B, ∃ i : Nat, s.bs = A ++ x :: B ∧ x.h = hshT μ ∧ (∀ y ∈ A, y.h ≠ x.h) ∧ x.es[i]? = some e ∧ bucket s.bs (hshT μ) = x.es ∧ idxE (fun e => equT μ (mk e.k.tr)) x.es = ((i : Nat) : Int) := by
  obtain ⟨x, hx, hex⟩ := flat_mem.1 he
  obtain ⟨A, B, hs⟩ := List.append_of_mem hx
  have hk := h.ent x hx e hex
  have hh : x.h = hshT μ := by rw [← hm, hk.hh]
  have hA : ∀ y ∈ A, y.h ≠ x.h := by
    have := h.hd
    rw [hs, List.pairwise_append] at this
    exact fun y hy => this.2.2 y hy x List.mem_cons_self
  obtain ⟨i, hi⟩ := List.mem_iff_getElem?.1 hex
  refine ⟨A, x, B, i, hs, hh, hA, hi, ?_, ?_⟩
  · have hf : s.bs.find? (fun y => decide (y.h = hshT μ)) = some x := by
      rw [hs, List.find?_append, List.find?_eq_none.2 (fun y hy => by rw [← hh]; simpa using hA y hy)]
      simp [hh]
    unfold bucket; rw [hf]
  · refine idxE_hit (fun j u hj hu => ?_) hi ?_
    · have hu1 := List.mem_of_getElem? hu
      have := isM_iff (h.ent x hx u hu1) h1 h2
      unfold isM at this
      refine Bool.eq_false_iff.2 fun e0 => ?_
      have e1 := this.1 e0
      have hp : x.es.Pairwise fun a b => mk a.k.tr ≠ mk b.k.tr := by
        have := h.md
        rw [hs, flat_mid, List.pairwise_append, List.pairwise_append] at this
        exact this.2.1.1
      rw [List.pairwise_iff_getElem] at hp
      obtain ⟨a1, a2⟩ := List.getElem?_eq_some_iff.1 hu
      obtain ⟨b1, b2⟩ := List.getElem?_eq_some_iff.1 hi
      have := hp j i a1 b1 hj
      rw [a2, b2] at this
      exact this (by rw [← e1, hm])
    · have := isM_iff hk h1 h2
      unfold isM at this
      exact this.2 hm.symm
/-- A mark that is not: the hash has no entries .. -/
theorem look_none {s : TS} {μ : Tr} (hf : s.bs.find? (fun y => decide (y.h = hshT μ)) = none) (p : Et → Bool) : idxE p (bucket s.bs (hshT μ)) = -1 ∧ atK (hshT μ) (s.bs.map Bk.en) = none := by
  refine ⟨by unfold bucket; rw [hf]; rfl, by rw [bk_find, hf]; rfl⟩
/-- .. or others. -/
theorem look_miss {mk : Tr → Tr} {ok : Tr → Bool} {s : TS} (h : TOk mk ok s) {μ : Tr} (h1 : soundT shapeT μ = true) (h2 : μ.good) (hn : ∀ e ∈ flat s.bs, mk e.k.tr ≠ μ) {x : Bk} (hf : s.bs.find? (fun y => decide (y.h = hshT μ)) = some x) :
    ∃ A B, s.bs = A ++ x :: B ∧ x.h = hshT μ ∧ (∀ y ∈ A, y.h ≠ x.h) ∧ bucket s.bs (hshT μ) = x.es ∧ idxE (fun e => equT μ (mk e.k.tr)) x.es = -1 := by
  obtain ⟨A, B, hs, hh, hA⟩ := bk_split hf
  have hx := List.mem_of_find?_eq_some hf
  refine ⟨A, B, hs, hh, fun y hy => by rw [hh]; exact hA y hy, by unfold bucket; rw [hf], idxE_miss fun j u hj hu => ?_⟩
  have hu1 := List.mem_of_getElem? hu
  have := isM_iff (h.ent x hx u hu1) h1 h2
  unfold isM at this
  exact Bool.eq_false_iff.2 fun e0 => hn u (flat_mem.2 ⟨x, hx, hu1⟩) (this.1 e0).symm
open Classical
def Et.kv (e : Et) : Tr × Tr := (e.k.tr, e.v.tr)
/-- A table's entries hold these pairs, in this order. -/
def Holds (es : List Et) (A : List (Tr × Tr)) : Prop := ∃ L : List Et, L.Perm es ∧ L.Pairwise (fun a b => a.p < b.p) ∧ A = L.map Et.kv
theorem Holds.perm {es es' : List Et} {A : List (Tr × Tr)} (h : Holds es A) (hp : es.Perm es') : Holds es' A := by
  obtain ⟨L, h1, h2, h3⟩ := h
  exact ⟨L, h1.trans hp, h2, h3⟩
theorem Holds.len {es : List Et} {A : List (Tr × Tr)} (h : Holds es A) : A.length = es.length := by
  obtain ⟨L, h1, h2, rfl⟩ := h
  rw [List.length_map, h1.length_eq]
theorem Holds.nil : Holds [] [] := ⟨[], .refl _, .nil, rfl⟩
theorem Holds.mem {es : List Et} {A : List (Tr × Tr)} (h : Holds es A) {a : Tr × Tr} : a ∈ A ↔ ∃ e ∈ es, e.kv = a := by
  obtain ⟨L, h1, h2, rfl⟩ := h
  rw [List.mem_map]
  exact ⟨fun ⟨e, he, h⟩ => ⟨e, h1.mem_iff.1 he, h⟩, fun ⟨e, he, h⟩ => ⟨e, h1.mem_iff.2 he, h⟩⟩
theorem holds_new {es : List Et} {A : List (Tr × Tr)} (h : Holds es A) {n : Et} (hn : ∀ e ∈ es, e.p < n.p) : Holds (es ++ [n]) (A ++ [n.kv]) := by
  obtain ⟨L, h1, h2, rfl⟩ := h
  refine ⟨L ++ [n], h1.append_right _, List.pairwise_append.2 ⟨h2, by simp, fun a ha b hb => ?_⟩, by simp⟩
  rw [List.mem_singleton.1 hb]
  exact hn a (h1.mem_iff.1 ha)
section
variable {mk : Tr → Tr} {P Q : List Et} {e : Et} (hp : (P ++ e :: Q).Pairwise fun a b => a.p ≠ b.p) (hm : (P ++ e :: Q).Pairwise fun a b => mk a.k.tr ≠ mk b.k.tr)
include hp in
theorem mid_p : ∀ d ∈ P ++ Q, d.p ≠ e.p := by
  rw [List.pairwise_append] at hp
  obtain ⟨h1, h2, h3⟩ := hp
  rw [List.pairwise_cons] at h2
  intro d hd
  rcases List.mem_append.1 hd with k | k
  · exact h3 d k e List.mem_cons_self
  · exact (h2.1 d k).symm
include hm in
theorem mid_m : ∀ d ∈ P ++ Q, mk d.k.tr ≠ mk e.k.tr := by
  rw [List.pairwise_append] at hm
  obtain ⟨h1, h2, h3⟩ := hm
  rw [List.pairwise_cons] at h2
  intro d hd
  rcases List.mem_append.1 hd with k | k
  · exact h3 d k e List.mem_cons_self
  · exact (h2.1 d k).symm
include hp hm in
/-- An entry's value is changed. -/
theorem holds_hit {A : List (Tr × Tr)} (h : Holds (P ++ e :: Q) A) (v : Dt) : Holds (P ++ ⟨e.p, e.k, v⟩ :: Q) (A.map fun a => if mk a.1 = mk e.k.tr then (a.1, v.tr) else a) := by
  obtain ⟨L, h1, h2, rfl⟩ := h
  have a1 := mid_p hp
  have a2 := mid_m hm
  let f : Et → Et := fun d => if d.p = e.p then ⟨e.p, e.k, v⟩ else d
  have fp : ∀ d, (f d).p = d.p := fun d => by
    show (if d.p = e.p then (⟨e.p, e.k, v⟩ : Et) else d).p = d.p
    split
    · rename_i h; exact h.symm
    · rfl
  have keep : ∀ (M : List Et), (∀ d ∈ M, d.p ≠ e.p) → M.map f = M := fun M hM => by
    rw [List.map_congr_left (f := f) (g := id) (fun d hd => if_neg (hM d hd)), List.map_id]
  refine ⟨L.map f, (h1.map f).trans ?_, ?_, ?_⟩
  · rw [List.map_append, List.map_cons, keep P (fun d hd => a1 d (List.mem_append_left _ hd)), keep Q (fun d hd => a1 d (List.mem_append_right _ hd)), show f e = ⟨e.p, e.k, v⟩ from if_pos rfl]
  · rw [List.pairwise_map]
    exact h2.imp fun h => by rw [fp, fp]; exact h
  · rw [List.map_map, List.map_map]
    refine List.map_congr_left fun d hd => ?_
    show (if mk d.k.tr = mk e.k.tr then (d.k.tr, v.tr) else d.kv) = (f d).kv
    have hd' := h1.mem_iff.1 hd
    by_cases hde : d = e
    · subst hde
      rw [if_pos rfl, show f d = ⟨d.p, d.k, v⟩ from if_pos rfl]; rfl
    · have hd2 : d ∈ P ++ Q := by
        rcases List.mem_append.1 hd' with k | k
        · exact List.mem_append_left _ k
        · rcases List.mem_cons.1 k with k | k
          · exact absurd k hde
          · exact List.mem_append_right _ k
      rw [if_neg (a2 d hd2), show f d = d from if_neg (a1 d hd2)]
include hp hm in
end
theorem split_at {α : Type} {l : List α} {i : Nat} {e : α} (h : l[i]? = some e) : ∃ P Q, l = P ++ e :: Q ∧ P.length = i ∧ ∀ e', l.set i e' = P ++ e' :: Q := by
  obtain ⟨hi, rfl⟩ := List.getElem?_eq_some_iff.1 h
  refine ⟨l.take i, l.drop (i + 1), ?_, ?_, fun e' => ?_⟩
  · rw [← List.drop_eq_getElem_cons hi, List.take_append_drop]
  · rw [List.length_take]; omega
  · rw [List.set_eq_take_append_cons_drop, if_pos hi]
theorem pw_map {α β : Type} {f : α → β} {l l' : List α} (h : l.Pairwise fun a b => f a ≠ f b) (e : l'.map f = l.map f) : l'.Pairwise fun a b => f a ≠ f b := by
  have h1 : (l.map f).Pairwise (· ≠ ·) := List.pairwise_map.2 h
  rw [← e] at h1
  exact List.pairwise_map.1 h1
theorem pw_snoc {α β : Type} {f : α → β} {l l' : List α} {n : α} (h : l.Pairwise fun a b => f a ≠ f b) (hn : ∀ a ∈ l, f a ≠ f n) (hp : l'.Perm (l ++ [n])) : l'.Pairwise fun a b => f a ≠ f b := by
  refine (hp.pairwise_iff (fun h => h.symm)).2 (List.pairwise_append.2 ⟨h, by simp, fun a ha b hb => ?_⟩)
  rw [List.mem_singleton.1 hb]; exact hn a ha
/-- A pair's value is set. -/
noncomputable def setA (mk : Tr → Tr) (t v : Tr) (A : List (Tr × Tr)) : List (Tr × Tr) := if ∃ a ∈ A, mk a.1 = mk t then A.map fun a => if mk a.1 = mk t then (a.1, v) else a else A ++ [(t, v)]
section
variable {mk : Tr → Tr} {ok : Tr → Bool} {s : TS} (h : TOk mk ok s) {A B : List Bk} {xh : Int} {so so' : Option Addr} {ca ca' xb : Nat} {xes : List Et} (hs : s.bs = A ++ ⟨xh, so, ca, xes, xb⟩ :: B) {F : List Ck} (hF : noBld F)
include hs in
theorem parts_of : (∀ y ∈ A, y ∈ s.bs) ∧ (∀ y ∈ B, y ∈ s.bs) ∧ (⟨xh, so, ca, xes, xb⟩ : Bk) ∈ s.bs := by
  rw [hs]; exact ⟨fun y hy => by simp [hy], fun y hy => by simp [hy], by simp⟩
/-- The state behind a value that is changed. -/
def TS.hit (s : TS) (A B : List Bk) (xh : Int) (so : Option Addr) (ca xb : Nat) (xes : List Et) (F : List Ck) : TS := { s with bs := A ++ ⟨xh, so, ca, xes, xb⟩ :: B, T := F ++ s.T }
include h hs hF in
theorem tok_hit {i : Nat} {e : Et} (hi : xes[i]? = some e) {v v2 : Dt} (h2 : v2.tr = v.tr) (hv : v.tr.bulk ≤ 4000000) (hL : Lives F v2) : TOk mk ok (s.hit A B xh so ca xb (xes.set i ⟨e.p, e.k, v2⟩) F) ∧ ∀ A0, Holds (flat s.bs) A0 → ∀ t, mk t = mk e.k.tr → Holds (flat (s.hit A B xh so ca xb (xes.set i ⟨e.p, e.k, v2⟩) F).bs) (setA mk t v.tr A0) := by
  obtain ⟨P, Q, hx, hl, hset⟩ := split_at hi
  obtain ⟨hA, hB, hX⟩ := parts_of hs
  rw [hset]
  have f1 : flat s.bs = (flat A ++ P) ++ e :: (Q ++ flat B) := by rw [hs, flat_mid]; show flat A ++ (xes ++ flat B) = _; rw [hx]; simp
  have f2 : flat (s.hit A B xh so ca xb (P ++ ⟨e.p, e.k, v2⟩ :: Q) F).bs = (flat A ++ P) ++ ⟨e.p, e.k, v2⟩ :: (Q ++ flat B) := by
    show flat (A ++ ⟨xh, so, ca, P ++ ⟨e.p, e.k, v2⟩ :: Q, xb⟩ :: B) = _
    rw [flat_mid]; simp
  have hmem : ∀ d, d ∈ P ++ (⟨e.p, e.k, v2⟩ : Et) :: Q → d = ⟨e.p, e.k, v2⟩ ∨ d ∈ xes := fun d hd => by
    rw [hx]
    rcases List.mem_append.1 hd with k | k
    · exact .inr (by simp [k])
    · rcases List.mem_cons.1 k with k | k
      · exact .inl k
      · exact .inr (by simp [k])
  have hsub : s.T.Sublist (F ++ s.T) := List.sublist_append_right _ _
  refine ⟨⟨noBld_app hF h.nb, fun y hy d hd => ?_, fun y hy => ?_, ?_, ?_, fun y hy => ?_, ?_, ?_, ?_⟩, fun A0 hA0 t ht => ?_⟩
  · rcases List.mem_append.1 hy with k | k
    · exact (h.ent y (hA y k) d hd).mono hsub (Nat.le_refl _)
    · rcases List.mem_cons.1 k with k | k
      · subst k
        rcases hmem d hd with k | k
        · subst k
          have := (h.ent _ hX e (List.mem_of_getElem? hi)).mono hsub (Nat.le_refl _)
          exact { this with lv := hL.front _, bv := by show v2.tr.bulk ≤ _; rw [h2]; exact hv }
        · exact (h.ent _ hX d k).mono hsub (Nat.le_refl _)
      · exact (h.ent y (hB y k) d hd).mono hsub (Nat.le_refl _)
  · rcases List.mem_append.1 hy with k | k
    · exact h.ne y (hA y k)
    · rcases List.mem_cons.1 k with k | k
      · subst k; simp
      · exact h.ne y (hB y k)
  · exact pw_map (f := Bk.h) h.hd (by rw [hs]; simp [TS.hit])
  · exact pw_map (f := Bk.b) h.sd (by rw [hs]; simp [TS.hit])
  · rcases List.mem_append.1 hy with k | k
    · exact h.sl y (hA y k)
    · rcases List.mem_cons.1 k with k | k
      · subst k; exact (h.sl _ hX : xb < s.ck)
      · exact h.sl y (hB y k)
  · exact pw_map (f := fun a : Et => mk a.k.tr) h.md (by rw [f1, f2]; simp)
  · exact pw_map (f := Et.p) h.pd (by rw [f1, f2]; simp)
  · show s.count = _
    rw [f2, h.cn, f1]; simp
  · have hp := h.pd
    have hm := h.md
    rw [f1] at hp hm hA0
    have := holds_hit hp hm hA0 v2
    rw [f2]
    unfold setA
    have hex : ∃ a ∈ A0, mk a.1 = mk t := ⟨e.kv, hA0.mem.2 ⟨e, by simp, rfl⟩, ht.symm⟩
    rw [if_pos hex, ht, ← h2]; exact this
/-- The state behind a key that has come. -/
def TS.came (s : TS) (bs : List Bk) (ck : Nat) (F : List Ck) : TS := ⟨s.m, s.count + 1, s.last + 1, ck, bs, F ++ s.T⟩
include h in
theorem ent_lt {d : Et} (hd : d ∈ flat s.bs) : d.p < s.last + 1 := by
  obtain ⟨x, hx, he⟩ := flat_mem.1 hd
  have := (h.ent x hx d he).pl; omega
/-- Buckets to which an entry has come. -/
structure CameOk (mk : Tr → Tr) (ok : Tr → Bool) (s : TS) (bs : List Bk) (ck : Nat) (z : Int) (n : Et) : Prop where
  pm : (flat bs).Perm (flat s.bs ++ [n])
  en : ∀ y ∈ bs, ∀ d ∈ y.es, (d = n ∧ y.h = z) ∨ EtOk mk ok s.T s.last y.h d
  ne : ∀ y ∈ bs, y.es ≠ []
  hd : bs.Pairwise fun x y => x.h ≠ y.h
  sd : bs.Pairwise fun x y => x.b ≠ y.b
  sl : ∀ y ∈ bs, y.b < ck
include h hF in
theorem tok_came {bs : List Bk} {ck : Nat} {k2 v2 t v : Dt} (hk : k2.tr = t.tr) (hv : v2.tr = v.tr) (htb : t.tr.bulk ≤ 4000000) (hvb : v.tr.bulk ≤ 4000000) (hLk : Lives F k2) (hLv : Lives F v2) (hok : ok t.tr = true) (hms : soundT shapeT (mk t.tr) = true) (hmg : (mk t.tr).good) (hn : ∀ e ∈ flat s.bs, mk e.k.tr ≠ mk t.tr) (hC : CameOk mk ok s bs ck (hshT (mk t.tr)) ⟨s.last + 1, k2, v2⟩) :
    TOk mk ok (s.came bs ck F) ∧ ∀ A0, Holds (flat s.bs) A0 → Holds (flat (s.came bs ck F).bs) (setA mk t.tr v.tr A0) := by
  have hsub : s.T.Sublist (F ++ s.T) := List.sublist_append_right _ _
  refine ⟨⟨noBld_app hF h.nb, fun y hy d hd => ?_, hC.ne, hC.hd, hC.sd, hC.sl, ?_, ?_, ?_⟩, fun A0 hA0 => ?_⟩
  · rcases hC.en y hy d hd with ⟨rfl, hy2⟩ | k
    · exact ⟨hLk.front _, hLv.front _, by show k2.tr.bulk ≤ _; rw [hk]; exact htb, by show v2.tr.bulk ≤ _; rw [hv]; exact hvb, by show ok k2.tr = _; rw [hk]; exact hok, by show soundT shapeT (mk k2.tr) = _; rw [hk]; exact hms, by show (mk k2.tr).good; rw [hk]; exact hmg, by show hshT (mk k2.tr) = _; rw [hk]; exact hy2.symm, Nat.le_refl _⟩
    · exact k.mono hsub (Nat.le_succ _)
  · exact pw_snoc (f := fun a : Et => mk a.k.tr) h.md (fun a ha => by show mk a.k.tr ≠ mk k2.tr; rw [hk]; exact hn a ha) hC.pm
  · exact pw_snoc (f := Et.p) h.pd (fun a ha => by have := ent_lt h ha; show a.p ≠ s.last + 1; omega) hC.pm
  · show s.count + 1 = (flat bs).length
    rw [hC.pm.length_eq, h.cn]; simp
  · have := (holds_new hA0 (n := ⟨s.last + 1, k2, v2⟩) (fun e he => ent_lt h he)).perm hC.pm.symm
    unfold setA
    rw [if_neg (fun ⟨a, ha, hm⟩ => by obtain ⟨e, he, rfl⟩ := hA0.mem.1 ha; exact hn e he hm)]
    rw [← hk, ← hv]; exact this
include h in
/-- .. with a hash that is new .. -/
theorem came_new {k2 v2 : Dt} {z : Int} (so8 : Option Addr) (ca8 : Nat) (hf : s.bs.find? (fun y => decide (y.h = z)) = none) :
    CameOk mk ok s (s.bs ++ [⟨z, so8, ca8, [⟨s.last + 1, k2, v2⟩], s.ck⟩]) (s.ck + 1) z ⟨s.last + 1, k2, v2⟩ := by
  have hz : ∀ y ∈ s.bs, y.h ≠ z := fun y hy e => by have := List.find?_eq_none.1 hf y hy; simp [e] at this
  refine ⟨by simp [flat], fun y hy d hd => ?_, fun y hy => ?_, ?_, ?_, fun y hy => ?_⟩
  · rcases List.mem_append.1 hy with k | k
    · exact .inr (h.ent y k d hd)
    · rw [List.mem_singleton.1 k] at hd ⊢; exact .inl ⟨List.mem_singleton.1 hd, rfl⟩
  · rcases List.mem_append.1 hy with k | k
    · exact h.ne y k
    · rw [List.mem_singleton.1 k]; simp
  · exact List.pairwise_append.2 ⟨h.hd, by simp, fun a ha b hb => by rw [List.mem_singleton.1 hb]; exact hz a ha⟩
  · exact List.pairwise_append.2 ⟨h.sd, by simp, fun a ha b hb => by rw [List.mem_singleton.1 hb]; have := h.sl a ha; show a.b ≠ s.ck; omega⟩
  · rcases List.mem_append.1 hy with k | k
    · have := h.sl y k; omega
    · rw [List.mem_singleton.1 k]; exact Nat.lt_succ_self _
include h hs in
/-- .. or with one that is there. -/
theorem came_old {k2 v2 : Dt} : CameOk mk ok s (A ++ ⟨xh, so', ca', xes ++ [⟨s.last + 1, k2, v2⟩], xb⟩ :: B) s.ck xh ⟨s.last + 1, k2, v2⟩ := by
  obtain ⟨hA, hB, hX⟩ := parts_of hs
  refine ⟨?_, fun y hy d hd => ?_, fun y hy => ?_, ?_, ?_, fun y hy => ?_⟩
  · rw [hs, flat_mid, flat_mid]
    show (flat A ++ ((xes ++ [_]) ++ flat B)).Perm ((flat A ++ (xes ++ flat B)) ++ [_])
    rw [List.append_assoc, List.append_assoc, List.append_assoc]
    refine List.Perm.append_left _ (List.Perm.append_left _ ?_)
    exact List.perm_append_comm
  · rcases List.mem_append.1 hy with k | k
    · exact .inr (h.ent y (hA y k) d hd)
    · rcases List.mem_cons.1 k with k | k
      · subst k
        rcases List.mem_append.1 hd with k | k
        · exact .inr (h.ent _ hX d k)
        · exact .inl ⟨List.mem_singleton.1 k, rfl⟩
      · exact .inr (h.ent y (hB y k) d hd)
  · rcases List.mem_append.1 hy with k | k
    · exact h.ne y (hA y k)
    · rcases List.mem_cons.1 k with k | k
      · subst k; simp
      · exact h.ne y (hB y k)
  · exact pw_map (f := Bk.h) h.hd (by rw [hs]; simp)
  · exact pw_map (f := Bk.b) h.sd (by rw [hs]; simp)
  · rcases List.mem_append.1 hy with k | k
    · exact h.sl y (hA y k)
    · rcases List.mem_cons.1 k with k | k
      · subst k; exact (h.sl _ hX : xb < s.ck)
      · exact h.sl y (hB y k)
end
set_option maxRecDepth 100000
/-- A table's memory. -/
def TS.P (s : TS) (g : Nat) (kind : Int) : List Ck := .obj g (.cells #[.int .i64 kind, .map (some s.m), .int .i64 ((s.count : Nat) : Int), .int .i64 ((s.last : Nat) : Int)] 66) :: .obj s.m (mapO (s.bs.map Bk.en) s.ck) :: (s.bs.map (Bk.row 74) ++ s.T)
theorem rows_nob (bs : List Bk) : noBld (bs.map (Bk.row 74)) := fun c hc b xs e => by
 obtain ⟨x, _, rfl⟩ := List.mem_map.1 hc
 cases e
theorem tab_of {mk : Tr → Tr} {ok : Tr → Bool} {s : TS} (h : TOk mk ok s) (hc : s.count ≤ 1000000) {w0 w : World} {g : Nat} {kind : Int} (M : Mg w0 w (s.P g kind)) : Tab w ok g kind s.m s.count s.last s.ck s.bs := by
 have hT : Mg w0 w s.T := M.sub (.cons _ (.cons _ (List.sublist_append_right _ _)))
 refine ⟨M.obj 0 rfl, M.obj 1 rfl, fun x hx => ?_, fun x hx e he => ?_, fun x hx => Nat.le_trans (h.len hx) hc⟩
 ·
  have : (x.row 74).holds w0.heap.size w := M.all _ (List.mem_cons_of_mem _ (List.mem_cons_of_mem _ (List.mem_append_left _ (List.mem_map_of_mem hx))))
  exact rc_own (B := w0.heap.size) (e := 74) (sz := 23) this
 ·
  have k := h.ent x hx e he
  exact ⟨k.lk _ _ hT, k.bk, k.ok, k.lv _ _ hT, k.bv⟩
section
variable {kind : Int} {mk : Tr → Tr} {ok : Tr → Bool} (hK : Marks kind mk ok) {w0 w : World} {g : Nat} {s : TS} (h : TOk mk ok s) {Y : List Ck}
theorem P_new (s : TS) (g : Nat) (kind : Int) (Y : List Ck) : (Y ++ s.P g kind).Perm (.obj g (.cells #[.int .i64 kind, .map (some s.m), .int .i64 ((s.count : Nat) : Int), .int .i64 ((s.last : Nat) : Int)] 66) :: .obj s.m (mapO (s.bs.map Bk.en) s.ck) :: (s.bs.map (Bk.row 74) ++ s.T ++ Y)) := List.perm_append_comm
theorem P_split {A B : List Bk} {x : Bk} (hs : s.bs = A ++ x :: B) (g : Nat) (kind : Int) (Y : List Ck) : (Y ++ s.P g kind).Perm (.obj g (.cells #[.int .i64 kind, .map (some s.m), .int .i64 ((s.count : Nat) : Int), .int .i64 ((s.last : Nat) : Int)] 66) :: .obj s.m (mapO (s.bs.map Bk.en) s.ck) :: x.row 74 :: ((A ++ B).map (Bk.row 74) ++ s.T ++ Y)) := by
 refine (P_new s g kind Y).trans (.cons _ (.cons _ ?_))
 rw [hs, List.map_append, List.map_cons, List.map_append, ← List.cons_append, ← List.cons_append]
 exact (List.perm_middle.append_right _).append_right _
/-- The same, with other buckets and more that stays. -/
theorem P_back {A B : List Bk} {x : Bk} {s' : TS} {F : List Ck} (hb : s'.bs = A ++ x :: B) (hT : s'.T = F ++ s.T) (g : Nat) (kind : Int) (Y : List Ck) : (.obj g (.cells #[.int .i64 kind, .map (some s'.m), .int .i64 ((s'.count : Nat) : Int), .int .i64 ((s'.last : Nat) : Int)] 66) :: .obj s'.m (mapO (s'.bs.map Bk.en) s'.ck) :: x.row 74 :: (F ++ ((A ++ B).map (Bk.row 74) ++ s.T ++ Y))).Perm (Y ++ s'.P g kind) := by
 refine List.Perm.trans (.cons _ (.cons _ (.cons _ ?_))) (P_split hb g kind Y).symm
 rw [hT, ← List.append_assoc, ← List.append_assoc, ← List.append_assoc]
 exact (List.perm_append_comm.append_right _).append_right _
include h in
theorem nob_X {bs : List Bk} (hY : noBld Y) : noBld (bs.map (Bk.row 74) ++ s.T ++ Y) := noBld_app (noBld_app (rows_nob _) h.nb) hY
include hK h in
set_option maxHeartbeats 400000 in
theorem ts_set (hY : noBld Y) (hT : Tabs8 w0) {t v : Dt} (ht : ∀ w9, Mg w0 w9 Y → t.rd w9) (hv : ∀ w9, Mg w0 w9 Y → v.rd w9) (htb : t.tr.bulk ≤ 4000000) (hvb : v.tr.bulk ≤ 4000000) (hs : soundT shapeT t.tr = true) (hsv : soundT shapeT v.tr = true) (hok : ok t.tr = true) (hms : soundT shapeT (mk t.tr) = true) (hmg : (mk t.tr).good) (hc : s.count ≤ 4096) (hl : s.last ≤ 4611686018427387904) (M : Mg w0 w (Y ++ s.P g kind)) :
  Calls Tryz.prog 9 #[.pointer (some ⟨g, 0, none⟩), .agg (t.d.cells t.ts.length).toArray, .agg (v.d.cells v.ts.length).toArray] w fun r w' => (∃ s', r = .returned (.int .i64 0) ∧ (TOk mk ok s' ∧ s'.last ≤ s.last + 1 ∧ s'.count ≤ 4096 ∧ ∀ A0, Holds (flat s.bs) A0 → Holds (flat s'.bs) (setA mk t.tr v.tr A0)) ∧ Mg w0 w' (Y ++ s'.P g kind)) ∨ (r = .returned (.int .i64 9) ∧ (s.count = 4096 ∧ ∀ e ∈ flat s.bs, mk e.k.tr ≠ mk t.tr) ∧ Mg w0 w' (Y ++ s.P g kind)) := by
 have hup : ∀ {bs : List Bk} {d : Dt}, (∀ w9, Mg w0 w9 Y → d.rd w9) → ∀ w9, Mg w0 w9 (bs.map (Bk.row 74) ++ s.T ++ Y) → d.rd w9 := fun k w9 h9 => k w9 (h9.sub (List.sublist_append_right _ _))
 have hTab : ∀ {L : List Ck}, (Y ++ s.P g kind).Perm L → ∀ w9, Mg w0 w9 L → Tab w9 ok g kind s.m s.count s.last s.ck s.bs := fun hp w9 h9 => tab_of h (by omega) ((h9.perm hp.symm).sub (List.sublist_append_right _ _))
 by_cases hit : ∃ e ∈ flat s.bs, mk e.k.tr = mk t.tr
 ·
  obtain ⟨e, he, hme⟩ := hit
  obtain ⟨A, ⟨xh, so, ca, xes, xb⟩, B, i, hs2, hh, H, hi, hbu, hix⟩ := look_hit h hms hmg he hme
  have hp := P_split hs2 g kind Y
  have hM2 := M.perm hp
  have hrow : w.ownsRow w0.heap.size 74 23 (.slice so xes.length ca) xes.length (catC Et.c xes) := hM2.has 2 rfl
  obtain ⟨gg, rfl⟩ : ∃ gg, so = some ⟨gg, 0, none⟩ := by
   rcases hrow.2 with ⟨_, h0⟩ | ⟨gg, cap, cur, e1, _⟩
   ·
    have := (List.getElem?_eq_some_iff.1 hi).1; simp only at this h0; omega
   ·
    cases e1; exact ⟨gg, rfl⟩
  have hold : atK (hshT (mk t.tr)) (s.bs.map Bk.en) = some ⟨hshT (mk t.tr), .slice (some ⟨gg, 0, none⟩) xes.length ca, xb⟩ := by
   have := atK_mid (B := B) H
   rw [← hs2] at this
   rw [← hh]; exact this
  refine (set_hit hK (nob_X h hY) hT (hTab hp) (hup ht) (hup hv) htb hvb hM2 hs hsv hok (by rw [hbu]; exact hix) hold hi).mono ?_
  rintro r w' ⟨rfl, v2, F, ⟨h1, h2, h3⟩, hM3⟩
  obtain ⟨k1, k2⟩ := tok_hit h hs2 h3 hi h1 hvb h2
  refine .inl ⟨s.hit A B xh (some ⟨gg, 0, none⟩) ca xb (xes.set i ⟨e.p, e.k, v2⟩) F, rfl, ⟨k1, Nat.le_succ _, hc, fun A0 hA0 => k2 A0 hA0 t.tr hme.symm⟩, ?_⟩
  refine Mg.perm ?_ (P_back (s := s) (s' := s.hit A B xh (some ⟨gg, 0, none⟩) ca xb (xes.set i ⟨e.p, e.k, v2⟩) F) rfl rfl g kind Y)
  have e2 : (s.hit A B xh (some ⟨gg, 0, none⟩) ca xb (xes.set i ⟨e.p, e.k, v2⟩) F).bs.map Bk.en = s.bs.map Bk.en := by rw [hs2]; simp [TS.hit, Bk.en]
  rw [e2]
  simp only [Bk.row, List.length_set]
  exact hM3
 ·
  have hn : ∀ e ∈ flat s.bs, mk e.k.tr ≠ mk t.tr := fun e he hm => hit ⟨e, he, hm⟩
  cases hf : s.bs.find? (fun y => decide (y.h = hshT (mk t.tr))) with
  | none =>
   obtain ⟨hat, hnew⟩ := look_none hf (fun e => equT (mk t.tr) (mk e.k.tr))
   have hp := P_new s g kind Y
   by_cases hc2 : s.count < 4096
   ·
    refine (set_new hK (nob_X h hY) hT (hTab hp) (hup ht) (hup hv) htb hvb (M.perm hp) hs hsv hok hat hc2 hl hnew).mono ?_
    rintro r w' ⟨rfl, so8, ca8, k2, v2, F, ⟨h1, h2, h3, h4, h5⟩, hM3⟩
    obtain ⟨a1, a2⟩ := tok_came h h5 h1 h2 htb hvb h3 h4 hok hms hmg hn (came_new h so8 ca8 hf)
    refine .inl ⟨s.came (s.bs ++ [⟨hshT (mk t.tr), so8, ca8, [⟨s.last + 1, k2, v2⟩], s.ck⟩]) (s.ck + 1) F, rfl, ⟨a1, Nat.le_refl _, hc2, a2⟩, ?_⟩
    refine Mg.perm ?_ (P_back (s := s) (s' := s.came (s.bs ++ [⟨hshT (mk t.tr), so8, ca8, [⟨s.last + 1, k2, v2⟩], s.ck⟩]) (s.ck + 1) F) (A := s.bs) (B := []) rfl rfl g kind Y)
    rw [List.append_nil]
    simp only [TS.came, List.map_append, List.map_cons, List.map_nil, Bk.row, Bk.en, catC_one, Et.c]
    exact hM3
   ·
    refine (set_full hK (nob_X h hY) hT (hTab hp) (hup ht) (hup hv) htb hvb (M.perm hp) hs hsv hok hat (by omega) (by omega)).mono ?_
    rintro r w' ⟨rfl, hM3⟩
    exact .inr ⟨rfl, ⟨by omega, hn⟩, hM3.perm hp.symm⟩
  | some x =>
   obtain ⟨A, B, hs2, hh, H, hbu, hix⟩ := look_miss h hms hmg hn hf
   by_cases hc2 : s.count < 4096
   ·
    obtain ⟨xh, so, ca, xes, xb⟩ := x
    have hp := P_split hs2 g kind Y
    have hold : atK (hshT (mk t.tr)) (s.bs.map Bk.en) = some ⟨hshT (mk t.tr), .slice so xes.length ca, xb⟩ := by
     have := atK_mid (B := B) H
     rw [← hs2] at this
     rw [← hh]; exact this
    have hlen := h.len (List.mem_of_find?_eq_some hf)
    refine (set_old hK (nob_X h hY) hT (hTab hp) (hup ht) (hup hv) htb hvb (M.perm hp) hs hsv hok (by rw [hbu]; exact hix) hc2 hl hold (show xes.length ≤ 1000000 by simp only at hlen; omega)).mono ?_
    rintro r w' ⟨rfl, so8, ca8, k2, v2, F, ⟨h1, h2, h3, h4, h5⟩, hM3⟩
    have hC := came_old h hs2 (so' := so8) (ca' := ca8) (k2 := k2) (v2 := v2)
    simp only at hh
    rw [hh] at hC
    obtain ⟨a1, a2⟩ := tok_came h h5 h1 h2 htb hvb h3 h4 hok hms hmg hn hC
    refine .inl ⟨s.came (A ++ ⟨hshT (mk t.tr), so8, ca8, xes ++ [⟨s.last + 1, k2, v2⟩], xb⟩ :: B) s.ck F, rfl, ⟨a1, Nat.le_refl _, hc2, a2⟩, ?_⟩
    refine Mg.perm ?_ (P_back (s := s) (s' := s.came (A ++ ⟨hshT (mk t.tr), so8, ca8, xes ++ [⟨s.last + 1, k2, v2⟩], xb⟩ :: B) s.ck F) rfl rfl g kind Y)
    have e2 := putK_mid (A := A) (B := B) (x := ⟨xh, so, ca, xes, xb⟩) (y := ⟨hshT (mk t.tr), so8, ca8, xes ++ [⟨s.last + 1, k2, v2⟩], xb⟩) H hh.symm rfl
    rw [← hs2] at e2
    simp only [List.length_append, List.length_cons, List.length_nil, Nat.zero_add, hh] at e2
    rw [e2] at hM3
    simp only [TS.came, Bk.row, List.length_append, List.length_cons, List.length_nil, Nat.zero_add]
    exact hM3
   ·
    have hp := P_new s g kind Y
    refine (set_full hK (nob_X h hY) hT (hTab hp) (hup ht) (hup hv) htb hvb (M.perm hp) hs hsv hok (by rw [hbu]; exact hix) (by omega) (by omega)).mono ?_
    rintro r w' ⟨rfl, hM3⟩
    exact .inr ⟨rfl, ⟨by omega, hn⟩, hM3.perm hp.symm⟩
include hK h in
theorem ts_get (hT : Tabs8 w) {t : Dt} (ht : t.rd w) (htb : t.tr.bulk ≤ 4000000) (hs : soundT shapeT t.tr = true) (hok : ok t.tr = true) (hms : soundT shapeT (mk t.tr) = true) (hmg : (mk t.tr).good) (hc : s.count ≤ 4096) (M : Mg w0 w (Y ++ s.P g kind)) :
  Calls Tryz.prog 11 #[.pointer (some ⟨g, 0, none⟩), .agg (t.d.cells t.ts.length).toArray] w fun r w' => (∃ e ∈ flat s.bs, mk e.k.tr = mk t.tr ∧ ∃ v2 : Dt, r = .returned (.tuple #[.agg (v2.d.cells v2.ts.length).toArray, .int .i64 0]) ∧ (v2.rd w' ∧ v2.at_ (w.heap.size ≤ ·) ∧ v2.tr = e.v.tr) ∧ Below w.heap.size w w') ∨ (r = .returned (.tuple #[.agg (zeroD.d.cells zeroD.ts.length).toArray, .int .i64 7]) ∧ (∀ e ∈ flat s.bs, mk e.k.tr ≠ mk t.tr) ∧ Below w.heap.size w w') := by
 have hB := tab_of h (by omega) (M.sub (List.sublist_append_right _ _))
 by_cases hit : ∃ e ∈ flat s.bs, mk e.k.tr = mk t.tr
 ·
  obtain ⟨e, he, hme⟩ := hit
  obtain ⟨A, x, B, i, hs2, hh, H, hi, hbu, hix⟩ := look_hit h hms hmg he hme
  refine (get_hit hK hB ht htb hT hs hok (by rw [hbu]; exact hix) (by rw [hbu]; exact hi)).mono ?_
  rintro r w' ⟨v2, h1, h2, h3⟩
  exact .inl ⟨e, he, hme, v2, h1, h2, h3⟩
 ·
  have hn : ∀ e ∈ flat s.bs, mk e.k.tr ≠ mk t.tr := fun e he hm => hit ⟨e, he, hm⟩
  have hat : idxE (fun e => equT (mk t.tr) (mk e.k.tr)) (bucket s.bs (hshT (mk t.tr))) = -1 := by
   cases hf : s.bs.find? (fun y => decide (y.h = hshT (mk t.tr))) with
   | none => exact (look_none hf _).1
   | some x =>
    obtain ⟨A, B, hs2, hh, H, hbu, hix⟩ := look_miss h hms hmg hn hf
    rw [hbu]; exact hix
  refine (get_none hK hB ht htb hT hs hok hat).mono ?_
  rintro r w' ⟨h1, h2⟩
  exact .inr ⟨h1, hn, h2⟩
end
/-- A new table. -/
def TS.zero (m : Nat) : TS := ⟨m, 0, 0, 0, [], []⟩
theorem tok_zero (mk : Tr → Tr) (ok : Tr → Bool) (m : Nat) : TOk mk ok (TS.zero m) := ⟨(fun c hc => by cases hc), (fun x hx => by cases hx), (fun x hx => by cases hx), .nil, .nil, (fun x hx => by cases hx), .nil, .nil, rfl⟩
theorem ts_new {w : World} {kind : Int} (hk : isK kind = true) : Calls Tryz.prog 8 #[.int .i64 kind] w fun e w' => ∃ g m, e = .returned (.tuple #[.pointer (some ⟨g, 0, none⟩), .int .i64 0]) ∧ Mg w w' ((TS.zero m).P g kind) := new_any hk
theorem TeF_is1_3 : Is1 Tryz.prog 3 := ⟨⟨_, Tryz.underlying3, rfl⟩, by kernel_rfl⟩
theorem TeF_fld_38_0 : FieldAt Tryz.prog 38 0 0 := ⟨_, _, Tryz.underlying38, rfl, rfl, by kernel_rfl⟩
theorem TeF_isS_38 : IsS Tryz.prog 38 11 := ⟨⟨_, Tryz.underlying38⟩, by kernel_rfl⟩
def strD (s : ByteArray) : Dt := .mk ⟨5, 0, ⟨Q6.zero, none, 0, none, 0, none, 0, none, 0⟩, s, none, 0, [], none, 0⟩ []
def boolD : Dt := .mk ⟨2, 0, ⟨Q6.zero, none, 0, none, 0, none, 0, none, 0⟩, ⟨#[]⟩, none, 0, [], none, 0⟩ []
def strT (s : ByteArray) : Tr := .mk 5 0 Q6.zero s [] []
theorem strD_tr (s : ByteArray) : (strD s).tr = strT s := by unfold strD strT; rw [Dt.tr_mk]; rfl
theorem strD_rd (w : World) {s : ByteArray} (h : s.size ≤ 9223372036854775807) : (strD s).rd w :=
 Dt.rd_iff.2 ⟨⟨⟨Sc.none w, Sc.none w, Sc.none w, Sc.none w⟩, lenQ_zero, ⟨fun h => absurd rfl h⟩, Nat.le_refl _, by show (0 : Nat) ≤ _; omega, by show (-9223372036854775808 : Int) ≤ 5; omega, by show (5 : Int) ≤ 9223372036854775807; omega, by show (-9223372036854775808 : Int) ≤ 0; omega, by show (0 : Int) ≤ 9223372036854775807; omega, h⟩, Nat.le_refl _, by show (0 : Nat) ≤ _; omega, fun h => absurd rfl h, fun t h => by cases h⟩
theorem boolD_rd (w : World) : boolD.rd w := bare_rd w 2 (by decide) (by decide)
theorem str_good {s : ByteArray} (h : soundT shapeT (strT s) = true) : (strT s).good := by
 have h1 := sound_all h
 unfold strT at h1 ⊢
 rw [allT, Bool.and_eq_true] at h1
 refine good_mk.2 ⟨shape_bare (k := 5) (n := 0) (q := Q6.zero) (s := s) (mr := 0) (ml := 0) h1.1, (fun e => by cases e), (fun t ht => by cases ht)⟩
theorem strA_s : soundT shapeT (strT ⟨#[65, 98]⟩) = true := by decide +kernel
theorem strB_s : soundT shapeT (strT ⟨#[97, 66]⟩) = true := by decide +kernel
theorem bool_s : soundT shapeT boolD.tr = true := by decide +kernel
theorem foldA : foldT (strT ⟨#[65, 98]⟩) = strT ⟨#[97, 98]⟩ := by
 have e : foldS ⟨#[65, 98]⟩ = ⟨#[97, 98]⟩ := by unfold foldS; rw [show C.fold (ByteArray.mk #[65, 98]).data.toList = [97, 98] from by decide +kernel]
 unfold foldT; show Tr.mk 5 0 Q6.zero (foldS ⟨#[65, 98]⟩) [] [] = _; rw [e]; rfl
theorem foldB : foldT (strT ⟨#[97, 66]⟩) = strT ⟨#[97, 98]⟩ := by
 have e : foldS ⟨#[97, 66]⟩ = ⟨#[97, 98]⟩ := by unfold foldS; rw [show C.fold (ByteArray.mk #[97, 66]).data.toList = [97, 98] from by decide +kernel]
 unfold foldT; show Tr.mk 5 0 Q6.zero (foldS ⟨#[97, 66]⟩) [] [] = _; rw [e]; rfl
theorem strF_s : soundT shapeT (strT ⟨#[97, 98]⟩) = true := by decide +kernel
theorem awake_any {w : World} (hT : Tabs8 w) : Calls Tryz.prog 7 #[] w fun e w' => e = .returned (.bool true) ∧ Below w.heap.size w w' := by
 have M : Mg w w ([]) := Mg.start w
 refine walk_of (l := []) Tryz.func7 rfl Tryz.ntmps7 rfl rfl ?_
 intro Q hret hnorm hP a A
 refine wsk fun K1 hK1 => wrl (sda A λa A↦?_)
 refine seq_end (hK1 _ _ (wsk fun K2 hK2 => wrl (sct A (ef rfl rfl) (ts_new (kind := 2) rfl) ?_)))
 rintro _ w3 ⟨g, m, rfl, hM9⟩
 replace M : Mg w w3 (((TS.zero m).P g 2)) := hM9
 refine ⟨_, rfl, ?_⟩
 intro a A
 refine sdm A λa A↦?_
 iterate 2 refine sdo A (does_extract (vs := [.pointer (some ⟨g, 0, none⟩), .int .i64 0]) rfl rfl) λa A↦?_
 iterate 2 refine sda A λa A↦?_
 refine seq_end (hK2 _ _ (wsk fun K4 hK4 => wsk fun K5 hK5 => wrl (sdm A λa A↦?_)))
 refine sdo (v := .bool false) A (does_bin rfl rfl (fun w => by kernel_rfl)) λa A↦?_
 iterate 2 refine sdm A λa A↦?_
 refine sdo (v := .bool false) A (does_bin rfl rfl (bin_nilN Tryz.underlying24)) λa A↦?_
 refine sdk (v := .bool false) A λa A↦?_
 iterate 2 refine sdm A λa A↦?_
 refine sdo (v := .agg ((strD ⟨#[65, 98]⟩).d.cells (strD ⟨#[65, 98]⟩).ts.length).toArray) A (does_build rfl (fun w => by kernel_rfl)) λa A↦?_
 refine sdo (v := .agg (boolD.d.cells boolD.ts.length).toArray) A (does_build rfl (fun w => by kernel_rfl)) λa A↦?_
 refine sct A (ef rfl rfl) (ts_set marks2 (tok_zero foldT isS m) (Y := []) (g := g) (fun c hc => by cases hc) hT (t := strD ⟨#[65, 98]⟩) (v := boolD) (fun w9 _ => strD_rd _ (by decide)) (fun w9 _ => boolD_rd _) (by decide +kernel) (by decide +kernel) (by rw [strD_tr]; exact strA_s) bool_s (by rw [strD_tr]; rfl) (by rw [strD_tr, foldA]; exact strF_s) (by rw [strD_tr, foldA]; exact str_good strF_s) (Nat.zero_le _) (Nat.zero_le _) M) ?_
 rintro _ w6 (⟨s9, rfl, ⟨hs9, -, hc9, hA9⟩, hM9⟩ | ⟨-, ⟨h0, -⟩, -⟩)
 rotate_left
 ·
  exact absurd h0 (show ¬ (0 : Nat) = 4096 by decide)
 replace M : Mg w w6 ((s9.P g 2)) := hM9
 refine ⟨_, rfl, ?_⟩
 intro a A
 refine sdo (v := .bool false) A (does_bin rfl rfl (fun w => by kernel_rfl)) λa A↦?_
 refine sdk (v := .bool false) A λa A↦?_
 refine seq_end (hK5 _ _ (wp_cond_false (A.ev rfl) ?_))
 refine wp_skip (hK4 _ _ (wsk fun K7 hK7 => wrl (sdm A λa A↦?_)))
 refine sdo (v := .agg ((strD ⟨#[97, 66]⟩).d.cells (strD ⟨#[97, 66]⟩).ts.length).toArray) A (does_build rfl (fun w => by kernel_rfl)) λa A↦?_
 have hH := hA9 [] Holds.nil
 rw [show setA foldT (strD ⟨#[65, 98]⟩).tr boolD.tr [] = [((strD ⟨#[65, 98]⟩).tr, boolD.tr)] from if_neg (fun ⟨a, ha, _⟩ => by cases ha)] at hH
 refine sct A (ef rfl rfl) (ts_get marks2 hs9 (Y := []) (g := g) (hT.below M.bel) (t := strD ⟨#[97, 66]⟩) (strD_rd _ (by decide)) (by decide +kernel) (by rw [strD_tr]; exact strB_s) (by rw [strD_tr]; rfl) (by rw [strD_tr, foldB]; exact strF_s) (by rw [strD_tr, foldB]; exact str_good strF_s) hc9 M) ?_
 rintro _ w8 (⟨e9, he9, hm9, r9, rfl, ⟨hr9, -, ht9⟩, hb9⟩ | ⟨-, hn9, -⟩)
 rotate_left
 ·
  obtain ⟨e9, he9, hk9⟩ := hH.mem.1 (List.mem_singleton.2 rfl); exact absurd (by rw [show e9.k.tr = (strD ⟨#[65, 98]⟩).tr from congrArg Prod.fst hk9, strD_tr, strD_tr, foldA, foldB]) (hn9 e9 he9)
 have hk9 : r9.d.k = 2 := by
  have h7 := hH.mem.2 ⟨e9, he9, rfl⟩
  have h8 := congrArg Prod.snd (List.mem_singleton.1 h7)
  rw [← tr_k, ht9, show e9.v.tr = boolD.tr from h8]; rfl
 replace M := M.call hb9
 refine ⟨_, rfl, ?_⟩
 intro a A
 refine sdm A λa A↦?_
 iterate 2 refine sdo A (does_extract (vs := [.agg (r9.d.cells r9.ts.length).toArray, .int .i64 0]) rfl rfl) λa A↦?_
 refine s_new (vs := (zeroD.d.cells zeroD.ts.length)) (t := 38) A M rfl rfl rfl pg (does_alloc (z := .agg (zeroD.d.cells zeroD.ts.length).toArray) (by kernel_rfl) rfl) (by decide) ?_
 intro g9 w10 M a A
 refine s_store (us := (r9.d.cells r9.ts.length)) (L' := (.obj g9 (.cells (r9.d.cells r9.ts.length).toArray 38) :: (s9.P g 2))) A M rfl rfl (m_store rfl rfl rfl (by kernel_rfl) M 0 rfl rfl rfl) 0 rfl rfl rfl ?_
 intro w11 M
 refine sda A λa A↦?_
 refine seq_end (hK7 _ _ (wsk fun K12 hK12 => wrl (sdm A λa A↦?_)))
 refine sdo (v := .bool true) A (does_bin rfl rfl (fun w => by kernel_rfl)) λa A↦?_
 refine sdm A λa A↦?_
 refine sdo (v := .pointer (some ⟨g9, 0, none⟩)) A (does_field TeF_fld_38_0 rfl rfl) λa A↦?_
 refine sdo A (m_load1 M TeF_is1_3 rfl 0 rfl rfl) λa A↦?_
 refine sdo (v := .bool true) A (does_bin rfl rfl (fun w => (bin_eql w).trans (by rw [show ((r9.d.k == 2)) = true from (beq_iff_eq.2 hk9)]))) λa A↦?_
 refine sdk (v := .bool true) A λa A↦?_
 refine sda A λa A↦?_
 refine seq_end (hK12 _ _ (wp_ret (hret _ _ (en1 A rfl (res_tmp rfl) ?_))))
 exact ⟨rfl, M.bel⟩
theorem tableNil_any {w : World} {t v : Dt} (hT : Tabs8 w) : Calls Tryz.prog 5 #[.agg (t.d.cells t.ts.length).toArray, .agg (v.d.cells v.ts.length).toArray] w fun e w' => e = .returned (.bool true) ∧ Below w.heap.size w w' := by
 have M : Mg w w ([]) := Mg.start w
 refine walk_of (l := [(0, .agg (t.d.cells t.ts.length).toArray), (1, .agg (v.d.cells v.ts.length).toArray)]) Tryz.func5 rfl Tryz.ntmps5 rfl rfl ?_
 intro Q hret hnorm hP a A
 refine wsk fun K1 hK1 => wrl (s_new (vs := (t.d.cells t.ts.length)) (t := 38) A M rfl rfl rfl pg (does_box rfl rfl) (by decide) ?_)
 intro g2 w3 M a A
 refine s_new (vs := (v.d.cells v.ts.length)) (t := 38) A M rfl rfl rfl pg (does_box rfl rfl) (by decide) ?_
 intro g4 w5 M a A
 refine sda A λa A↦?_
 refine seq_end (hK1 _ _ (wsk fun K6 hK6 => wrl (sda A λa A↦?_)))
 refine seq_end (hK6 _ _ (wsk fun K7 hK7 => wrl (sdm A λa A↦?_)))
 refine gcl A M (ef rfl rfl) (clear_nil) fun w9 hb8 M a A => ?_
 refine seq_end (hK7 _ _ (wsk fun K10 hK10 => wrl (sdm A λa A↦?_)))
 refine sdo A (m_loadS M TeF_isS_38 rfl 1 rfl (cs := (t.d.cells t.ts.length)) rfl rfl) λa A↦?_
 refine gcl A M (ef rfl rfl) (get_nil) fun w12 hb11 M a A => ?_
 refine sdm A λa A↦?_
 iterate 2 refine sdo A (does_extract (vs := [.agg (zeroD.d.cells zeroD.ts.length).toArray, .int .i64 1]) rfl rfl) λa A↦?_
 refine s_new (vs := (zeroD.d.cells zeroD.ts.length)) (t := 38) A M rfl rfl rfl pg (does_alloc (z := .agg (zeroD.d.cells zeroD.ts.length).toArray) (by kernel_rfl) rfl) (by decide) ?_
 intro g13 w14 M a A
 refine s_store (us := (zeroD.d.cells zeroD.ts.length)) (L' := (.obj g13 (.cells (zeroD.d.cells zeroD.ts.length).toArray 38) :: .obj g4 (.cells (v.d.cells v.ts.length).toArray 38) :: .obj g2 (.cells (t.d.cells t.ts.length).toArray 38) :: [])) A M rfl rfl (m_store rfl rfl rfl (by kernel_rfl) M 0 rfl rfl rfl) 0 rfl rfl rfl ?_
 intro w15 M
 refine sda A λa A↦?_
 refine seq_end (hK10 _ _ (wsk fun K16 hK16 => wrl (sct A (ef rfl rfl) (awake_any (hT.below M.bel)) ?_)))
 rintro _ w17 ⟨rfl, hba⟩
 replace M := M.call hba
 refine ⟨_, rfl, ?_⟩
 intro a A
 iterate 2 refine sdm A λa A↦?_
 refine sdo (v := .bool true) A (does_bin rfl rfl (fun w => by kernel_rfl)) λa A↦?_
 refine sdk (v := .bool true) A λa A↦?_
 iterate 2 refine sdm A λa A↦?_
 refine sdo A (m_loadS M TeF_isS_38 rfl 2 rfl (cs := (t.d.cells t.ts.length)) rfl rfl) λa A↦?_
 refine sdo A (m_loadS M TeF_isS_38 rfl 1 rfl (cs := (v.d.cells v.ts.length)) rfl rfl) λa A↦?_
 refine gcl A M (ef rfl rfl) (set_nil) fun w19 hb18 M a A => ?_
 refine sdo (v := .bool true) A (does_bin rfl rfl (fun w => by kernel_rfl)) λa A↦?_
 refine sdk (v := .bool true) A λa A↦?_
 iterate 2 refine sdm A λa A↦?_
 refine sdo A (m_loadS M TeF_isS_38 rfl 2 rfl (cs := (t.d.cells t.ts.length)) rfl rfl) λa A↦?_
 refine gcl A M (ef rfl rfl) (del_nil) fun w21 hb20 M a A => ?_
 refine sdo (v := .bool true) A (does_bin rfl rfl (fun w => by kernel_rfl)) λa A↦?_
 refine sdk (v := .bool true) A λa A↦?_
 iterate 2 refine sdm A λa A↦?_
 refine gcl A M (ef rfl rfl) (len_nil) fun w23 hb22 M a A => ?_
 refine sdo (v := .bool true) A (does_bin rfl rfl (fun w => by kernel_rfl)) λa A↦?_
 refine sdk (v := .bool true) A λa A↦?_
 iterate 2 refine sdm A λa A↦?_
 refine gcl A M (ef rfl rfl) (keys_nil) fun w25 hb24 M a A => ?_
 refine sdo A (does_len Tryz.underlying28 rfl) λa A↦?_
 refine sdo (v := .bool true) A (does_bin rfl rfl (fun w => by kernel_rfl)) λa A↦?_
 refine sdk (v := .bool true) A λa A↦?_
 iterate 2 refine sdm A λa A↦?_
 refine gcl A M (ef rfl rfl) (copy_nil) fun w27 hb26 M a A => ?_
 refine sdo (v := .bool true) A (does_bin rfl rfl (bin_nilY Tryz.underlying24)) λa A↦?_
 refine sdk (v := .bool true) A λa A↦?_
 refine sda A λa A↦?_
 refine seq_end (hK16 _ _ (wp_ret (hret _ _ (en1 A rfl (res_tmp rfl) ?_))))
 exact ⟨rfl, M.bel⟩
end Go.Proofs.YtjlpecapebhgjaaGreatDoor.G
namespace Go.Proofs.YtjlpecapebhgjaaGreatDoor
set_option linter.unusedVariables false

section
variable {H : Type}
theorem bulk_pos (d : DataW H) : 0 < Rows.uptoBulk d := by
  unfold Rows.uptoBulk
  split <;> omega
theorem bulk_len : ∀ l : List (DataW H), l.length ≤ Rows.uptoBulkAll l
  | [] => by simp
  | d :: l => by
    have h1 := bulk_pos d
    have h2 := bulk_len l
    simp only [Rows.uptoBulkAll, List.length_cons]
    omega
theorem bulk_row (xs ys : List (DataW H)) : xs.length ≤ Rows.uptoBulk (.slice xs ys) := by
  have := bulk_len xs
  simp only [Rows.uptoBulk]
  omega
end
end Go.Proofs.YtjlpecapebhgjaaGreatDoor
namespace Go.Proofs.YtjlpecapebhgjaaGreatDoor.G
open Go.ChangeShapes Go.WideShapes Go.ChangeAt Go.RowKit Go.Joins Go.Deep
set_option linter.unusedVariables false
set_option linter.unusedSimpArgs false
set_option maxRecDepth 100000

section
variable {H : Type} {enc : TypeId × Value → H} {W : World}
end
theorem bytes_row {w : World} {x : Addr} {len cap : Nat} {zs : List Int} (hl : len ≤ cap) (hz : zs.length = cap)
    (hc : ∀ i, i < zs.length → w.cell? (x.add i) = some (.int .u8 (zs.getD i 0))) (hw : ∀ n ∈ zs, (Lit.int .u8 n).wf = true) :
    ∃ l : List UInt8, l.length = len ∧ Rb w (some x) l := by
  have hbd : ∀ n ∈ zs, 0 ≤ n ∧ n < 256 := by
    intro n hn
    have := bounds_u8 (hw n hn)
    omega
  refine ⟨(zs.take len).map b8, by rw [List.length_map, List.length_take]; omega, ⟨fun hne => ?_⟩⟩
  have hlen : ((zs.take len).map b8).length = len := by rw [List.length_map, List.length_take]; omega
  have h0 : 0 < len := by
    apply Classical.byContradiction
    intro h
    have : len = 0 := by omega
    subst this
    simp at hne
  obtain ⟨b, off, spot⟩ := x
  have hspot : spot = none := by
    have := hc 0 (by omega)
    simp only [World.cell?, Addr.add] at this
    split at this
    · cases spot with
      | none => rfl
      | some s => simp at this
    · cases this
  subst hspot
  have hcj : ∀ j, j < len → w.cell? ⟨b, off + j, none⟩ = some (.int .u8 (((((zs.take len).map b8).getD j 0).toNat : Nat) : Int)) := by
    intro j hj
    have h1 := hc j (by omega)
    rw [Addr.add_lit] at h1
    rw [h1]
    have hjz : j < zs.length := by omega
    have h2 := hbd zs[j] (List.getElem_mem hjz)
    have e1 : zs.getD j 0 = zs[j] := by simp [hjz]
    have e2 : ((zs.take len).map b8).getD j 0 = b8 zs[j] := by simp [List.getD_eq_getElem?_getD, hj, hjz]
    rw [e1, e2, b8_val h2.1 h2.2]
  refine ⟨b, off, rfl, ?_, fun j hj => hcj j (by omega)⟩
  have := hcj 0 h0
  apply Classical.byContradiction
  intro h
  simp [World.cell?, Array.getElem?_eq_none (Nat.le_of_not_lt h)] at this
section
variable {H : Type} {enc : TypeId × Value → H} {W : World}
end
theorem Rb.take {w : World} {so : Option Addr} {l : List UInt8} (h : Rb w so l) (n : Nat) : Rb w so (l.take n) := by
  refine ⟨fun hne => ?_⟩
  obtain ⟨b, off, h1, h2, h3⟩ := h.pos (fun k => hne (by rw [k]; simp))
  refine ⟨b, off, h1, h2, fun j hj => ?_⟩
  rw [List.length_take] at hj
  rw [h3 j (by omega), List.getD_eq_getElem?_getD, List.getD_eq_getElem?_getD, List.getElem?_take_of_lt (by omega)]
section
variable {P : Program} {w : World} {l : List (Nat × Value)} {dst : Option Tmp} {ty : TypeId} {pos : String} {after : Array Edge} {guard : Option (Nat × Bool)}
end
def Nu.cells (y : Nu) : List Value := [.bool y.q.b1, .slice y.o1 y.q.t1.length y.c1, .slice y.o2 y.q.q1.length y.c2, .bool y.q.b2, .slice y.o3 y.q.t2.length y.c3, .slice y.o4 y.q.q2.length y.c4]
theorem cellD_lt {w : World} {b o : Nat} {v : Value} (h : w.cell? ⟨b, o, none⟩ = some v) : b < w.heap.size := by
  apply Classical.byContradiction
  intro k
  simp [World.cell?, Array.getElem?_eq_none (Nat.le_of_not_lt k)] at h
section
variable {H : Type} {enc : TypeId × Value → H} {W : World}
theorem bulk_agg (l : List (DataW H)) : Rows.uptoBulk (.agg l) = Rows.uptoBulkAll l + 1 := by simp only [Rows.uptoBulk]
theorem trodU_bytes {fuel : Nat} {v : Value} {x : DataW H × List MemPlace} (h : DataW.trod enc Tryz.prog W 0 (fun _ => true) true fuel 36 [v] = some x) : ∃ so cap l, v = .slice so (l : List UInt8).length cap ∧ Rb W so l ∧ l.length ≤ cap ∧ cap ≤ 9223372036854775807 ∧ l.length ≤ Rows.uptoBulk x.1 := by
  rcases open_ints Tryz.underlying36 Tryz.underlying5 (by kernel_rfl) h with ⟨hcs, _⟩ | ⟨x, l, c, zs, hcs, _, hl, hm, hz, hx, hcell, hwz⟩
  · simp only [List.cons.injEq, and_true] at hcs
    subst hcs
    exact ⟨none, 0, [], rfl, ⟨fun k => absurd rfl k⟩, Nat.le_refl _, by decide, Nat.zero_le _⟩
  · simp only [List.cons.injEq, and_true] at hcs
    subst hcs
    obtain ⟨us, e, ha⟩ := bytes_row hl (by simpa using hz) hcell hwz
    subst e
    subst hx
    refine ⟨_, _, us, rfl, ha, hl, hm, ?_⟩
    simp only [if_true] at hz
    refine Nat.le_trans ?_ (bulk_row _ _)
    simp only [lits, List.length_map, List.length_take, List.length_drop]
    omega
theorem trodU_words {fuel : Nat} {v : Value} {x : DataW H × List MemPlace} (h : DataW.trod enc Tryz.prog W 0 (fun _ => true) true fuel 31 [v] = some x) : ∃ ao c l, v = .slice ao (l : List Nat).length c ∧ Arg W ao c l ∧ l.length ≤ Rows.uptoBulk x.1 := by
  rcases open_ints Tryz.underlying31 Tryz.underlying118 (by kernel_rfl) h with ⟨hcs, _⟩ | ⟨x, l, c, zs, hcs, _, hl, hm, hz, hx, hcell, hwz⟩
  · cases hcs
    exact ⟨none, 0, [], rfl, arg_nil W, Nat.zero_le _⟩
  · cases hcs
    obtain ⟨us, e, ha⟩ := arg_row hl hm (by simpa using hz) hcell hwz
    subst e
    subst hx
    refine ⟨_, _, us, rfl, ha, ?_⟩
    simp only [if_true] at hz
    refine Nat.le_trans ?_ (bulk_row _ _)
    simp only [lits, List.length_map, List.length_take, List.length_drop]
    omega
theorem trodU_rat {fuel : Nat} {v0 v1 v2 : Value} {x : DataW H × List MemPlace} (h : DataW.trod enc Tryz.prog W 0 (fun _ => true) true fuel 33 [v0, v1, v2] = some x) : ∃ b o1 c1 l1 o2 c2 l2, v0 = .bool b ∧ v1 = .slice o1 (l1 : List Nat).length c1 ∧ v2 = .slice o2 (l2 : List Nat).length c2 ∧ Arg W o1 c1 l1 ∧ Arg W o2 c2 l2 ∧ l1.length + l2.length ≤ Rows.uptoBulk x.1 := by
  obtain ⟨y0, y1, y2, n, hx, _, h0, h1, h2⟩ := trod_struct3 Tryz.underlying33 h
  have e0 : Tryz.prog.cellsOf 4 = 1 := by kernel_rfl
  have e1 : Tryz.prog.cellsOf 31 = 1 := by kernel_rfl
  simp only [e0, e1, List.drop_zero, List.take_succ_cons, List.take_zero, List.drop_succ_cons] at h0 h1 h2
  obtain ⟨b, rfl⟩ := trod_bool h0
  obtain ⟨o1, c1, l1, rfl, a1, k1⟩ := trodU_words h1
  obtain ⟨o2, c2, l2, rfl, a2, k2⟩ := trodU_words h2
  refine ⟨b, o1, c1, l1, o2, c2, l2, rfl, rfl, rfl, a1, a2, ?_⟩
  rw [hx, bulk_agg]
  simp only [Rows.uptoBulkAll]
  omega
theorem trodU_num {fuel : Nat} {cs : List Value} {x : DataW H × List MemPlace} (hl : cs.length = 6) (h : DataW.trod enc Tryz.prog W 0 (fun _ => true) true fuel 35 cs = some x) :
    ∃ y : Nu, cs = y.cells ∧ y.nm W ∧ LenQ y.q ∧ y.q.t1.length + y.q.q1.length + (y.q.t2.length + y.q.q2.length) ≤ Rows.uptoBulk x.1 := by
  match cs, hl with
  | [v0, v1, v2, v3, v4, v5], _ =>
    obtain ⟨y0, y1, n, hx, _, h0, h1⟩ := trod_struct2 Tryz.underlying35 h
    have e : Tryz.prog.cellsOf 33 = 3 := by kernel_rfl
    simp only [e, List.drop_zero, List.take_succ_cons, List.take_zero, List.drop_succ_cons] at h0 h1
    obtain ⟨b1, o1, c1, l1, o2, c2, l2, rfl, rfl, rfl, a1, a2, k1⟩ := trodU_rat h0
    obtain ⟨b2, o3, c3, l3, o4, c4, l4, rfl, rfl, rfl, a3, a4, k2⟩ := trodU_rat h1
    refine ⟨⟨⟨b1, l1, l2, b2, l3, l4⟩, o1, c1, o2, c2, o3, c3, o4, c4⟩, rfl, ⟨⟨a1.rd, a1.nil, a1.caps⟩, ⟨a2.rd, a2.nil, a2.caps⟩, ⟨a3.rd, a3.nil, a3.caps⟩, ⟨a4.rd, a4.nil, a4.caps⟩⟩, ⟨a1.len, a2.len, a3.len, a4.len⟩, ?_⟩
    rw [hx, bulk_agg]
    simp only [Rows.uptoBulkAll]
    omega
/-- One datum, as it lies in a row of cells; and a list of them. -/
def OpenD (H : Type) (enc : TypeId × Value → H) (W : World) (fuel : Nat) : Prop := ∀ (cs : List Value) (x : DataW H × List MemPlace), DataW.trod enc Tryz.prog W 0 (fun _ => true) true fuel 38 cs = some x → ∃ t : Dt, cs = t.cells ∧ t.rd W ∧ t.tr.bulk ≤ Rows.uptoBulk x.1
theorem trodU_data {fuel : Nat} {v : Value} {x : DataW H × List MemPlace} (ih : ∀ n, n < fuel → OpenD H enc W n) (h : DataW.trod enc Tryz.prog W 0 (fun _ => true) true fuel 28 [v] = some x) :
    ∃ lo lc ts, v = .slice lo (ts : List Dt).length lc ∧ ts.length ≤ lc ∧ lc ≤ 9223372036854775807 ∧ Rt W lo ts ∧ (∀ t ∈ ts, t.rd W) ∧ Tr.bulks (ts.map Dt.tr) ≤ Rows.uptoBulk x.1 := by
  rcases DataW.trod_slice Tryz.underlying28 h with ⟨hcs, _⟩ | ⟨a, len, cap, elems, rest, n, hf, hcs, hx, _, hl, hm, hlen, hel, _, _⟩
  · simp only [List.cons.injEq, and_true] at hcs
    subst hcs
    exact ⟨none, 0, [], rfl, Nat.le_refl _, by decide, fun k => absurd rfl k, fun _ k => by simp at k, Nat.zero_le _⟩
  · simp only [List.cons.injEq, and_true] at hcs
    subst hcs
    rw [show Tryz.prog.cellsOf 38 = 11 from by kernel_rfl] at hel
    have each : ∀ i, ∃ t : Dt, i < len → t.rd W ∧ (∀ j v, t.cells[j]? = some v → W.cell? ((a.add (i * 11)).add j) = some v) ∧ ∃ y, elems[i]? = some y ∧ t.tr.bulk ≤ Rows.uptoBulk y.1 := by
      intro i
      by_cases hi : i < len
      · have h1 := hel i hi
        rw [List.getElem?_eq_getElem (by omega)] at h1
        obtain ⟨cs, h2, h3⟩ := Option.bind_eq_some_iff.1 h1
        obtain ⟨_, hlc, hcell⟩ := World.cells?_some h2
        obtain ⟨t, rfl, hr, hb⟩ := ih n (by omega) cs _ h3
        exact ⟨t, fun _ => ⟨hr, fun j v hj => by rw [hcell j (by have := (List.getElem?_eq_some_iff.1 hj).1; rw [hlc] at this; exact this)]; exact hj, _, List.getElem?_eq_getElem (by omega), hb⟩⟩
      · exact ⟨.mk ⟨0, 0, ⟨⟨false, [], [], false, [], []⟩, none, 0, none, 0, none, 0, none, 0⟩, ⟨#[]⟩, none, 0, [], none, 0⟩ [], fun k => absurd k hi⟩
    obtain ⟨F, hF⟩ := Classical.skolem.1 each
    have hget : ∀ (j : Nat) (q : Dt), ((List.range len).map F)[j]? = some q → j < len ∧ q = F j := by
      intro j q hq
      rw [List.getElem?_map] at hq
      obtain ⟨y, h1, h2⟩ := Option.map_eq_some_iff.1 hq
      obtain ⟨h3, h4⟩ := List.getElem?_eq_some_iff.1 h1
      rw [List.length_range] at h3
      rw [List.getElem_range] at h4
      subst h4
      exact ⟨h3, h2.symm⟩
    refine ⟨some a, cap, (List.range len).map F, by simp, by simpa using hl, hm, fun hne => ?_, fun t ht => ?_, ?_⟩
    · have hn : 0 < len := by
        apply Classical.byContradiction
        intro k
        exact hne (by rw [show len = 0 from by omega]; rfl)
      obtain ⟨b, off, spot⟩ := a
      have h0 := (hF 0 hn).2.1 0 _ rfl
      have hspot : spot = none := by simpa [Addr.add] using World.cell?_spot h0
      subst hspot
      refine ⟨b, off, rfl, fun i t hi => ?_⟩
      obtain ⟨hlt, rfl⟩ := hget i t hi
      have hat : ∀ j v, (F i).cells[j]? = some v → W.cell? ⟨b, off + i * 11 + j, none⟩ = some v := fun j v hj => by
        have := (hF i hlt).2.1 j v hj
        rwa [Addr.add_lit, Addr.add_lit] at this
      exact ⟨cellD_lt (hat 0 _ rfl), hat⟩
    · obtain ⟨j, hj⟩ := List.mem_iff_getElem?.1 ht
      obtain ⟨h1, rfl⟩ := hget j t hj
      exact (hF j h1).1
    · rw [hx]
      have key : ∀ m, m ≤ len → Tr.bulks (((List.range m).map F).map Dt.tr) ≤ Rows.uptoBulkAll ((elems.map (·.1)).take m) := by
        intro m
        induction m with
        | zero => intro _; simp [Tr.bulks]
        | succ m ih2 =>
          intro hm2
          have hs : ∀ (l : List Tr) (t : Tr), Tr.bulks (l ++ [t]) = Tr.bulks l + t.bulk := by
            intro l t
            induction l with
            | nil => simp [Tr.bulks]
            | cons u l ih3 => simp only [List.cons_append, Tr.bulks, ih3]; omega
          have hu : ∀ (l : List (DataW H)) (d : DataW H), Rows.uptoBulkAll (l ++ [d]) = Rows.uptoBulkAll l + Rows.uptoBulk d := by
            intro l d
            induction l with
            | nil => simp [Rows.uptoBulkAll]
            | cons u l ih3 => simp only [List.cons_append, Rows.uptoBulkAll, ih3]; omega
          obtain ⟨_, _, y, hy, hb⟩ := hF m (by omega)
          have := ih2 (by omega)
          rw [List.range_succ, List.map_append, List.map_append, List.take_add_one, List.getElem?_map, hy]
          simp only [List.map_cons, List.map_nil, Option.map_some, Option.toList_some]
          rw [hs, hu]
          omega
      have h1 := key len (Nat.le_refl _)
      rw [List.take_of_length_le (by rw [List.length_map]; omega)] at h1
      simp only [Rows.uptoBulk]
      omega
theorem open_dt : ∀ fuel, OpenD H enc W fuel := by
  intro fuel
  induction fuel using Nat.strongRecOn with
  | ind fuel ih =>
    intro cs x h
    obtain ⟨xs, n, hfu, hx, hl, hxl, hf⟩ := DataW.trod_struct Tryz.underlying38 h
    rw [show Tryz.prog.cellsOf 38 = 11 from by kernel_rfl] at hl
    match cs, hl with
    | [v0, v1, v2, v3, v4, v5, v6, v7, v8, v9, v10], _ =>
      match xs, hxl with
      | [x0, x1, x2, x3, x4, x5], _ =>
        have g0 := hf 0 _ rfl
        have g1 := hf 1 _ rfl
        have g2 := hf 2 _ rfl
        have g3 := hf 3 _ rfl
        have g4 := hf 4 _ rfl
        have g5 := hf 5 _ rfl
        have c1 : Tryz.prog.cellsOf 3 = 1 := by kernel_rfl
        have c2 : Tryz.prog.cellsOf 35 = 6 := by kernel_rfl
        have c3 : Tryz.prog.cellsOf 9 = 1 := by kernel_rfl
        have c4 : Tryz.prog.cellsOf 36 = 1 := by kernel_rfl
        have c5 : Tryz.prog.cellsOf 28 = 1 := by kernel_rfl
        simp only [c1, c2, c3, c4, c5, List.drop_zero, List.take_succ_cons, List.take_zero, List.drop_succ_cons, List.getElem?_cons_zero, List.getElem?_cons_succ] at g0 g1 g2 g3 g4 g5
        obtain ⟨k, e0, _, w0⟩ := DataW.trod_int Tryz.underlying3 g0
        obtain ⟨m, e1, _, w1⟩ := DataW.trod_int Tryz.underlying3 g1
        obtain ⟨y, e2, hy, hq, b2⟩ := trodU_num rfl g2
        obtain ⟨s, e3, hs, hsm⟩ := DataW.trod_string Tryz.underlying9 g3
        obtain ⟨ro, rc, rl, e4, hr, hrc, hrm, b4⟩ := trodU_bytes g4
        obtain ⟨lo, lc, ts, e5, hlc, hlm, hrt, hrd, b5⟩ := trodU_data (fun n' hn' => ih n' (by omega)) g5
        have bk := bounds_i64 w0
        have bm := bounds_i64 w1
        refine ⟨.mk ⟨k, m, y, s, ro, rc, rl, lo, lc⟩ ts, ?_, ?_, ?_⟩
        · injection e0 with f0
          injection e1 with f1
          injection e3 with f3
          injection e2 with e20 g
          injection g with e21 g
          injection g with e22 g
          injection g with e23 g
          injection g with e24 g
          injection g with e25 g
          subst f0 f1 f3 e4 e5 e20 e21 e22 e23 e24 e25
          rfl
        · rw [Dt.rd_iff]
          exact ⟨⟨hy, hq, hr, hrc, hrm, bk.1, bk.2, bm.1, bm.2, hsm⟩, hlc, hlm, hrt, hrd⟩
        · rw [Dt.tr_mk, trbulk_mk, hx, bulk_agg]
          have h3 : Rows.uptoBulk x3.1 = s.size + 1 := by
            rw [hs]
            rw [show Rows.uptoBulk (DataW.lit (H := H) (.string s.data.toList)) = s.data.toList.length + 1 from by simp only [Rows.uptoBulk], Array.length_toList]
            rfl
          simp only [List.map_cons, List.map_nil, Rows.uptoBulkAll]
          have := bulk_pos x0.1
          omega
theorem open_datum {base : Nat} {v : Value} {d : DataW H} {p : List MemPlace} (hv : Value.okWide Tryz.prog W .any base 38 v) (h : DataW.Trod enc Tryz.prog W 0 (fun _ => true) true 38 v d p) :
    ∃ t : Dt, v = .agg t.cells.toArray ∧ t.rd W ∧ t.tr.bulk ≤ Rows.uptoBulk d := by
  obtain ⟨cs, rfl, hsz⟩ := okWide_struct Tryz.underlying38 hv
  obtain ⟨fuel, hf⟩ := h
  obtain ⟨t, e, hr, hb⟩ := open_dt fuel _ _ hf
  refine ⟨t, ?_, hr, hb⟩
  rw [← e]
  rfl
end
end Go.Proofs.YtjlpecapebhgjaaGreatDoor.G
