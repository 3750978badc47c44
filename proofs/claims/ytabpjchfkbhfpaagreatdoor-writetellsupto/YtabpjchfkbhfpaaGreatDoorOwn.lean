/- Small facts on rows that a call has made, and on a text's iterator beside them; a list of characters turned into a text. -/
import Derived.Test.YtabpjchfkbhfpaaGreatDoorText
import Derived.WalkKit
import Derived.WalkSpells
import Derived.WalkSmall
import Derived.Lib.OthersKept
import Derived.Laws.Cover4
namespace Go.Proofs.YtabpjchfkbhfpaaGreatDoor
open Go.RowKit
set_option linter.unusedVariables false
set_option linter.unusedSimpArgs false

theorem retI {k : IntKind} {a b : Int} (h : a = b) : Ending.returned (.int k a) = .returned (.int k b) := by rw [h]
theorem retB {a b : Bool} (h : a = b) : Ending.returned (.bool a) = .returned (.bool b) := by rw [h]
theorem retS {a b : ByteArray} (h : a = b) : Ending.returned (.string a) = .returned (.string b) := by rw [h]

section
variable {w w' : World} {base : Nat} {e : TypeId} {size : Nat} {v : Value} {n : Nat} {xs : List Value}

theorem owns_below (h : w.ownsRow base e size v n xs) (hb : Below w.heap.size w w') : w'.ownsRow base e size v n xs := by
  obtain ⟨h1, h2⟩ := h
  refine ⟨h1, ?_⟩
  rcases h2 with h2 | ⟨g, cap, cur, a, b, c, d⟩
  · exact .inl h2
  · exact .inr ⟨g, cap, cur, a, b, (hb.block g (Array.getElem?_eq_some_iff.1 c).1).trans c, d⟩
theorem heap_below {k : Nat} {o : Obj} (hk : w.heap[k]? = some o) (hb : Below w.heap.size w w') : w'.heap[k]? = some o :=
  (hb.block k (Array.getElem?_eq_some_iff.1 hk).1).trans hk
theorem owns_iterAt (h : w.ownsRow base e size v n xs) {k : Nat} {s : ByteArray} {pos : Nat} (hk : w.heap[k]? = some (.stringIter s pos)) (p : Nat) : (w.iterAt k s p).ownsRow base e size v n xs := by
  obtain ⟨h1, h2⟩ := h
  refine ⟨h1, ?_⟩
  rcases h2 with h2 | ⟨g, cap, cur, a, b, c, d⟩
  · exact .inl h2
  · refine .inr ⟨g, cap, cur, a, b, ?_, d⟩
    have hne : g ≠ k := by
      intro e1
      rw [e1, hk] at c
      cases c
    exact (Lib.iterAt_other w k g s p hne).trans c
/-- What append does to an owned row leaves a text's iterator. -/
theorem iter_grown (h : w.ownsRow base e size v n xs) (hg : w.grownBy w' v.ownBlock) {k : Nat} {s : ByteArray} {pos : Nat} (hk : w.heap[k]? = some (.stringIter s pos)) : w'.heap[k]? = some (.stringIter s pos) := by
  have hlt : k < w.heap.size := (Array.getElem?_eq_some_iff.1 hk).1
  refine (hg.block k hlt ?_).trans hk
  intro hh
  rcases h.2 with ⟨rfl, _⟩ | ⟨g, cap, cur, rfl, b, c, d⟩
  · simp [Value.ownBlock] at hh
  · simp [Value.ownBlock] at hh
    rw [← hh, hk] at c
    cases c
theorem heap_alloc {k : Nat} {o : Obj} (hk : w.heap[k]? = some o) (o' : Obj) : (w.alloc o').heap[k]? = some o := by
  have hlt : k < w.heap.size := (Array.getElem?_eq_some_iff.1 hk).1
  exact (heap_alloc_old w o' hlt).trans hk
theorem below_grown {B : Nat} {a : World} (hb : Below B a w) (h : w.ownsRow base e size v n xs) (hg : w.grownBy w' v.ownBlock) (hB : B ≤ w.heap.size) (hbase : B ≤ base) : Below B a w' :=
  hb.grown hg hB (fun k hk => Nat.le_trans hbase (h.lt k hk).1)
theorem ownCell_one (w : World) (a : Value) (t : TypeId) : ∀ j u, [a][j]? = some u → (w.alloc (.cells #[a] t)).cell? ((⟨w.heap.size, 0, none⟩ : Addr).add j) = some u := by
  intro j u hj
  match j, hj with
  | 0, hj => simp at hj; subst hj; simp [Addr.add]
/-- The row's shape: nil, or a block of its own with the elements at its head. -/
theorem owns_form (h : w.ownsRow base e 1 v n xs) (hne : v ≠ .slice none 0 0) : ∃ g cap, v = .slice (some ⟨g, 0, none⟩) n cap ∧ base ≤ g ∧ g < w.heap.size ∧ (∀ j, j < n → w.cell? ⟨g, j, none⟩ = xs[j]?) := by
  rcases h.2 with ⟨h2, _⟩ | ⟨g, cap, cur, hv, b, c, d⟩
  · exact absurd h2 hne
  · refine ⟨g, cap, hv, b, (Array.getElem?_eq_some_iff.1 c).1, ?_⟩
    intro j hj
    have hx : j < xs.length := by rw [h.1]; omega
    have := h.cells (g := g) (by rw [hv]; rfl) j xs[j] (by simp [hx])
    rw [Addr.add_lit] at this
    simp only [Nat.zero_add] at this
    rw [this]
    simp [hx]
end

theorem builderAt_below {T e : TypeId} {B b : Nat} {p : Value} {bs : List Value} {w w' : World} (h : Lib.BuilderAtF T e B b p bs w) (hb : Below w.heap.size w w') : Lib.BuilderAtF T e B b p bs w' := by
  obtain ⟨hB, v, hbk, ⟨h1, h2⟩, hne⟩ := h
  refine ⟨hB, v, heap_below hbk hb, ⟨h1, ?_⟩, hne⟩
  rcases h2 with h2 | ⟨g, cap, cur, fz, a, b, c, d⟩
  · exact .inl h2
  · exact .inr ⟨g, cap, cur, fz, a, b, heap_below c hb, d⟩
theorem builder_below {T e : TypeId} {B b : Nat} {bs : List Value} {w w' : World} (h : Lib.IsBuilderF T e B b bs w) (hb : Below w.heap.size w w') : Lib.IsBuilderF T e B b bs w' :=
  h.elim (fun x => .inl (builderAt_below x hb)) (fun x => .inr (builderAt_below x hb))

/-- A character's bytes, as the model writes them. -/
theorem encode_valid (r : Int) (hv : ValidR r) : (Utf8.encode r).data.toList = Lib.encodeRune r := by
  obtain ⟨h0, h1, h2⟩ := hv
  have hval : Utf8.valid r = true := by
    unfold Utf8.valid
    simp
    omega
  unfold Utf8.encode
  simp only [hval, if_true]
  unfold Lib.encodeRune
  by_cases a : r ≤ 127
  · rw [Lib.encodeRuneZ_one h0 a, if_pos (by omega)]
    simp [Nat.toUInt8]
  · by_cases b : r ≤ 2047
    · rw [Lib.encodeRuneZ_two (by omega) b, if_neg (by omega), if_pos (by omega)]
      have e1 : (192 + r / 64).toNat = 192 + r.toNat / 64 := by omega
      have e2 : (128 + r % 64).toNat = 128 + r.toNat % 64 := by omega
      simp [Nat.toUInt8, e1, e2]
    · by_cases c : r ≤ 65535
      · rw [Lib.encodeRuneZ_three (by omega), if_neg (by omega), if_neg (by omega), if_pos (by omega)]
        have e1 : (224 + r / 4096).toNat = 224 + r.toNat / 4096 := by omega
        have e2 : (128 + r / 64 % 64).toNat = 128 + r.toNat / 64 % 64 := by omega
        have e3 : (128 + r % 64).toNat = 128 + r.toNat % 64 := by omega
        simp [Nat.toUInt8, e1, e2, e3]
      · rw [Lib.encodeRuneZ_four (by omega) (by omega), if_neg (by omega), if_neg (by omega), if_neg (by omega)]
        have e1 : (240 + r / 262144).toNat = 240 + r.toNat / 262144 := by omega
        have e2 : (128 + r / 4096 % 64).toNat = 128 + r.toNat / 4096 % 64 := by omega
        have e3 : (128 + r / 64 % 64).toNat = 128 + r.toNat / 64 % 64 := by omega
        have e4 : (128 + r % 64).toNat = 128 + r.toNat % 64 := by omega
        simp [Nat.toUInt8, e1, e2, e3, e4]
theorem foldl_enc : ∀ (ns : List Int) (s : ByteArray), (∀ r ∈ ns, ValidR r) → (ns.foldl (fun r n => r ++ Utf8.encode n) s).data.toList = s.data.toList ++ encs ns
  | [], s, _ => by simp [encs]
  | n :: ns, s, h => by
    rw [List.foldl_cons, foldl_enc ns _ (fun x hx => h x (by simp [hx]))]
    have : (s ++ Utf8.encode n).data.toList = s.data.toList ++ (Utf8.encode n).data.toList := by
      simp [ByteArray.data_append]
    rw [this, encode_valid n (h n (by simp))]
    simp [encs]
theorem runesBytes_eq (ns : List Int) (h : ∀ r ∈ ns, ValidR r) : runesBytes ns = ⟨(encs ns).toArray⟩ := by
  have e := foldl_enc ns ByteArray.empty h
  have e2 : (ByteArray.empty).data.toList = [] := rfl
  rw [e2, List.nil_append] at e
  unfold runesBytes
  generalize hx : ns.foldl (fun r n => r ++ Utf8.encode n) ByteArray.empty = X at *
  cases X with
  | mk d =>
    simp only at e
    congr 1
    rw [← e]

/-- One step of a text that is gone through character by character. -/
theorem runes_at (s : ByteArray) (pos : Nat) (hp : pos < s.size) :
    runes (s.data.toList.drop pos) = ((Utf8.decode s pos).1 : Int) :: runes (s.data.toList.drop (pos + (Utf8.decode s pos).2)) := by
  have hne : s.data.toList.drop pos ≠ [] := by
    intro h
    have := congrArg List.length h
    rw [List.length_drop, ← Lib.size_eq] at this
    simp at this
    omega
  rw [runes_step _ hne, Lib.decodeL_drop, List.drop_drop]
theorem runes_over (s : ByteArray) (pos : Nat) (hp : ¬ pos < s.size) : runes (s.data.toList.drop pos) = [] := by
  have : s.data.toList.drop pos = [] := List.drop_eq_nil_of_le (by rw [← Lib.size_eq]; omega)
  rw [this]
  rfl
theorem width_at (s : ByteArray) (pos : Nat) (h : pos < s.size) : 1 ≤ (Utf8.decode s pos).2 := by
  by_cases ha : (s[pos]'h).toNat < 128
  · rw [decode_ascii s pos h ha]
    exact Nat.le_refl _
  · exact (decode_high s pos h (by omega)).2
end Go.Proofs.YtabpjchfkbhfpaaGreatDoor
