/- Natural numbers as lists of words of 32 bits, the lowest first: what a list is worth, and the one list without noughts on top that a number has. Rows of words in memory: what a slice of words reads as, and rows that a call has made itself. Walks of the smallest pieces: a word at a place, sums of words, noughts cut off. Walks of the order of numbers, of what is sound, and of what fits. Walks of the order of two numbers. Walks of sums: the program's own, and what fits. Walks of the sums that are asked for, of the comparison, and of the fixed fact. Walks of products, the program's own and the document's. Walks of products, the program's own. The digits of a long division: what the guess of a digit is worth. Operations on bits of whole numbers that are not negative, as the walk spells them. Walks of the pieces of a long division that write in place. Walks: a multiple of the divisor taken off in place, and the divisor added back. Walks of shifts, the program's own. Walks: the guess of a digit, and the digit. Walks of the document's sums and products. The library's contracts, as theorems of this program. How many bits a number has. Walks of Bits and Of, and of the document's bits. Copies of slices of words. Walks: a division by one word, a copy, and how far a word is from its top. Walk of the long division. Walk of the long division. Slices of words that come in as arguments. Walk of the long division by two words and more. Walk of Div. Walks of the square root. Euclid's pairs by the top bits of both numbers: why a later pair has the same greatest common divisor, and is smaller. And the divisor by halves and differences. Walks of the pieces of the common divisor: the 64 bits from one bit on, and at most two words as one number. Walk of Euclid's steps by the top bits. Walks of differences and orders, the program's own and the document's. Walk of a later pair of Euclid's. Walks of the common divisor, and of Gcd. Whole numbers of the program, as a sign and a size: what a value stands for, and walks of signed and opposite. Walks of products, sums of whole numbers. Walks of sums of whole numbers. Walks of sums of whole numbers whose order is turned; of all sums; and of products with natural numbers. -/
import Derived.WalkKit
import Derived.WalkSpells
import Derived.WalkSmall
import Derived.Deep.OwnRows
import Derived.Test.YteghiinbafbokaaProg
import Derived.Deep.RegionWith
import Derived.BigRegion
import Derived.Laws.AppendOwnNone
import Derived.Laws.Entries
import Derived.Shelf.Small.Bits
import Derived.Lib.BitFns
import Derived.Lib.SliceRun
import Derived.Laws.CopyOwn
import Derived.ChangeOld
import Derived.ProofKit
import Derived.OpenShut
import Derived.Deep.LoopGhost
import Derived.Laws.ResultCell
import Derived.Deep.RegionHeld
import Derived.Deep.Cut
import Derived.Deep.CutRange
import Derived.Deep.DeepCutAuto
namespace Go.Proofs.Yteghiinbafbokaa
set_option linter.unusedVariables false
set_option linter.unusedSimpArgs false

/-- What a list of words is worth. -/
def val : List Nat → Nat
  | [] => 0
  | d :: l => d + 4294967296 * val l
/-- Each is a word. -/
def Dig (l : List Nat) : Prop := ∀ x ∈ l, x < 4294967296
/-- A number's words. -/
def words (n : Nat) : List Nat := if h : n = 0 then [] else n % 4294967296 :: words (n / 4294967296)
termination_by n
decreasing_by exact Nat.div_lt_self (by omega) (by omega)

/-- A power of the words' base, by a name that nothing unfolds. -/
def pw (i : Nat) : Nat := 4294967296 ^ i
theorem pw_zero : pw 0 = 1 := rfl
theorem pw_succ (i : Nat) : pw (i + 1) = 4294967296 * pw i := by unfold pw; rw [Nat.pow_succ, Nat.mul_comm]
theorem pw_add (i j : Nat) : pw (i + j) = pw i * pw j := by unfold pw; rw [Nat.pow_add]
theorem pw_pos (i : Nat) : 0 < pw i := Nat.pow_pos (by omega)
theorem pw_le {i j : Nat} (h : i ≤ j) : pw i ≤ pw j := Nat.pow_le_pow_right (by omega) h
theorem pw_lt {i j : Nat} (h : i < j) : pw i < pw j := Nat.pow_lt_pow_right (by omega) h
theorem pw_two (i : Nat) : pw i = 2 ^ (32 * i) := by unfold pw; rw [Nat.pow_mul]

theorem val_nil : val [] = 0 := rfl
theorem val_cons (d : Nat) (l : List Nat) : val (d :: l) = d + 4294967296 * val l := rfl
theorem val_append (a b : List Nat) : val (a ++ b) = val a + pw a.length * val b := by
  induction a with
  | nil => simp [val, pw_zero]
  | cons d l ih =>
    rw [List.cons_append, val_cons, val_cons, ih, List.length_cons, pw_succ, Nat.mul_add, Nat.mul_assoc]
    omega
theorem val_snoc (a : List Nat) (d : Nat) : val (a ++ [d]) = val a + pw a.length * d := by
  rw [val_append]
  simp [val]
theorem dig_nil : Dig [] := by intro x hx; simp at hx
theorem dig_cons {d : Nat} {l : List Nat} : Dig (d :: l) ↔ d < 4294967296 ∧ Dig l := by simp [Dig]
theorem dig_append {a b : List Nat} : Dig (a ++ b) ↔ Dig a ∧ Dig b := by
  simp [Dig]
  constructor
  · intro h
    exact ⟨fun x hx => h x (.inl hx), fun x hx => h x (.inr hx)⟩
  · rintro ⟨h1, h2⟩ x (hx | hx)
    · exact h1 x hx
    · exact h2 x hx
theorem Dig.take {l : List Nat} (h : Dig l) (n : Nat) : Dig (l.take n) := fun x hx => h x (List.mem_of_mem_take hx)
theorem Dig.drop {l : List Nat} (h : Dig l) (n : Nat) : Dig (l.drop n) := fun x hx => h x (List.mem_of_mem_drop hx)
theorem Dig.set {l : List Nat} (h : Dig l) (i d : Nat) (hd : d < 4294967296) : Dig (l.set i d) := by
  intro x hx
  rcases List.mem_or_eq_of_mem_set hx with h1 | h1
  · exact h x h1
  · omega
theorem Dig.getD {l : List Nat} (h : Dig l) (i : Nat) : l.getD i 0 < 4294967296 := by
  by_cases hi : i < l.length
  · have : l.getD i 0 = l[i] := by simp [hi]
    rw [this]
    exact h _ (List.getElem_mem hi)
  · have : l.getD i 0 = 0 := by simp [List.getElem?_eq_none (by omega : l.length ≤ i)]
    omega
theorem dig_replicate (n : Nat) : Dig (List.replicate n 0) := by
  intro x hx
  have := (List.mem_replicate.1 hx).2
  omega
theorem val_replicate (n : Nat) : val (List.replicate n 0) = 0 := by
  induction n with
  | zero => rfl
  | succ n ih => rw [List.replicate_succ, val_cons, ih]
theorem val_lt {l : List Nat} (h : Dig l) : val l < pw l.length := by
  induction l with
  | nil => simp [val, pw_zero]
  | cons d l ih =>
    have h1 := dig_cons.1 h
    have := ih h1.2
    rw [val_cons, List.length_cons, pw_succ]
    omega
theorem val_take_succ (l : List Nat) (i : Nat) : val (l.take (i + 1)) = val (l.take i) + pw i * l.getD i 0 := by
  by_cases hi : i < l.length
  · rw [List.take_succ_eq_append_getElem hi, val_snoc, List.length_take, Nat.min_eq_left (by omega)]
    simp [hi]
  · have e : l.getD i 0 = 0 := by simp [List.getElem?_eq_none (by omega : l.length ≤ i)]
    rw [List.take_of_length_le (by omega), List.take_of_length_le (by omega), e]
    omega
theorem take_set_succ (l : List Nat) (i d : Nat) (hi : i < l.length) : (l.set i d).take (i + 1) = l.take i ++ [d] := by
  rw [List.take_succ_eq_append_getElem (by simpa using hi), List.take_set_of_le (by omega)]
  simp
theorem val_set_take (l : List Nat) (i d : Nat) (hi : i < l.length) : val ((l.set i d).take (i + 1)) = val (l.take i) + pw i * d := by
  rw [take_set_succ l i d hi, val_snoc, List.length_take, Nat.min_eq_left (by omega)]
theorem val_split (l : List Nat) (k : Nat) : val l = val (l.take k) + pw (min k l.length) * val (l.drop k) := by
  have := val_append (l.take k) (l.drop k)
  rw [List.take_append_drop, List.length_take] at this
  exact this

/-! ### The words of a number -/
theorem words_zero : words 0 = [] := by unfold words; simp
theorem words_pos {n : Nat} (h : n ≠ 0) : words n = n % 4294967296 :: words (n / 4294967296) := by
  rw [words]
  simp [h]
theorem val_words (n : Nat) : val (words n) = n := by
  induction n using Nat.strongRecOn with
  | _ n ih =>
    by_cases h : n = 0
    · subst h; rw [words_zero]; rfl
    · rw [words_pos h, val_cons, ih _ (Nat.div_lt_self (by omega) (by omega))]
      omega
theorem words_dig (n : Nat) : Dig (words n) := by
  induction n using Nat.strongRecOn with
  | _ n ih =>
    by_cases h : n = 0
    · subst h; rw [words_zero]; exact dig_nil
    · rw [words_pos h]
      exact dig_cons.2 ⟨Nat.mod_lt _ (by omega), ih _ (Nat.div_lt_self (by omega) (by omega))⟩
theorem words_eq_nil {n : Nat} : words n = [] ↔ n = 0 := by
  constructor
  · intro h
    by_cases hn : n = 0
    · exact hn
    · rw [words_pos hn] at h
      cases h
  · intro h
    subst h
    exact words_zero
/-- A list without a nought on top. -/
def Top (l : List Nat) : Prop := l = [] ∨ l.getD (l.length - 1) 0 ≠ 0
theorem words_of {l : List Nat} (hd : Dig l) (ht : Top l) : words (val l) = l := by
  induction l with
  | nil => exact words_zero
  | cons d l ih =>
    have h1 := dig_cons.1 hd
    have hl : Top l := by
      rcases l with _ | ⟨e, l⟩
      · exact .inl rfl
      · rcases ht with h | h
        · cases h
        · right
          simpa using h
    have e := ih h1.2 hl
    have hne : val (d :: l) ≠ 0 := by
      rw [val_cons]
      intro h0
      have hv : val l = 0 := by omega
      rw [hv, words_zero] at e
      subst e
      rcases ht with h | h
      · cases h
      · simp at h
        omega
    rw [words_pos hne]
    have e1 : val (d :: l) % 4294967296 = d := by rw [val_cons]; omega
    have e2 : val (d :: l) / 4294967296 = val l := by rw [val_cons]; omega
    rw [e1, e2, e]
theorem words_top (n : Nat) : Top (words n) := by
  induction n using Nat.strongRecOn with
  | _ n ih =>
    by_cases h : n = 0
    · subst h; exact .inl words_zero
    · right
      rw [words_pos h]
      by_cases h2 : n / 4294967296 = 0
      · rw [h2, words_zero]
        simp
        omega
      · rcases ih (n / 4294967296) (Nat.div_lt_self (by omega) (by omega)) with h3 | h3
        · exact absurd (words_eq_nil.1 h3) h2
        · rcases hw : words (n / 4294967296) with _ | ⟨e, l⟩
          · exact absurd (words_eq_nil.1 hw) h2
          · rw [hw] at h3
            simpa using h3
theorem words_inj {a b : Nat} (h : words a = words b) : a = b := by
  have := congrArg val h
  rwa [val_words, val_words] at this
/-- Two lists without noughts on top that are worth the same are the same. -/
theorem top_inj {a b : List Nat} (ha : Dig a) (ta : Top a) (hb : Dig b) (tb : Top b) (h : val a = val b) : a = b := by
  rw [← words_of ha ta, ← words_of hb tb, h]
theorem words_lt (n : Nat) : n < pw (words n).length := by
  have := val_lt (words_dig n)
  rwa [val_words] at this
theorem words_ge {n : Nat} (h : n ≠ 0) : pw ((words n).length - 1) ≤ n := by
  induction n using Nat.strongRecOn with
  | _ n ih =>
    rw [words_pos h, List.length_cons, Nat.add_sub_cancel]
    by_cases h2 : n / 4294967296 = 0
    · rw [h2, words_zero]
      simp [pw_zero]
      omega
    · have := ih _ (Nat.div_lt_self (by omega) (by omega)) h2
      have hl : (words (n / 4294967296)).length ≠ 0 := by
        intro e
        exact h2 (words_eq_nil.1 (List.length_eq_zero_iff.1 e))
      obtain ⟨m, hm⟩ : ∃ m, (words (n / 4294967296)).length = m + 1 := ⟨_, (Nat.succ_pred_eq_of_pos (by omega)).symm⟩
      rw [hm] at this ⊢
      rw [pw_succ]
      simp at this
      omega
theorem words_length_le {n k : Nat} (h : n < pw k) : (words n).length ≤ k := by
  by_cases h0 : n = 0
  · subst h0; rw [words_zero]; simp
  · apply Classical.byContradiction
    intro h1
    have h2 := words_ge h0
    have h3 : pw k ≤ pw ((words n).length - 1) := pw_le (by omega)
    omega
theorem words_length_iff {n k : Nat} : (words n).length ≤ k ↔ n < pw k :=
  ⟨fun h => Nat.lt_of_lt_of_le (words_lt n) (pw_le h), words_length_le⟩
theorem words_mono {a b : Nat} (h : a ≤ b) : (words a).length ≤ (words b).length := words_length_le (Nat.lt_of_le_of_lt h (words_lt b))
theorem words_getD (n i : Nat) : (words n).getD i 0 = n / pw i % 4294967296 := by
  induction i generalizing n with
  | zero =>
    by_cases h : n = 0
    · subst h; rw [words_zero]; simp
    · rw [words_pos h]; simp [pw_zero]
  | succ i ih =>
    by_cases h : n = 0
    · subst h; rw [words_zero]; simp
    · rw [words_pos h, List.getD_cons_succ, ih, Nat.div_div_eq_div_mul, pw_succ]
/-- The words of a list without its noughts on top. -/
theorem words_take {l : List Nat} (hd : Dig l) (k : Nat) (hk : k ≤ l.length) (hv : val (l.take k) = val l) (ht : k = 0 ∨ l.getD (k - 1) 0 ≠ 0) : l.take k = words (val l) := by
  rw [← hv]
  refine (words_of (hd.take k) ?_).symm
  rcases ht with h | h
  · subst h; exact .inl rfl
  · by_cases hk0 : k = 0
    · subst hk0; exact .inl rfl
    · right
      rw [List.length_take, Nat.min_eq_left hk]
      have : (l.take k).getD (k - 1) 0 = l.getD (k - 1) 0 := by
        simp only [List.getD_eq_getElem?_getD]
        rw [List.getElem?_take, if_pos (by omega)]
      rw [this]
      exact h
theorem val_take_pred {l : List Nat} (k : Nat) (h0 : k ≠ 0) (h : l.getD (k - 1) 0 = 0) : val (l.take (k - 1)) = val (l.take k) := by
  obtain ⟨m, rfl⟩ : ∃ m, k = m + 1 := ⟨k - 1, by omega⟩
  rw [val_take_succ]
  simp only [Nat.add_sub_cancel] at h ⊢
  rw [h]
  omega
theorem words_mod (n i : Nat) : val ((words n).take i) = n % pw i := by
  induction i with
  | zero => simp [val, pw_zero, Nat.mod_one]
  | succ i ih =>
    rw [val_take_succ, ih, words_getD, pw_succ, Nat.mul_comm 4294967296 (pw i), Nat.mod_mul]
/-- The order of two lists: their lengths first. -/
theorem lt_of_words_length {a b : Nat} (h : (words a).length < (words b).length) : a < b := by
  apply Classical.byContradiction
  intro h1
  have := words_mono (Nat.le_of_not_lt h1)
  omega
/-- Then the highest word in which they part. -/
theorem order_step (a b k : Nat) (h : a / pw (k + 1) = b / pw (k + 1)) :
    (a / pw k % 4294967296 = b / pw k % 4294967296 → a / pw k = b / pw k) ∧ (a / pw k % 4294967296 < b / pw k % 4294967296 → a < b) ∧ (b / pw k % 4294967296 < a / pw k % 4294967296 → b < a) := by
  have e : ∀ x : Nat, x / pw (k + 1) = x / pw k / 4294967296 := by
    intro x
    rw [pw_succ, Nat.mul_comm, Nat.div_div_eq_div_mul]
  rw [e, e] at h
  have m : ∀ x y : Nat, x / pw k < y / pw k → x < y := by
    intro x y hxy
    apply Classical.byContradiction
    intro h1
    have := Nat.div_le_div_right (c := pw k) (Nat.le_of_not_lt h1)
    omega
  refine ⟨fun h1 => by omega, fun h1 => m _ _ (by omega), fun h1 => m _ _ (by omega)⟩
theorem div_words_length (a : Nat) (k : Nat) (h : (words a).length ≤ k) : a / pw k = 0 := Nat.div_eq_of_lt (words_length_iff.1 h)
theorem list_of_getD {a b : List Nat} (hl : a.length = b.length) (h : ∀ i, i < a.length → a.getD i 0 = b.getD i 0) : a = b := by
  apply List.ext_getElem hl
  intro i h1 h2
  have := h i h1
  simpa [h1, h2] using this
end Go.Proofs.Yteghiinbafbokaa
namespace Go.Proofs.Yteghiinbafbokaa
open Go.RowKit
set_option linter.unusedVariables false
set_option linter.unusedSimpArgs false

/-- How long the slice in a slot is. -/
def lenOf : Value → Nat | .slice _ n _ => n | _ => 0

def U (l : List Nat) : List Value := l.map (fun (x : Nat) => Value.int .u32 (x : Int))
theorem U_length (l : List Nat) : (U l).length = l.length := by simp [U]
theorem U_nil : U [] = [] := rfl
theorem U_append (a b : List Nat) : U (a ++ b) = U a ++ U b := by simp [U]
theorem U_cons (x : Nat) (l : List Nat) : U (x :: l) = .int .u32 (x : Int) :: U l := rfl
theorem U_get (l : List Nat) (j : Nat) (h : j < l.length) : (U l)[j]? = some (.int .u32 ((l.getD j 0 : Nat) : Int)) := by simp [U, h]
theorem U_one (l : List Nat) : ∀ u ∈ U l, u.oneCell' = true := by
  intro u hu
  obtain ⟨x, _, rfl⟩ := List.mem_map.1 hu
  rfl
theorem U_set (l : List Nat) (j d : Nat) : U (l.set j d) = (U l).set j (.int .u32 (d : Int)) := by simp [U, List.map_set]

/-- The slice whose first cell is at 'ao' reads as these words. -/
structure Rd (w : World) (ao : Option Addr) (l : List Nat) : Prop where
  dig : Dig l
  pos : l ≠ [] → ∃ b off, ao = some ⟨b, off, none⟩ ∧ b < w.heap.size ∧ ∀ j, j < l.length → w.cell? ⟨b, off + j, none⟩ = some (.int .u32 ((l.getD j 0 : Nat) : Int))

theorem cell_lt {w : World} {b off : Nat} {v : Value} (h : w.cell? ⟨b, off, none⟩ = some v) : b < w.heap.size := by
  apply Classical.byContradiction
  intro h1
  have : w.heap[b]? = none := Array.getElem?_eq_none (by omega)
  simp [World.cell?, this] at h

theorem Rd.nil (w : World) (ao : Option Addr) : Rd w ao [] := ⟨dig_nil, fun h => absurd rfl h⟩
theorem Rd.below {w w' : World} {ao : Option Addr} {l : List Nat} (h : Rd w ao l) (hb : Below w.heap.size w w') : Rd w' ao l := by
  refine ⟨h.dig, fun hne => ?_⟩
  obtain ⟨b, off, h1, h2, h3⟩ := h.pos hne
  exact ⟨b, off, h1, Nat.lt_of_lt_of_le h2 hb.size, fun j hj => (hb.cell (by exact h2)).trans (h3 j hj)⟩
/-- .. and below a number that its block lies below. -/
theorem Rd.under {w w' : World} {ao : Option Addr} {l : List Nat} {B : Nat} (h : Rd w ao l) (hlt : ∀ a, ao = some a → a.block < B) (hb : Below B w w') : Rd w' ao l := by
  refine ⟨h.dig, fun hne => ?_⟩
  obtain ⟨b, off, h1, h2, h3⟩ := h.pos hne
  exact ⟨b, off, h1, Nat.lt_of_lt_of_le h2 hb.size, fun j hj => (hb.cell (p := ⟨b, off + j, none⟩) (hlt ⟨b, off, none⟩ h1)).trans (h3 j hj)⟩
theorem Rd.grown {w w' : World} {ao : Option Addr} {l : List Nat} {g : Option Nat} (h : Rd w ao l) (hg : w.grownBy w' g) (hne : ∀ a, ao = some a → some a.block ≠ g) : Rd w' ao l := by
  refine ⟨h.dig, fun hn => ?_⟩
  obtain ⟨b, off, h1, h2, h3⟩ := h.pos hn
  refine ⟨b, off, h1, Nat.lt_of_lt_of_le h2 hg.size, fun j hj => ?_⟩
  rw [← h3 j hj]
  exact World.cell?_of_block (w := w) (hg.block b h2 (hne _ h1))
theorem Rd.take {w : World} {ao : Option Addr} {l : List Nat} (h : Rd w ao l) (n : Nat) : Rd w ao (l.take n) := by
  refine ⟨h.dig.take n, fun hn => ?_⟩
  obtain ⟨b, off, h1, h2, h3⟩ := h.pos (fun e => hn (by rw [e]; simp))
  refine ⟨b, off, h1, h2, fun j hj => ?_⟩
  rw [List.length_take] at hj
  rw [h3 j (by omega)]
  simp only [List.getD_eq_getElem?_getD]
  rw [List.getElem?_take, if_pos (by omega)]
theorem Rd.drew {w : World} {ao : Option Addr} {l : List Nat} (h : Rd w ao l) : Rd w.drew ao l := h.below (Below.refl _ w).drew

/-- A row of words of the call's own: nil, or at the head of a block from B on. -/
structure Own (B : Nat) (w : World) (ao : Option Addr) (cap : Nat) (l : List Nat) : Prop where
  dig : Dig l
  row : w.ownsRow B 41 1 (.slice ao l.length cap) l.length (U l)

section
variable {B : Nat} {w w' : World} {ao : Option Addr} {cap : Nat} {l : List Nat} {g : Nat}
theorem Own.nil (B : Nat) (w : World) : Own B w none 0 [] := ⟨dig_nil, World.ownsRow_nil _ _ _ _⟩
theorem Own.rd (h : Own B w ao cap l) : Rd w ao l := by
  refine ⟨h.dig, fun hne => ?_⟩
  rcases h.row.2 with ⟨h2, h3⟩ | ⟨g, cap, cur, hv, b, c, d⟩
  · exact absurd (List.length_eq_zero_iff.1 h3) hne
  · simp only [Value.slice.injEq] at hv
    obtain ⟨rfl, _, rfl⟩ := hv
    refine ⟨g, 0, rfl, (Array.getElem?_eq_some_iff.1 c).1, fun j hj => ?_⟩
    rw [Nat.zero_add, h.row.cellAt j (by omega), U_get l j hj]
theorem Own.lt (h : Own B w ao cap l) : ∀ a, ao = some a → B ≤ a.block ∧ a.block < w.heap.size := by
  intro a ha
  exact h.row.lt a.block (by rw [ha]; rfl)
theorem Own.lower {B' : Nat} (h : Own B w ao cap l) (hB : B' ≤ B) : Own B' w ao cap l := by
  refine ⟨h.dig, h.row.1, ?_⟩
  rcases h.row.2 with h2 | ⟨g, cap, cur, hv, b, c⟩
  · exact .inl h2
  · exact .inr ⟨g, cap, cur, hv, Nat.le_trans hB b, c⟩
theorem Own.kept {r : Option Nat} (h : Own B w ao cap l) (hg : w.grownBy w' r) (hne : ∀ a, ao = some a → some a.block ≠ r) : Own B w' ao cap l := by
  refine ⟨h.dig, h.row.kept hg ?_⟩
  cases ao with
  | none => exact .inl rfl
  | some a => exact .inr (hne a rfl)
theorem Own.below (h : Own B w ao cap l) (hb : Below w.heap.size w w') : Own B w' ao cap l :=
  h.kept (r := none) ⟨hb.os, hb.tape, hb.output, hb.size, fun k hk _ => hb.block k hk⟩ (fun a _ => by simp)
theorem Own.under {C : Nat} (h : Own B w ao cap l) (hlt : ∀ a, ao = some a → a.block < C) (hb : Below C w w') : Own B w' ao cap l := by
  refine ⟨h.dig, h.row.1, ?_⟩
  rcases h.row.2 with h2 | ⟨g, cap, cur, hv, b, c, d⟩
  · exact .inl h2
  · simp only [Value.slice.injEq] at hv
    refine .inr ⟨g, cap, cur, by rw [hv.1, hv.2.2], b, (hb.block g (hlt ⟨g, 0, none⟩ hv.1)).trans c, d⟩
theorem Own.alloc (h : Own B w ao cap l) (o : Obj) : Own B (w.alloc o) ao cap l := ⟨h.dig, h.row.alloc o⟩
theorem Own.drew (h : Own B w ao cap l) : Own B w.drew ao cap l := ⟨h.dig, h.row.drew⟩
theorem Own.cell (h : Own B w (some ⟨g, 0, none⟩) cap l) (j : Nat) (hj : j < l.length) : w.cell? ⟨g, j, none⟩ = some (.int .u32 ((l.getD j 0 : Nat) : Int)) := by
  rw [h.row.cellAt j (by omega), U_get l j hj]
theorem Own.frozen (h : Own B w (some ⟨g, 0, none⟩) cap l) (j : Nat) : w.frozen? ⟨g, j, none⟩ = false := h.row.frozenAt j
theorem Own.set (h : Own B w (some ⟨g, 0, none⟩) cap l) (j d : Nat) (hd : d < 4294967296) : Own B (w.setCell ⟨g, j, none⟩ (.int .u32 (d : Int))) (some ⟨g, 0, none⟩) cap (l.set j d) := by
  have := (h.row.stored j (.int .u32 (d : Int))).1
  refine ⟨h.dig.set j d hd, ?_⟩
  rw [List.length_set, U_set]
  exact this
theorem Own.setI (h : Own B w (some ⟨g, 0, none⟩) cap l) (j : Nat) (d : Int) (h0 : 0 ≤ d) (hd : d < 4294967296) : Own B (w.setCell ⟨g, j, none⟩ (.int .u32 d)) (some ⟨g, 0, none⟩) cap (l.set j d.toNat) := by
  have := h.set j d.toNat (by omega)
  rwa [Int.toNat_of_nonneg h0] at this
theorem Own.form (h : Own B w ao cap l) (hne : ao ≠ none) : ∃ g, ao = some ⟨g, 0, none⟩ ∧ B ≤ g ∧ g < w.heap.size := by
  rcases h.row.2 with ⟨h2, h3⟩ | ⟨g, cap, cur, hv, b, c, d⟩
  · simp only [Value.slice.injEq] at h2
    exact absurd h2.1 hne
  · simp only [Value.slice.injEq] at hv
    exact ⟨g, hv.1, b, (Array.getElem?_eq_some_iff.1 c).1⟩
theorem Own.caps (h : Own B w ao cap l) : l.length ≤ cap := by
  rcases h.row.2 with ⟨h2, h3⟩ | ⟨g, cap', cur, hv, b, c, d, _⟩
  · simp only [Value.slice.injEq] at h2
    omega
  · simp only [Value.slice.injEq] at hv
    omega
/-- The slice cut to its first k words. -/
theorem Own.cut (h : Own B w (some ⟨g, 0, none⟩) cap l) (k : Nat) (hk : k ≤ l.length) : Own B w (some ⟨g, 0, none⟩) cap (l.take k) := by
  refine ⟨h.dig.take k, ?_⟩
  have hl : (l.take k).length = k := by rw [List.length_take]; omega
  rcases h.row.2 with ⟨h2, _⟩ | ⟨g', cap', cur, hv, b, c, d, e, f, t⟩
  · simp at h2
  · simp only [Value.slice.injEq, Option.some.injEq, Addr.mk.injEq, and_true, true_and] at hv
    obtain ⟨rfl, rfl⟩ := hv
    refine ⟨by simp [U_length], .inr ⟨g, cap, cur, rfl, b, c, by omega, e, f, ?_⟩⟩
    rw [hl, U, List.map_take, show l.map _ = U l from rfl, ← t, List.take_take, Nat.min_eq_left (by omega), Nat.mul_one]
end
theorem Own.made (w : World) (n : Nat) (hn : n ≤ 70368744177664) : Own w.heap.size (w.alloc (.cells (madeCells #[.int .u32 0] n) 41)) (some ⟨w.heap.size, 0, none⟩) n (List.replicate n 0) := by
  refine ⟨dig_replicate n, ?_⟩
  have h := World.ownsRow_lit (e := 41) (size := 1) w (madeCells #[.int .u32 0] n) n (Nat.le_refl _) (by unfold maxLen; omega) (by rw [size_madeCells]; simp)
  have e : (madeCells #[.int .u32 0] n).toList = U (List.replicate n 0) := by
    apply List.ext_getElem
    · simp [size_madeCells, U]
    · intro i h1 h2
      simp [madeCells, U, Nat.mod_one]
  rw [e] at h
  rw [List.length_replicate]
  exact h
end Go.Proofs.Yteghiinbafbokaa
namespace Go.Proofs.Yteghiinbafbokaa
open Go.RowKit
set_option linter.unusedVariables false
set_option linter.unusedSimpArgs false

theorem infoU : (Try.prog.info? 41).map (fun i => (i.zero, i.size, i.bytes)) = some (some (.int .u32 0), 1, 4) := by kernel_rfl

set_option maxHeartbeats 4000000 in
set_option maxRecDepth 1000000 in
theorem wordAt_any {w : World} {ao : Option Addr} {l : List Nat} (cap k : Nat) (h : Rd w ao l) :
    Calls Try.prog 87 #[.slice ao l.length cap, .int .i64 (k : Int)] w fun e w' => e = .returned (.int .u32 ((l.getD k 0 : Nat) : Int)) ∧ w' = w := by
  by_cases hk : k < l.length
  · have hne : l ≠ [] := by intro e; subst e; simp at hk
    obtain ⟨b, off, rfl, hb, hc⟩ := h.pos hne
    have hcell := hc k hk
    generalize l.getD k 0 = x at *
    clear hc h hne
    go_enter Try.func87, Try.ntmps87
    go_wp2
    go_ret
    exact ⟨rfl, rfl⟩
  · have e : l.getD k 0 = 0 := by simp [List.getElem?_eq_none (by omega : l.length ≤ k)]
    rw [e]
    clear e h
    go_enter Try.func87, Try.ntmps87
    go_wp2
    go_ret
    exact ⟨rfl, rfl⟩

set_option maxHeartbeats 4000000 in
set_option maxRecDepth 1000000 in
theorem add32_any (x y c : Nat) (w : World) (hx : x < 4294967296) (hy : y < 4294967296) (hc : c < 4294967296) :
    Calls Try.prog 96 #[.int .u32 (x : Int), .int .u32 (y : Int), .int .u32 (c : Int)] w fun e w' => e = .returned (.tuple #[.int .u32 (((x + y + c) % 4294967296 : Nat) : Int), .int .u32 (((x + y + c) / 4294967296 : Nat) : Int)]) ∧ w' = w := by
  go_enter Try.func96, Try.ntmps96
  go_wp2
  go_ret2
  refine ⟨?_, rfl⟩
  congr 1

set_option maxHeartbeats 4000000 in
set_option maxRecDepth 1000000 in
theorem trim_any {B : Nat} {w : World} {ao : Option Addr} {cap : Nat} {l : List Nat} (h : Own B w ao cap l) (hl : l.length ≤ 1000000) :
    Calls Try.prog 88 #[.slice ao l.length cap] w fun e w' => e = .returned (.slice ao (words (val l)).length cap) ∧ Own B w ao cap (words (val l)) ∧ w' = w := by
  go_enter Try.func88, Try.ntmps88
  go_wp2
  go_loopw [0] (fun v wr => wr = w ∧ ∃ k : Nat, k ≤ l.length ∧ v = .slice ao k cap ∧ val (l.take k) = val l) (fun v _ => lenOf v)
  case atStart => exact ⟨rfl, l.length, Nat.le_refl _, rfl, by rw [List.take_length]⟩
  case round =>
    obtain ⟨rfl, k, hk, rfl, hv⟩ := hrel
    have hcap := h.caps
    have HV : Hid _ := hv
    clear hv
    by_cases h0 : k = 0
    · subst h0
      have hw : words (val l) = [] := by
        have := HV.out
        rw [List.take_zero] at this
        rw [← this]
        exact words_zero
      go_wp2
      go_ret
      refine ⟨by rw [hw]; rfl, ?_, rfl⟩
      rw [hw]
      cases ao with
      | none =>
        have : l.length = 0 := by
          rcases h.row.2 with ⟨_, h3⟩ | ⟨g, cap, cur, hv, _⟩
          · exact h3
          · simp at hv
        have e := List.length_eq_zero_iff.1 this
        subst e
        exact h
      | some a =>
        obtain ⟨g, e, _⟩ := h.form (by simp)
        cases e
        exact h.cut 0 (by omega)
    · have hne : ao ≠ none := by
        intro e
        subst e
        rcases h.row.2 with ⟨_, h3⟩ | ⟨g, cap, cur, hv, _⟩
        · omega
        · simp at hv
      obtain ⟨g, rfl, hg1, hg2⟩ := h.form hne
      have hcell := h.cell (k - 1) (by omega)
      have hx := h.dig.getD (k - 1)
      by_cases hz : l.getD (k - 1) 0 = 0
      · have hv' := val_take_pred k h0 hz
        rw [hz] at hcell
        have HP : Hid _ := hv'
        clear hv' hz hx h hne
        have e1 : ((k : Int) - 1).toNat = k - 1 := by omega
        have h1 : (0 : Int) < k := by omega
        go_wp2
        go_roundw
        case rel => exact ⟨trivial, k - 1, by omega, by simp, HP.out.trans HV.out⟩
        case measure => simp [lenOf]; omega
      · have hvv := words_take h.dig k hk HV.out (.inr hz)
        have ho := h.cut k hk
        rw [hvv] at ho
        have hlen : (words (val l)).length = k := by rw [← hvv, List.length_take]; omega
        have HO : Hid _ := ho
        have HL : Hid _ := hlen
        clear ho hlen hvv
        generalize l.getD (k - 1) 0 = x at *
        have hz' : ((x : Int) == 0) = false := by simp; omega
        clear h hne
        have h1 : (0 : Int) < k := by omega
        go_wp2
        go_ret
        refine ⟨?_, HO.out, rfl⟩
        rw [HL.out]
        rfl
end Go.Proofs.Yteghiinbafbokaa
namespace Go.Proofs.Yteghiinbafbokaa
open Go.RowKit
set_option linter.unusedVariables false
set_option linter.unusedSimpArgs false

/-- At most 512 words, and no nought on top. -/
def sound (l : List Nat) : Bool := decide (l.length ≤ 512) && (decide (l.length = 0) || !decide (l.getD (l.length - 1) 0 = 0))
theorem sound_iff (l : List Nat) : sound l = true ↔ l.length ≤ 512 ∧ Top l := by
  unfold sound Top
  rw [← List.length_eq_zero_iff]
  simp
/-- -1, 0 or 1. -/
def cmpN (x y : Nat) : Int := if x < y then -1 else if y < x then 1 else 0

theorem last_cell {w : World} {ao : Option Addr} {l : List Nat} (h : Rd w ao l) (h0 : l.length ≠ 0) : ∃ b off, ao = some ⟨b, off, none⟩ ∧ w.cell? ⟨b, off + (l.length - 1), none⟩ = some (.int .u32 ((l.getD (l.length - 1) 0 : Nat) : Int)) := by
  obtain ⟨b, off, h1, _, h3⟩ := h.pos (fun e => h0 (by rw [e]; rfl))
  exact ⟨b, off, h1, h3 _ (by omega)⟩

set_option maxHeartbeats 4000000 in
set_option maxRecDepth 1000000 in
theorem sound_any {w : World} {ao : Option Addr} {l : List Nat} (cap : Nat) (h : Rd w ao l) (hl : l.length ≤ 9223372036854775807) :
    Calls Try.prog 62 #[.slice ao l.length cap] w fun e w' => e = .returned (.bool (sound l)) ∧ w' = w := by
  by_cases h0 : l.length = 0
  · have e : sound l = true := by simp [sound, h0]
    rw [e, h0]
    clear e h hl h0
    go_enter Try.func62, Try.ntmps62
    go_wp2
    go_ret
    exact ⟨rfl, rfl⟩
  · obtain ⟨b, off, rfl, hc⟩ := last_cell h h0
    by_cases h5 : l.length ≤ 512
    · have e : sound l = !decide (l.getD (l.length - 1) 0 = 0) := by simp [sound, h0, h5]
      rw [e]
      have hx := h.dig.getD (l.length - 1)
      generalize l.getD (l.length - 1) 0 = x at *
      have e2 : (!decide (x = 0)) = !((x : Int) == 0) := by
        by_cases hx0 : x = 0 <;> simp [hx0]
      rw [e2]
      generalize l.length = n at *
      have h1 : ((n : Int) == 0) = false := by simp; omega
      clear h e e2
      go_enter Try.func62, Try.ntmps62
      go_wp2
      go_ret
      exact ⟨by simp [bne], rfl⟩
    · have e : sound l = false := by simp [sound, h5]
      rw [e]
      generalize l.length = n at *
      clear h hc e
      go_enter Try.func62, Try.ntmps62
      go_wp2
      go_ret
      exact ⟨rfl, rfl⟩

set_option maxHeartbeats 4000000 in
set_option maxRecDepth 1000000 in
theorem rsound_any {w : World} {ao : Option Addr} {l : List Nat} (cap : Nat) (h : Rd w ao l) (hl : l.length ≤ 9223372036854775807) :
    Calls Try.prog 90 #[.slice ao l.length cap] w fun e w' => e = .returned (.bool (sound l)) ∧ w' = w := by
  by_cases h0 : l.length = 0
  · have e : sound l = true := by simp [sound, h0]
    rw [e, h0]
    clear e h hl h0
    go_enter Try.func90, Try.ntmps90
    go_wp2
    go_ret
    exact ⟨rfl, rfl⟩
  · obtain ⟨b, off, rfl, hc⟩ := last_cell h h0
    by_cases h5 : l.length ≤ 512
    · have e : sound l = !decide (l.getD (l.length - 1) 0 = 0) := by simp [sound, h0, h5]
      rw [e]
      have hx := h.dig.getD (l.length - 1)
      generalize l.getD (l.length - 1) 0 = x at *
      have e2 : (!decide (x = 0)) = !((x : Int) == 0) := by
        by_cases hx0 : x = 0 <;> simp [hx0]
      rw [e2]
      generalize l.length = n at *
      have h1 : ((n : Int) == 0) = false := by simp; omega
      clear h e e2
      go_enter Try.func90, Try.ntmps90
      go_wp2
      go_ret
      exact ⟨by simp [bne], rfl⟩
    · have e : sound l = false := by simp [sound, h5]
      rw [e]
      generalize l.length = n at *
      clear h hc e
      go_enter Try.func90, Try.ntmps90
      go_wp2
      go_ret
      exact ⟨rfl, rfl⟩

set_option maxHeartbeats 4000000 in
theorem compareI_any (x y : Nat) (w : World) (hx : x ≤ 70368744177664) (hy : y ≤ 70368744177664) :
    Calls Try.prog 93 #[.int .i64 (x : Int), .int .i64 (y : Int)] w fun e w' => e = .returned (.int .i64 (cmpN x y)) ∧ w' = w := by
  unfold cmpN
  by_cases h1 : x < y
  · rw [if_pos h1]
    go_enter Try.func93, Try.ntmps93
    go_wp2_with go_in
    go_ret
    exact ⟨rfl, rfl⟩
  · rw [if_neg h1]
    by_cases h2 : y < x
    · rw [if_pos h2]
      go_enter Try.func93, Try.ntmps93
      go_wp2_with go_in
      go_ret
      exact ⟨rfl, rfl⟩
    · rw [if_neg h2]
      go_enter Try.func93, Try.ntmps93
      go_wp2_with go_in
      go_ret
      exact ⟨rfl, rfl⟩

set_option maxHeartbeats 4000000 in
theorem compareU_any (x y : Nat) (w : World) (hx : x < 4294967296) (hy : y < 4294967296) :
    Calls Try.prog 94 #[.int .u32 (x : Int), .int .u32 (y : Int)] w fun e w' => e = .returned (.int .i64 (cmpN x y)) ∧ w' = w := by
  unfold cmpN
  by_cases h1 : x < y
  · rw [if_pos h1]
    go_enter Try.func94, Try.ntmps94
    go_wp2_with go_in
    go_ret
    exact ⟨rfl, rfl⟩
  · rw [if_neg h1]
    by_cases h2 : y < x
    · rw [if_pos h2]
      go_enter Try.func94, Try.ntmps94
      go_wp2_with go_in
      go_ret
      exact ⟨rfl, rfl⟩
    · rw [if_neg h2]
      go_enter Try.func94, Try.ntmps94
      go_wp2_with go_in
      go_ret
      exact ⟨rfl, rfl⟩
end Go.Proofs.Yteghiinbafbokaa
namespace Go.Proofs.Yteghiinbafbokaa
open Go.RowKit
set_option linter.unusedVariables false
set_option linter.unusedSimpArgs false

theorem retI {k : IntKind} {a b : Int} (h : a = b) : Ending.returned (.int k a) = .returned (.int k b) := by rw [h]
theorem cmp_step {x y n k : Nat} (h : x / pw (n - k) = y / pw (n - k)) (hk : k < n) :
    ((words x).getD (n - 1 - k) 0 = (words y).getD (n - 1 - k) 0 → x / pw (n - (k + 1)) = y / pw (n - (k + 1))) ∧
    ((words x).getD (n - 1 - k) 0 ≠ (words y).getD (n - 1 - k) 0 → cmpN ((words x).getD (n - 1 - k) 0) ((words y).getD (n - 1 - k) 0) = cmpN x y) := by
  have e1 : n - k = (n - 1 - k) + 1 := by omega
  have e2 : n - (k + 1) = n - 1 - k := by omega
  rw [e1] at h
  obtain ⟨a1, a2, a3⟩ := order_step x y (n - 1 - k) h
  rw [words_getD, words_getD, e2]
  refine ⟨a1, fun hne => ?_⟩
  unfold cmpN
  by_cases c : x / pw (n - 1 - k) % 4294967296 < y / pw (n - 1 - k) % 4294967296
  · rw [if_pos c, if_pos (a2 c)]
  · have c2 : y / pw (n - 1 - k) % 4294967296 < x / pw (n - 1 - k) % 4294967296 := by omega
    have := a3 c2
    rw [if_neg c, if_pos c2, if_neg (by omega), if_pos this]
theorem cmp_len {x y : Nat} (h : (words x).length ≠ (words y).length) : cmpN (words x).length (words y).length = cmpN x y := by
  unfold cmpN
  by_cases c : (words x).length < (words y).length
  · rw [if_pos c, if_pos (lt_of_words_length c)]
  · have c2 : (words y).length < (words x).length := by omega
    have := lt_of_words_length c2
    rw [if_neg c, if_pos c2, if_neg (by omega), if_pos this]

set_option maxHeartbeats 4000000 in
set_option maxRecDepth 1000000 in
theorem order_any {w : World} {ao bo : Option Addr} {x y : Nat} (ca cb : Nat) (ha : Rd w ao (words x)) (hb : Rd w bo (words y)) (hx : (words x).length ≤ 1000000) (hy : (words y).length ≤ 1000000) :
    Calls Try.prog 77 #[.slice ao (words x).length ca, .slice bo (words y).length cb] w fun e w' => e = .returned (.int .i64 (cmpN x y)) ∧ Below w.heap.size w w' := by
  by_cases hl : (words x).length = (words y).length
  · have HX : Hid ((words x).length = (words y).length) := hl
    obtain ⟨n, hn⟩ : ∃ n, n = (words x).length := ⟨_, rfl⟩
    rw [← hl, ← hn]
    have HN : Hid (n = (words x).length) := hn
    rw [← hn] at hx
    clear hl hn hy
    go_enter Try.func77, Try.ntmps77
    go_wp2
    go_loopw [19] (fun v wr => Below w.heap.size w wr ∧ ∃ k : Nat, k ≤ n ∧ v = .int .i64 (k : Int) ∧ x / pw (n - k) = y / pw (n - k)) (fun v _ => n - (intOf v).toNat)
    case atStart =>
      refine ⟨Below.refl _ _, 0, Nat.zero_le _, rfl, ?_⟩
      rw [div_words_length x _ (by rw [HN.out]; omega), div_words_length y _ (by rw [HN.out, ← HX.out]; omega)]
    case round =>
      obtain ⟨hbw, k, hk, rfl, hd⟩ := hrel
      have HD : Hid _ := hd
      clear hd
      by_cases hkn : k < n
      · have ha' := ha.below hbw
        have hb' := hb.below hbw
        obtain ⟨b1, o1, rfl, _, hc1⟩ := ha'.pos (by intro e; have := HN.out; rw [e] at this; simp at this; omega)
        obtain ⟨b2, o2, rfl, _, hc2⟩ := hb'.pos (by intro e; have := HX.out; rw [← HN.out, e] at this; simp at this; omega)
        have c1 := hc1 (n - 1 - k) (by have := HN.out; omega)
        have c2 := hc2 (n - 1 - k) (by have := HN.out; have := HX.out; omega)
        have HS : Hid _ := cmp_step HD.out hkn
        have d1 := (words_dig x).getD (n - 1 - k)
        have d2 := (words_dig y).getD (n - 1 - k)
        clear hc1 hc2 ha hb ha' hb'
        obtain ⟨p, hp⟩ : ∃ p, (words x).getD (n - 1 - k) 0 = p := ⟨_, rfl⟩
        obtain ⟨q, hq⟩ : ∃ q, (words y).getD (n - 1 - k) 0 = q := ⟨_, rfl⟩
        rw [hp, hq] at HS
        rw [hp] at c1 d1
        rw [hq] at c2 d2
        clear hp hq
        have e1 : ((n : Int) - 1 - k).toNat = n - 1 - k := by omega
        by_cases hpq : p = q
        · subst hpq
          go_wp2
          go_region
          all_goals go_wp2
          go_roundw
          case rel => exact ⟨hbw.drew, k + 1, by omega, by go_num, HS.out.1 (by trivial)⟩
          case measure => simp [intOf]; omega
        · have e2 : ((p : Int) == q) = false := by simp; omega
          go_wp2
          go_region
          go_wp2
          go_region_with (go_at_call 94; refine (compareU_any p q _ d1 d2).mono ?_; rintro e w' ⟨rfl, rfl⟩)
          all_goals go_wp2
          all_goals go_ret
          all_goals (refine ⟨retI (HS.out.2 hpq), ?_⟩; (repeat apply Below.drew); exact hbw)
      · have e3 : k = n := by omega
        subst e3
        have hxy : cmpN x y = 0 := by
          have := HD.out
          rw [Nat.sub_self, pw_zero, Nat.div_one, Nat.div_one] at this
          rw [this]
          simp [cmpN]
        go_wp2
        go_ret
        exact ⟨retI hxy.symm, hbw⟩
  · rw [← cmp_len hl]
    have h1 : (((words x).length : Int) == ((words y).length : Int)) = false := by simp; omega
    have c := compareI_any (words x).length (words y).length w (by omega) (by omega)
    generalize (words x).length = n at *
    generalize (words y).length = m at *
    clear ha hb
    go_enter Try.func77, Try.ntmps77
    go_wp2_with (go_at_call 93; refine c.mono ?_; rintro e w' ⟨rfl, rfl⟩)
    go_ret
    exact ⟨rfl, Below.refl _ _⟩
end Go.Proofs.Yteghiinbafbokaa
namespace Go.Proofs.Yteghiinbafbokaa
open Go.RowKit
set_option linter.unusedVariables false
set_option linter.unusedSimpArgs false

theorem carry_step (P s : Nat) : P * (s % 4294967296) + 4294967296 * P * (s / 4294967296) = P * s := by
  have h := Nat.mod_add_div s 4294967296
  have e : 4294967296 * P * (s / 4294967296) = P * (4294967296 * (s / 4294967296)) := by
    rw [Nat.mul_comm 4294967296 P, Nat.mul_assoc]
  rw [e, ← Nat.mul_add, h]
theorem sum_step (L a b : List Nat) (i c : Nat) (hi : i < L.length) (h : val (L.take i) + pw i * c = val (a.take i) + val (b.take i)) :
    val ((L.set i ((a.getD i 0 + b.getD i 0 + c) % 4294967296)).take (i + 1)) + pw (i + 1) * ((a.getD i 0 + b.getD i 0 + c) / 4294967296) = val (a.take (i + 1)) + val (b.take (i + 1)) := by
  rw [val_set_take L i _ hi, val_take_succ a, val_take_succ b, pw_succ]
  have := carry_step (pw i) (a.getD i 0 + b.getD i 0 + c)
  rw [Nat.mul_add, Nat.mul_add] at this
  omega

set_option maxHeartbeats 1000000 in
set_option maxRecDepth 1000000 in
theorem sum_any {w : World} {ao bo : Option Addr} {x y : Nat} (ca cb : Nat) (ha : Rd w ao (words x)) (hb : Rd w bo (words y)) (hx : (words x).length ≤ 100000) (hy : (words y).length ≤ 100000) :
    Calls Try.prog 79 #[.slice ao (words x).length ca, .slice bo (words y).length cb] w fun e w' => ∃ ro rc, e = .returned (.slice ro (words (x + y)).length rc) ∧ Own w.heap.size w' ro rc (words (x + y)) ∧ Below w.heap.size w w' := by
  obtain ⟨p, HX⟩ : ∃ p, Hid ((words x).length = p) := ⟨_, rfl⟩
  obtain ⟨q, HY⟩ : ∃ q, Hid ((words y).length = q) := ⟨_, rfl⟩
  rw [HX.out] at hx ⊢
  rw [HY.out] at hy ⊢
  obtain ⟨n, hpn, hqn, hor⟩ : ∃ n, p ≤ n ∧ q ≤ n ∧ ((n = q ∧ p < q) ∨ (n = p ∧ ¬ p < q)) := by
    by_cases h : p < q
    · exact ⟨q, by omega, by omega, .inl ⟨rfl, h⟩⟩
    · exact ⟨p, by omega, by omega, .inr ⟨rfl, h⟩⟩
  have hn : n ≤ 100000 := by omega
  have hmk := run_make_row' (P := Try.prog) 22 41 (.int .u32 0) 4 Try.underlying22 infoU rfl .i64 .i64 (n + 1) (by omega) (by omega)
  simp only [Int.natCast_add, Int.cast_ofNat_Int] at hmk
  rcases hor with ⟨e, hlt⟩ | ⟨e, hlt⟩
  all_goals subst e
  all_goals
    go_enter Try.func79, Try.ntmps79
    go_wp2
    go_loopw [7, 18] (fun v7 v18 wr => ∃ (i c : Nat) (L : List Nat), i ≤ n ∧ v18 = .int .i64 (i : Int) ∧ v7 = .int .u32 (c : Int) ∧ c ≤ 1 ∧ L.length = n + 1 ∧ Own w.heap.size wr (some ⟨w.heap.size, 0, none⟩) (n + 1) L ∧ Below w.heap.size w wr ∧ val (L.take i) + pw i * c = val ((words x).take i) + val ((words y).take i)) (fun _ v18 _ => n - (intOf v18).toNat)
    case atStart =>
      refine ⟨0, 0, List.replicate (n + 1) 0, Nat.zero_le _, rfl, rfl, by omega, by simp, Own.made w (n + 1) (by omega), (Below.refl _ w).alloc (Nat.le_refl _) _, by simp [val]⟩
    case round =>
      obtain ⟨i, c, L, hi, rfl, rfl, hc, hL, hown, hbw, hv⟩ := hrel
      have HV : Hid _ := hv
      have HL : Hid _ := hL
      clear hv hL
      by_cases hin : i < n
      · have k1 := hown.cell i (by rw [HL.out]; omega)
        have k2 := hown.frozen i
        have c1 := wordAt_any ca i (ha.below hbw)
        have c2 := wordAt_any cb i (hb.below hbw)
        rw [HX.out] at c1
        rw [HY.out] at c2
        have d1 := (words_dig x).getD i
        have d2 := (words_dig y).getD i
        have HS : Hid _ := sum_step L (words x) (words y) i c (by rw [HL.out]; omega) HV.out
        obtain ⟨s, hs⟩ : ∃ s, (words x).getD i 0 = s := ⟨_, rfl⟩
        obtain ⟨t, ht⟩ : ∃ t, (words y).getD i 0 = t := ⟨_, rfl⟩
        rw [hs] at c1 d1 HS
        rw [ht] at c2 d2 HS
        clear hs ht
        have c3 := add32_any s t c wr d1 d2 (by omega)
        have hset := hown.set i ((s + t + c) % 4294967296) (Nat.mod_lt _ (by omega))
        have hbw' := hbw.setCell (p := ⟨w.heap.size, i, none⟩) (Nat.le_refl _) (.int .u32 (((s + t + c) % 4294967296 : Nat) : Int))
        have HO : Hid _ := hown
        have HB : Hid _ := hbw
        have HSet : Hid _ := hset
        have HB' : Hid _ := hbw'
        clear hown hbw ha hb hset hbw'
        go_wp2_with fail
        refine c1.mono ?_
        rintro e w' ⟨rfl, rfl⟩
        go_wp2_with fail
        refine c2.mono ?_
        rintro e w' ⟨rfl, rfl⟩
        go_wp2_with fail
        refine c3.mono ?_
        rintro e w' ⟨rfl, rfl⟩
        clear c1 c2 c3
        go_wp2
        go_roundw
        case rel => exact ⟨i + 1, (s + t + c) / 4294967296, L.set i ((s + t + c) % 4294967296), by omega, by go_num, by go_num, by omega, by rw [List.length_set]; exact HL.out, HSet.out, HB'.out, HS.out⟩
        case measure => simp [intOf]; omega
      · have e : i = n := by omega
        subst e
        have k1 := hown.cell i (by rw [HL.out]; omega)
        have k2 := hown.frozen i
        have hset := hown.set i c (by omega)
        have hbw' := hbw.setCell (p := ⟨w.heap.size, i, none⟩) (Nat.le_refl _) (.int .u32 (c : Int))
        have hval : val (L.set i c) = x + y := by
          have e1 := val_set_take L i c (by rw [HL.out]; omega)
          rw [List.take_of_length_le (by rw [List.length_set, HL.out]; omega), HV.out, List.take_of_length_le (by rw [HX.out]; omega), List.take_of_length_le (by rw [HY.out]; omega), val_words, val_words] at e1
          exact e1
        have c1 := trim_any hset (by rw [List.length_set, HL.out]; omega)
        rw [hval, List.length_set, HL.out] at c1
        have HC : Hid _ := c1
        have HB' : Hid _ := hbw'
        clear hset hbw' hval c1 hown hbw ha hb
        go_wp2_with fail
        refine Calls.mono HC.out ?_
        rintro e w' ⟨rfl, ho, rfl⟩
        have HO : Hid _ := ho
        clear ho
        go_wp2
        go_ret
        exact ⟨_, _, rfl, HO.out, HB'.out⟩

set_option maxHeartbeats 1000000 in
theorem fit_any (w : World) (ao : Option Addr) (n cap : Nat) (hn : n ≤ 1000000) :
    Calls Try.prog 64 #[.slice ao n cap] w fun e w' => e = .returned (.tuple #[if n ≤ 512 then .slice ao n cap else .slice none 0 0, .int .i64 (if n ≤ 512 then 0 else 4)]) ∧ w' = w := by
  by_cases h : n ≤ 512
  · rw [if_pos h, if_pos h]
    go_enter Try.func64, Try.ntmps64
    go_wp2
    go_ret2
    exact ⟨rfl, rfl⟩
  · rw [if_neg h, if_neg h]
    go_enter Try.func64, Try.ntmps64
    go_wp2
    go_ret2
    exact ⟨rfl, rfl⟩

end Go.Proofs.Yteghiinbafbokaa
namespace Go.Proofs.Yteghiinbafbokaa
open Go.RowKit
set_option linter.unusedVariables false
set_option linter.unusedSimpArgs false

/-- A call's answer is a row of its own that reads as these words; what was there stays. -/
def Row1 (w : World) (l : List Nat) (e : Ending) (w' : World) : Prop :=
  ∃ ro rc, e = .returned (.slice ro l.length rc) ∧ Own w.heap.size w' ro rc l ∧ Below w.heap.size w w'
/-- .. and an error's number beside it. -/
def Ans (w : World) (r : List Nat × Int) (e : Ending) (w' : World) : Prop :=
  ∃ ro rc, e = .returned (.tuple #[.slice ro r.1.length rc, .int .i64 r.2]) ∧ Own w.heap.size w' ro rc r.1 ∧ Below w.heap.size w w'
theorem Ans.intro {w : World} {l : List Nat} {k : Int} {w' : World} {ro : Option Addr} {rc : Nat} (ho : Own w.heap.size w' ro rc l) (hb : Below w.heap.size w w') :
    Ans w (l, k) (.returned (.tuple #[.slice ro l.length rc, .int .i64 k])) w' := ⟨ro, rc, rfl, ho, hb⟩

def fitS (n : Nat) : List Nat × Int := if (words n).length ≤ 512 then (words n, 0) else ([], 4)
def addS (a b : List Nat) : List Nat × Int := if sound a && sound b then fitS (val a + val b) else ([], 2)
def mulS (a b : List Nat) : List Nat × Int := if sound a && sound b then fitS (val a * val b) else ([], 2)
theorem sound_words {l : List Nat} (hd : Dig l) (h : sound l = true) : l = words (val l) ∧ l.length ≤ 512 := by
  obtain ⟨h1, h2⟩ := (sound_iff l).1 h
  exact ⟨(words_of hd h2).symm, h1⟩
theorem words_sound {x : Nat} (h : (words x).length ≤ 512) : sound (words x) = true := (sound_iff _).2 ⟨h, words_top x⟩

theorem fit_own {B : Nat} {w : World} {ro : Option Addr} {rc n : Nat} (ho : Own B w ro rc (words n)) (hn : (words n).length ≤ 1000000) :
    Calls Try.prog 64 #[.slice ro (words n).length rc] w fun e w' => ∃ so sc, e = .returned (.tuple #[.slice so (fitS n).1.length sc, .int .i64 (fitS n).2]) ∧ Own B w' so sc (fitS n).1 ∧ w' = w := by
  refine (fit_any w ro (words n).length rc hn).mono ?_
  rintro e w' ⟨rfl, rfl⟩
  unfold fitS
  by_cases h : (words n).length ≤ 512
  · simp only [h, if_true]
    exact ⟨ro, rc, rfl, ho, trivial⟩
  · simp only [h, if_false]
    exact ⟨none, 0, rfl, Own.nil _ _, trivial⟩
theorem words_add_length {x y k : Nat} (hx : (words x).length ≤ k) (hy : (words y).length ≤ k) : (words (x + y)).length ≤ k + 1 := by
  apply words_length_le
  have := words_length_iff.1 hx
  have := words_length_iff.1 hy
  have e : pw (k + 1) = 4294967296 * pw k := pw_succ k
  omega
theorem words_mul_length {x y k m : Nat} (hx : (words x).length ≤ k) (hy : (words y).length ≤ m) : (words (x * y)).length ≤ k + m := by
  apply words_length_le
  rw [pw_add]
  exact Nat.mul_lt_mul'' (words_length_iff.1 hx) (words_length_iff.1 hy)

set_option maxHeartbeats 1000000 in
set_option maxRecDepth 1000000 in
theorem rword_any {w : World} {ao : Option Addr} {l : List Nat} (cap k : Nat) (h : Rd w ao l) :
    Calls Try.prog 66 #[.slice ao l.length cap, .int .i64 (k : Int)] w fun e w' => e = .returned (.int .u64 ((l.getD k 0 : Nat) : Int)) ∧ w' = w := by
  by_cases hk : k < l.length
  · have hne : l ≠ [] := by intro e; subst e; simp at hk
    obtain ⟨b, off, rfl, hb, hc⟩ := h.pos hne
    have hcell := hc k hk
    have hx := h.dig.getD k
    generalize l.getD k 0 = x at *
    clear hc h hne
    go_enter Try.func66, Try.ntmps66
    go_wp2
    go_ret
    exact ⟨rfl, rfl⟩
  · have e : l.getD k 0 = 0 := by simp [List.getElem?_eq_none (by omega : l.length ≤ k)]
    rw [e]
    clear e h
    go_enter Try.func66, Try.ntmps66
    go_wp2
    go_ret
    exact ⟨rfl, rfl⟩

set_option maxHeartbeats 1000000 in
set_option maxRecDepth 1000000 in
theorem same_any {w : World} {ao bo : Option Addr} {l : List Nat} (ca cb : Nat) (ha : Rd w ao l) (hb : Rd w bo l) (hl : l.length ≤ 9223372036854775807) :
    Calls Try.prog 61 #[.slice ao l.length ca, .slice bo l.length cb] w fun e w' => e = .returned (.bool true) ∧ Below w.heap.size w w' := by
  obtain ⟨n, HN⟩ : ∃ n, Hid (l.length = n) := ⟨_, rfl⟩
  rw [HN.out] at hl ⊢
  go_enter Try.func61, Try.ntmps61
  go_wp2
  go_loopw [5] (fun v wr => Below w.heap.size w wr ∧ ∃ k : Nat, k ≤ n ∧ v = .int .i64 (k : Int)) (fun v _ => n - (intOf v).toNat)
  case atStart => exact ⟨Below.refl _ _, 0, Nat.zero_le _, rfl⟩
  case round =>
    obtain ⟨hbw, k, hk, rfl⟩ := hrel
    by_cases hkn : k < n
    · have ha' := ha.below hbw
      have hb' := hb.below hbw
      have hne : l ≠ [] := by intro e; have := HN.out; rw [e] at this; simp at this; omega
      obtain ⟨b1, o1, rfl, _, hc1⟩ := ha'.pos hne
      obtain ⟨b2, o2, rfl, _, hc2⟩ := hb'.pos hne
      have c1 := hc1 k (by rw [HN.out]; omega)
      have c2 := hc2 k (by rw [HN.out]; omega)
      generalize l.getD k 0 = p at *
      clear hc1 hc2 ha hb ha' hb' hne
      go_wp2
      go_region
      go_wp2
      go_roundw
      case rel => exact ⟨hbw.drew, k + 1, by omega, by go_num⟩
      case measure => simp [intOf]; omega
    · go_wp2
      go_ret
      exact ⟨rfl, hbw⟩

set_option maxHeartbeats 1000000 in
set_option maxRecDepth 1000000 in
theorem add_any {w : World} {ao bo : Option Addr} {a b : List Nat} (ca cb : Nat) (ha : Rd w ao a) (hb : Rd w bo b) (la : a.length ≤ 9223372036854775807) (lb : b.length ≤ 9223372036854775807) :
    Calls Try.prog 56 #[.slice ao a.length ca, .slice bo b.length cb] w (Ans w (addS a b)) := by
  have c1 := sound_any ca ha la
  have c2 := sound_any cb hb lb
  unfold addS
  by_cases hs : sound a = true
  · by_cases ht : sound b = true
    · obtain ⟨ea, na⟩ := sound_words ha.dig hs
      obtain ⟨eb, nb⟩ := sound_words hb.dig ht
      rw [hs] at c1 ⊢
      rw [ht] at c2 ⊢
      generalize val a = x at *
      generalize val b = y at *
      subst ea eb
      have c3 := sum_any ca cb ha hb (by omega) (by omega)
      have hlen : (words (x + y)).length ≤ 1000000 := by
        have := words_add_length na nb
        omega
      have HC3 : Hid _ := c3
      have HLE : Hid _ := hlen
      clear c3 hlen hs ht ha hb la lb
      generalize (words x).length = n at *
      generalize (words y).length = m at *
      go_enter Try.func56, Try.ntmps56
      go_wp2_with fail
      refine c1.mono ?_
      rintro e w' ⟨rfl, rfl⟩
      go_wp2_with fail
      refine c2.mono ?_
      rintro e w' ⟨rfl, rfl⟩
      go_wp2_with fail
      refine Calls.mono HC3.out ?_
      rintro e w1 ⟨ro, rc, rfl, ho, hbw⟩
      have c4 := fit_own ho HLE.out
      have HC4 : Hid _ := c4
      have HB : Hid _ := hbw
      clear ho hbw c1 c2 c4
      go_wp2_with fail
      refine Calls.mono HC4.out ?_
      rintro e w2 ⟨so, sc, rfl, ho, rfl⟩
      have HO : Hid _ := ho
      clear ho
      go_wp2
      go_ret2
      exact ⟨_, _, rfl, HO.out, HB.out⟩
    · simp only [Bool.not_eq_true] at ht
      rw [hs] at c1
      rw [ht] at c2
      rw [hs, ht]
      clear ha hb la lb hs ht
      generalize a.length = n at *
      generalize b.length = m at *
      go_enter Try.func56, Try.ntmps56
      go_wp2_with fail
      refine c1.mono ?_
      rintro e w' ⟨rfl, rfl⟩
      go_wp2_with fail
      refine c2.mono ?_
      rintro e w' ⟨rfl, rfl⟩
      go_wp2
      go_ret2
      exact Ans.intro (Own.nil _ _) (Below.refl _ _)
  · simp only [Bool.not_eq_true] at hs
    rw [hs] at c1 ⊢
    clear ha hb la lb hs c2
    generalize a.length = n at *
    generalize b.length = m at *
    go_enter Try.func56, Try.ntmps56
    go_wp2_with fail
    refine c1.mono ?_
    rintro e w' ⟨rfl, rfl⟩
    go_wp2
    go_ret2
    exact Ans.intro (Own.nil _ _) (Below.refl _ _)

theorem Rd.lit1 (w : World) (x : Nat) (hx : x < 4294967296) : Rd (w.alloc (.cells #[.int .u32 (x : Int)] 41)) (some ⟨w.heap.size, 0, none⟩) [x] := by
  refine ⟨by simp [Dig]; exact hx, fun _ => ⟨w.heap.size, 0, rfl, by simp, fun j hj => ?_⟩⟩
  have : j = 0 := by simp at hj; exact hj
  subst this
  simp
theorem awake_sum : addS [4294967295] [1] = ([0, 1], 0) := by
  have e : words 4294967296 = [0, 1] := words_of (l := [0, 1]) (by simp [Dig]) (.inr (by simp))
  have e2 : val [4294967295] + val [1] = 4294967296 := rfl
  have e3 : (sound [4294967295] && sound [1]) = true := by decide
  unfold addS fitS
  rw [e3, e2, e]
  rfl
end Go.Proofs.Yteghiinbafbokaa
namespace Go.Proofs.Yteghiinbafbokaa
open Go.RowKit
set_option linter.unusedVariables false
set_option linter.unusedSimpArgs false

theorem mul_bound {p q : Nat} (hp : p < 4294967296) (hq : q < 4294967296) : p * q ≤ 18446744065119617025 := by
  have : p * q ≤ 4294967295 * 4294967295 := Nat.mul_le_mul (by omega) (by omega)
  omega
theorem mul_boundI {p q : Nat} (hp : p < 4294967296) (hq : q < 4294967296) : (p : Int) * (q : Int) ≤ 18446744065119617025 ∧ 0 ≤ (p : Int) * (q : Int) := by
  have h := mul_bound hp hq
  have e : (p : Int) * (q : Int) = ((p * q : Nat) : Int) := by rw [Int.natCast_mul]
  rw [e]
  omega
theorem val_set (l : List Nat) (i d : Nat) (hi : i < l.length) : val (l.set i d) + pw i * l.getD i 0 = val l + pw i * d := by
  have e1 := val_split (l.set i d) (i + 1)
  have e2 := val_split l (i + 1)
  rw [val_set_take l i d hi, List.length_set, List.drop_set_of_lt (by omega)] at e1
  rw [val_take_succ] at e2
  omega
theorem getD_set_ne (l : List Nat) (i p d : Nat) (h : i ≠ p) : (l.set i d).getD p 0 = l.getD p 0 := by
  simp only [List.getD_eq_getElem?_getD]
  rw [List.getElem?_set, if_neg h]
theorem own_of_row {B : Nat} {w : World} {v : Value} {n : Nat} {l : List Nat} (hd : Dig l) (hn : n = l.length) (h : w.ownsRow B 41 1 v n (U l)) : ∃ ao cap, v = .slice ao l.length cap ∧ Own B w ao cap l := by
  subst hn
  have hv : ∃ ao cap, v = .slice ao l.length cap := by
    rcases h.2 with ⟨h2, h3⟩ | ⟨g, cap, cur, h2, _⟩
    · exact ⟨none, 0, by rw [h2, h3]⟩
    · exact ⟨_, _, h2⟩
  obtain ⟨ao, cap, rfl⟩ := hv
  exact ⟨ao, cap, rfl, hd, h⟩
theorem grown_below {B : Nat} {w w1 w2 : World} {v : Value} {n : Nat} {xs : List Value} {e : TypeId} {size : Nat} (hb : Below B w w1) (h : w1.ownsRow B e size v n xs) (hg : w1.grownBy w2 v.ownBlock) (hB : B ≤ w1.heap.size) : Below B w w2 :=
  hb.grown hg hB (fun k hk => (h.lt k hk).1)

/-! ### The document's copy without noughts -/
set_option maxHeartbeats 2000000 in
set_option maxRecDepth 1000000 in
theorem norm_any {w : World} {ao : Option Addr} {l : List Nat} (cap : Nat) (h : Rd w ao l) (hl : l.length ≤ 35184372087808) (hcap : l.length ≤ cap) (hnil : ao = none → cap = 0) :
    Calls Try.prog 51 #[.slice ao l.length cap] w (Row1 w (words (val l))) := by
  obtain ⟨i0, hi, hz0, hz1, hz2⟩ := info_parts infoU
  obtain ⟨n, HN⟩ : ∃ n, Hid (l.length = n) := ⟨_, rfl⟩
  rw [HN.out] at hl hcap ⊢
  go_enter Try.func51, Try.ntmps51
  go_wp2
  go_loopw [3] (fun v wr => wr = w ∧ ∃ k : Nat, k ≤ n ∧ v = .int .i64 (k : Int) ∧ val (l.take k) = val l) (fun v _ => (intOf v).toNat)
  case atStart => exact ⟨rfl, n, Nat.le_refl _, rfl, by rw [← HN.out, List.take_length]⟩
  case round =>
    obtain ⟨rfl, k, hk, rfl, hv⟩ := hrel
    have HV : Hid _ := hv
    clear hv
    have done : k = 0 ∨ l.getD (k - 1) 0 ≠ 0 → Hid (l.take k = words (val l)) := fun hh => words_take h.dig k (by rw [HN.out]; exact hk) HV.out hh
    have hown : (wr.alloc (.cells #[] 41)).ownsRow wr.heap.size 41 1 (.slice (some ⟨wr.heap.size, 0, none⟩) 0 0) 0 [] := World.ownsRow_made wr #[] 0 (Nat.le_refl _) (by decide) rfl
    have hb1 : Below wr.heap.size wr (wr.alloc (.cells #[] 41)) := (Below.refl _ _).alloc (Nat.le_refl _) _
    have hsz : (wr.alloc (.cells #[] 41)).heap.size = wr.heap.size + 1 := by simp
    by_cases h0 : k = 0
    · subst h0
      have D := done (.inl rfl)
      clear done
      rw [List.take_zero] at D
      cases ao with
      | none =>
        have hc0 := hnil rfl
        subst hc0
        go_wp2_with (at_builtin; refine wpList_append_own_none rfl _ _ 22 rfl wr.heap.size 41 i0 1 Try.underlying22 hi _ _ _ rfl hown rfl ?_)
        go_ret
        obtain ⟨ro, rc, e, ho⟩ := own_of_row (l := []) dig_nil rfl hown
        exact ⟨some ⟨wr.heap.size, 0, none⟩, 0, by rw [← D.out]; rfl, by rw [← D.out]; exact ⟨dig_nil, hown⟩, hb1⟩
      | some a =>
        go_wp2_with (at_builtin; refine wpList_append_own _ rfl _ _ 22 rfl wr.heap.size 41 i0 (.int .u32 0) 1 4 Try.underlying22 hi hz0 hz1 hz2 rfl (by decide) _ _ _ rfl hown a 0 cap [] rfl (by first | rfl | simp) (by intro j u hj; simp at hj) (by intro u hu; simp at hu) (by unfold maxLen; omega) (by omega) (by rw [hsz]; omega) ?_)
        intro v' w1 hown' hgrow hiff
        have hb2 := grown_below hb1 hown hgrow (by rw [hsz]; omega)
        obtain ⟨ro, rc, e, ho⟩ := own_of_row (l := []) dig_nil rfl hown'
        subst e
        have HO : Hid _ := ho
        have HB : Hid _ := hb2
        clear hown hgrow hiff hown' ho hb2 hb1 h
        go_wp2
        go_ret
        exact ⟨ro, rc, by rw [← D.out]; rfl, by rw [← D.out]; exact HO.out, HB.out⟩
    · have hne : l ≠ [] := by intro e; have := HN.out; rw [e] at this; simp at this; omega
      obtain ⟨b, off, rfl, hb, hc⟩ := h.pos hne
      have hcell := hc (k - 1) (by rw [HN.out]; omega)
      have hx := h.dig.getD (k - 1)
      have h1 : (0 : Int) < k := by omega
      by_cases hz : l.getD (k - 1) 0 = 0
      · have hv' := val_take_pred k h0 hz
        rw [hz] at hcell
        have HP : Hid _ := hv'
        clear hv' hz hx h hne hc done hown hb1 hsz
        go_wp2
        go_roundw
        case rel => exact ⟨trivial, k - 1, by omega, by go_num, HP.out.trans HV.out⟩
        case measure => simp [intOf]; omega
      · have D := done (.inr hz)
        have hz' : (((l.getD (k - 1) 0 : Nat) : Int) == 0) = false := by simp; simp at hz; omega
        have hdk : Dig (l.take k) := h.dig.take k
        have hnews : ∀ (j : Nat) (u : Value), (U (l.take k))[j]? = some u → (wr.alloc (.cells #[] 41)).cell? ((⟨b, off, none⟩ : Addr).add j) = some u := by
          intro j u hj
          have hjk : j < k := by
            apply Classical.byContradiction
            intro hh
            rw [List.getElem?_eq_none (by rw [U_length, List.length_take]; omega)] at hj
            cases hj
          have hjn : j < l.length := by rw [HN.out]; omega
          rw [Addr.add_lit, hb1.cell (by exact hb), hc j hjn]
          rw [U_get _ _ (by rw [List.length_take]; omega)] at hj
          rw [← hj]
          congr 3
          simp only [List.getD_eq_getElem?_getD]
          rw [List.getElem?_take, if_pos hjk]
        have hlk : (U (l.take k)).length = k * 1 := by rw [U_length, List.length_take, HN.out]; omega
        generalize l.getD (k - 1) 0 = x at *
        clear done
        go_wp2_with (at_builtin; refine wpList_append_own _ rfl _ _ 22 rfl wr.heap.size 41 i0 (.int .u32 0) 1 4 Try.underlying22 hi hz0 hz1 hz2 rfl (by decide) _ _ _ rfl hown ⟨b, off, none⟩ k cap (U (l.take k)) rfl hlk hnews (U_one _) (by unfold maxLen; omega) (by omega) (by rw [hsz]; omega) ?_)
        intro v' w1 hown' hgrow hiff
        have hb2 := grown_below hb1 hown hgrow (by rw [hsz]; omega)
        try simp only [List.nil_append, Nat.zero_add] at hown'
        obtain ⟨ro, rc, e, ho⟩ := own_of_row hdk (by rw [List.length_take, HN.out]; omega) hown'
        subst e
        have HO : Hid _ := ho
        have HB : Hid _ := hb2
        clear hown hgrow hiff hown' ho hb2 hb1 h hnews hlk hdk hc
        go_wp2
        go_ret
        exact ⟨ro, rc, by rw [← D.out]; rfl, by rw [← D.out]; exact HO.out, HB.out⟩
end Go.Proofs.Yteghiinbafbokaa
namespace Go.Proofs.Yteghiinbafbokaa
open Go.RowKit
set_option linter.unusedVariables false
set_option linter.unusedSimpArgs false

theorem Own.setG {B : Nat} {w : World} {cap : Nat} {l : List Nat} {g : Nat} (h : Own B w (some ⟨g, 0, none⟩) cap l) (j d : Nat) : w.grownBy (w.setCell ⟨g, j, none⟩ (.int .u32 (d : Int))) (some g) :=
  (h.row.stored j (.int .u32 (d : Int))).2
theorem grown_trans {a b c : World} {r : Option Nat} (h : a.grownBy b r) (k : b.grownBy c r) : a.grownBy c r :=
  ⟨k.os.trans h.os, k.tape.trans h.tape, k.output.trans h.output, Nat.le_trans h.size k.size, fun i hi hr => (k.block i (Nat.lt_of_lt_of_le hi h.size) hr).trans (h.block i hi hr)⟩
theorem grown_drew {a b : World} {r : Option Nat} (h : a.grownBy b r) : a.grownBy b.drew r := ⟨h.os, h.tape, h.output, h.size, h.block⟩
theorem Own.none_cap {B : Nat} {w : World} {cap : Nat} {l : List Nat} (h : Own B w none cap l) : cap = 0 := by
  rcases h.row.2 with ⟨h2, _⟩ | ⟨g, cap', cur, hv, _⟩
  · simp only [Value.slice.injEq] at h2
    exact h2.2.2
  · simp at hv

theorem times_step (L L0 b : List Nat) (i j c k : Nat) (hi : i + j < L.length) (h : val L + pw (i + j) * c = val L0 + pw i * (val (b.take j) * k)) :
    val (L.set (i + j) ((c + (b.getD j 0 * k + L.getD (i + j) 0)) % 4294967296)) + pw (i + (j + 1)) * ((c + (b.getD j 0 * k + L.getD (i + j) 0)) / 4294967296) = val L0 + pw i * (val (b.take (j + 1)) * k) := by
  have e1 := val_set L (i + j) ((c + (b.getD j 0 * k + L.getD (i + j) 0)) % 4294967296) hi
  have e2 := carry_step (pw (i + j)) (c + (b.getD j 0 * k + L.getD (i + j) 0))
  have e3 : pw (i + (j + 1)) = 4294967296 * pw (i + j) := by rw [← Nat.add_assoc, pw_succ]
  rw [e3, val_take_succ, Nat.add_mul, Nat.mul_add (pw i)]
  have e4 : pw i * (pw j * b.getD j 0 * k) = pw (i + j) * (b.getD j 0 * k) := by rw [pw_add]; simp only [Nat.mul_assoc]
  rw [e4]
  rw [Nat.mul_add, Nat.mul_add] at e2
  omega

set_option maxHeartbeats 2000000 in
set_option maxRecDepth 1000000 in
theorem addTimes_any {B : Nat} {w : World} {g i m c0 cap cb k : Nat} {bo : Option Addr} {L b : List Nat} (ho : Own B w (some ⟨g, 0, none⟩) cap L) (hb : Rd w bo b) (hm : b.length = m) (him : i + m ≤ L.length) (hL : L.length ≤ 1000000)
    (hne : b ≠ [] → ∀ a, bo = some a → a.block ≠ g) (hk : k < 4294967296) :
    Calls Try.prog 113 #[.slice (some ⟨g, i, none⟩) m c0, .slice bo m cb, .int .u32 (k : Int)] w fun e w' => ∃ (c : Nat) (L' : List Nat), e = .returned (.int .u32 (c : Int)) ∧ c < 4294967296 ∧ L'.length = L.length ∧ Own B w' (some ⟨g, 0, none⟩) cap L' ∧ w.grownBy w' (some g) ∧ val L' + pw (i + m) * c = val L + pw i * (val b * k) ∧ ∀ p, i + m ≤ p → L'.getD p 0 = L.getD p 0 := by
  have HM : Hid _ := hm
  have HK : Hid _ := hL
  clear hm
  have hm1 : m ≤ 1000000 := by omega
  go_enter Try.func113, Try.ntmps113
  go_wp2
  go_loopw [7, 11] (fun v7 v11 wr => ∃ (j c : Nat) (L' : List Nat), j ≤ m ∧ v11 = .int .i64 (j : Int) ∧ v7 = .int .u64 (c : Int) ∧ c < 4294967296 ∧ L'.length = L.length ∧ Own B wr (some ⟨g, 0, none⟩) cap L' ∧ w.grownBy wr (some g) ∧ val L' + pw (i + j) * c = val L + pw i * (val (b.take j) * k) ∧ ∀ p, i + j ≤ p → L'.getD p 0 = L.getD p 0) (fun _ v11 _ => m - (intOf v11).toNat)
  case atStart => exact ⟨0, 0, L, Nat.zero_le _, rfl, rfl, by omega, rfl, ho, World.grownBy.refl _ _, by simp [val], fun _ _ => rfl⟩
  case round =>
    obtain ⟨j, c, L', hj, rfl, rfl, hc, hL', hown, hgr, hv, hfix⟩ := hrel
    have HV : Hid _ := hv
    have HL : Hid _ := hL'
    have HF : Hid _ := hfix
    clear hv hL' hfix
    by_cases hjm : j < m
    · have hne' : b ≠ [] := by intro e; have := HM.out; rw [e] at this; simp at this; omega
      have hb' := hb.grown hgr (fun a ha => by have := hne hne' a ha; intro e; cases e; exact this rfl)
      obtain ⟨b1, o1, rfl, _, hc1⟩ := hb'.pos hne'
      have k0 := hc1 j (by rw [HM.out]; omega)
      have k1 := hown.cell (i + j) (by rw [HL.out]; omega)
      have k2 := hown.frozen (i + j)
      have d1 := hown.dig.getD (i + j)
      have d2 := hb.dig.getD j
      have HS : Hid _ := times_step L' L b i j c k (by rw [HL.out]; omega) HV.out
      obtain ⟨t, ht⟩ : ∃ t, L'.getD (i + j) 0 = t := ⟨_, rfl⟩
      obtain ⟨q, hq⟩ : ∃ q, b.getD j 0 = q := ⟨_, rfl⟩
      rw [hq] at k0 d2 HS
      rw [ht] at k1 d1 HS
      clear ht hq
      have m1 := mul_boundI d2 hk
      have m2 := mul_bound d2 hk
      have hset := hown.set (i + j) ((c + (q * k + t)) % 4294967296) (Nat.mod_lt _ (by omega))
      have hgr' := grown_trans hgr (hown.setG (i + j) ((c + (q * k + t)) % 4294967296))
      have HSet : Hid _ := hset
      have HG : Hid _ := hgr'
      have HGd : Hid _ := hgr
      have HO : Hid _ := hown
      clear hset hgr' hgr hown hne hb hb' hc1 hne' ho him hL
      go_wp2
      go_region
      go_wp2
      go_roundw
      case rel =>
        have hlt : (c + (q * k + t)) / 4294967296 < 4294967296 := Nat.div_lt_of_lt_mul (by omega)
        refine ⟨j + 1, (c + (q * k + t)) / 4294967296, L'.set (i + j) ((c + (q * k + t)) % 4294967296), by omega, by go_num, rfl, hlt, by rw [List.length_set]; exact HL.out, HSet.out.drew, grown_drew HG.out, HS.out, fun p hp => ?_⟩
        rw [getD_set_ne _ _ _ _ (by omega)]
        exact HF.out p (by omega)
      case measure => simp [intOf]; omega
    · have e : j = m := by omega
      subst e
      have hval := HV.out
      rw [List.take_of_length_le (by rw [HM.out]; omega)] at hval
      have HVV : Hid _ := hval
      have HO : Hid _ := hown
      have HG : Hid _ := hgr
      clear hval hown hgr ho hb hne him hL
      go_wp2
      go_ret
      exact ⟨c, L', rfl, hc, HL.out, HO.out, HG.out, HVV.out, HF.out⟩

theorem wrapI (x : Int) (h0 : 0 ≤ x) (h1 : x ≤ 9223372036854775807) : IntKind.i64.wrap x = x := by
  simp [IntKind.wrap, IntKind.bits, IntKind.signed]
  omega
theorem product_step (L L' a : List Nat) (i m c y : Nat) (him : i + m < L'.length) (hv : val L = val (a.take i) * y) (h : val L' + pw (i + m) * c = val L + pw i * (y * a.getD i 0)) (h0 : L'.getD (i + m) 0 = 0) :
    val (L'.set (i + m) c) = val (a.take (i + 1)) * y := by
  have e := val_set L' (i + m) c him
  rw [h0, h, hv] at e
  rw [val_take_succ, Nat.add_mul, Nat.mul_assoc, Nat.mul_comm (a.getD i 0) y]
  omega

set_option maxHeartbeats 2000000 in
set_option maxRecDepth 1000000 in
theorem product_any {w : World} {ao bo : Option Addr} {x y : Nat} (ca cb : Nat) (ha : Rd w ao (words x)) (hb : Rd w bo (words y)) (hx : (words x).length ≤ 100000) (hy : (words y).length ≤ 100000) :
    Calls Try.prog 109 #[.slice ao (words x).length ca, .slice bo (words y).length cb] w (Row1 w (words (x * y))) := by
  obtain ⟨n, HX⟩ : ∃ n, Hid ((words x).length = n) := ⟨_, rfl⟩
  obtain ⟨m, HY⟩ : ∃ m, Hid ((words y).length = m) := ⟨_, rfl⟩
  rw [HX.out] at hx ⊢
  rw [HY.out] at hy ⊢
  have hmk := run_make_row' (P := Try.prog) 22 41 (.int .u32 0) 4 Try.underlying22 infoU rfl .i64 .i64 (n + m) (by omega) (by omega)
  simp only [Int.natCast_add, Int.cast_ofNat_Int] at hmk
  have hblk : words y ≠ [] → ∀ a, bo = some a → a.block ≠ w.heap.size := by
    intro hne a e
    obtain ⟨b, off, h1, h2, _⟩ := hb.pos hne
    rw [h1] at e
    cases e
    exact Nat.ne_of_lt h2
  go_enter Try.func109, Try.ntmps109
  go_wp2
  go_loopw [15] (fun v wr => ∃ (i : Nat) (L : List Nat), i ≤ n ∧ v = .int .i64 (i : Int) ∧ L.length = n + m ∧ Own w.heap.size wr (some ⟨w.heap.size, 0, none⟩) (n + m) L ∧ Below w.heap.size w wr ∧ val L = val ((words x).take i) * y ∧ ∀ p, i + m ≤ p → L.getD p 0 = 0) (fun v _ => n - (intOf v).toNat)
  case atStart =>
    refine ⟨0, List.replicate (n + m) 0, Nat.zero_le _, rfl, by simp, Own.made w (n + m) (by omega), (Below.refl _ w).alloc (Nat.le_refl _) _, by simp [val_replicate, val], fun p _ => ?_⟩
    simp only [List.getD_eq_getElem?_getD, List.getElem?_replicate]
    split <;> rfl
  case round =>
    obtain ⟨i, L, hi, rfl, hL, hown, hbw, hv, hz⟩ := hrel
    have HV : Hid _ := hv
    have HL : Hid _ := hL
    have HZ : Hid _ := hz
    clear hv hL hz
    by_cases hin : i < n
    · have ha' := ha.below hbw
      have hb' := hb.below hbw
      obtain ⟨b1, o1, rfl, _, hc1⟩ := ha'.pos (by intro e; have := HX.out; rw [e] at this; simp at this; omega)
      have k0 := hc1 i (by rw [HX.out]; omega)
      have d0 := (words_dig x).getD i
      have HA : Hid (∀ (c : Nat) (L' : List Nat), i + m < L'.length → val L' + pw (i + m) * c = val L + pw i * (y * (words x).getD i 0) → L'.getD (i + m) 0 = 0 → val (L'.set (i + m) c) = val ((words x).take (i + 1)) * y) :=
        fun c L' h1 h2 h3 => product_step L L' (words x) i m c y h1 HV.out h2 h3
      obtain ⟨k, hk⟩ : ∃ k, (words x).getD i 0 = k := ⟨_, rfl⟩
      rw [hk] at k0 d0 HA
      clear hk hc1 ha'
      have c1 := addTimes_any (i := i) (m := m) (c0 := n + m - i) (cb := cb) hown.drew hb'.drew HY.out (by rw [HL.out]; omega) (by rw [HL.out]; omega) hblk d0
      rw [val_words] at c1
      have HC : Hid _ := c1
      have HB : Hid _ := hbw.drew
      have HZ2 : Hid _ := hblk
      clear hown hbw c1 hb hb' ha hblk
      have q1 : (i : Int) ≤ (i : Int) + m := by omega
      have q3 : ¬ (n + m = i) := by omega
      have q4 : ((i : Int) + m).toNat = i + m := by omega
      have q5 : (0 : Int) ≤ i := by omega
      have q6 := wrapI ((i : Int) + m) (by omega) (by omega)
      have q7 : (i : Int) + m ≤ (n : Int) + m := by omega
      have q8 : i + m - i = m := by omega
      go_wp2_with fail
      go_region_with (go_at_call 113; refine Calls.mono HC.out ?_; rintro e w1 ⟨c, L', rfl, hc, hL', ho', hg', hv', hf'⟩; have k1 := ho'.cell (i + m) (by rw [hL', HL.out]; omega); have k2 := ho'.frozen (i + m); have HO : Hid _ := ho'; have HL' : Hid _ := hL'; have HG : Hid _ := hg'; have HV' : Hid _ := hv'; have HF : Hid _ := hf'; clear ho' hL' hg' hv' hf')
      all_goals
        go_wp2
        go_roundw
        case rel =>
          have hz : L'.getD (i + m) 0 = 0 := (HF.out _ (Nat.le_refl _)).trans (HZ.out _ (Nat.le_refl _))
          have hb2 : Below w.heap.size w w1 := HB.out.grown HG.out HB.out.size (fun k hk => by cases hk; exact Nat.le_refl _)
          refine ⟨i + 1, L'.set (i + m) c, by omega, by go_num, by rw [List.length_set, HL'.out]; exact HL.out, HO.out.set (i + m) c hc, hb2.setCell (Nat.le_refl _) _, HA.out c L' (by rw [HL'.out, HL.out]; omega) HV'.out hz, fun p hp => ?_⟩
          rw [getD_set_ne _ _ _ _ (by omega), HF.out p (by omega)]
          exact HZ.out p (by omega)
        case measure => simp [intOf]; omega
    · have e : i = n := by omega
      subst e
      have hval := HV.out
      rw [List.take_of_length_le (by rw [HX.out]; omega), val_words] at hval
      have c1 := trim_any hown (by rw [HL.out]; omega)
      rw [hval, HL.out] at c1
      have HC : Hid _ := c1
      have HB : Hid _ := hbw
      clear hval c1 hown hbw ha hb hblk
      go_wp2_with fail
      refine Calls.mono HC.out ?_
      rintro e w' ⟨rfl, ho, rfl⟩
      have HO : Hid _ := ho
      clear ho
      go_wp2
      go_ret
      exact ⟨_, _, rfl, HO.out, HB.out⟩
end Go.Proofs.Yteghiinbafbokaa
namespace Go.Proofs.Yteghiinbafbokaa
set_option linter.unusedVariables false
set_option linter.unusedSimpArgs false
set_option linter.unusedSectionVars false

section
variable {P ulow vlow u0 head next top U V : Nat} (hu : ulow < P) (hv : vlow < P) (hU : U = ulow + P * (u0 + 4294967296 * head)) (hV : V = vlow + P * (next + 4294967296 * top))
include hu hv hU hV
theorem guess_a : U / V * (next + 4294967296 * top) ≤ u0 + 4294967296 * head := by
  have h1 : U / V * V ≤ U := Nat.div_mul_le_self U V
  have h2 : U / V * (P * (next + 4294967296 * top)) ≤ U / V * V := Nat.mul_le_mul_left _ (by omega)
  have h3 : U < P * (u0 + 4294967296 * head + 1) := by rw [Nat.mul_add]; omega
  have h4 : P * (U / V * (next + 4294967296 * top)) < P * (u0 + 4294967296 * head + 1) := by
    rw [Nat.mul_left_comm]
    omega
  have := Nat.lt_of_mul_lt_mul_left h4
  omega
theorem guess_b (hlt : U < 4294967296 * V) : head ≤ next + 4294967296 * top := by
  have h1 : P * (u0 + 4294967296 * head) ≤ U := by omega
  have h2 : V < P * (next + 4294967296 * top + 1) := by rw [Nat.mul_add]; omega
  have h3 : P * (u0 + 4294967296 * head) < P * (4294967296 * (next + 4294967296 * top + 1)) := by
    have e : P * (4294967296 * (next + 4294967296 * top + 1)) = 4294967296 * (P * (next + 4294967296 * top + 1)) := Nat.mul_left_comm _ _ _
    rw [e]
    omega
  have := Nat.lt_of_mul_lt_mul_left h3
  omega
theorem guess_c (ht : 1 ≤ top) {g : Nat} (hg : g < 4294967296) (h : g * (next + 4294967296 * top) ≤ u0 + 4294967296 * head) : g ≤ U / V + 1 := by
  have hV0 : P * 4294967296 ≤ V := by
    have : P * (4294967296 * 1) ≤ P * (next + 4294967296 * top) := Nat.mul_le_mul_left _ (by omega)
    rw [Nat.mul_one] at this
    omega
  have h1 : g * V ≤ U + V := by
    rw [hV, Nat.mul_add, Nat.mul_left_comm, ← hV]
    have h2 : g * vlow ≤ 4294967296 * P := Nat.mul_le_mul (by omega) (by omega)
    have h3 : P * (g * (next + 4294967296 * top)) ≤ P * (u0 + 4294967296 * head) := Nat.mul_le_mul_left _ h
    have h4 : 4294967296 * P = P * 4294967296 := Nat.mul_comm _ _
    omega
  have hVpos : 0 < V := by
    have : 0 < P * 4294967296 := Nat.mul_pos (by omega) (by omega)
    omega
  have h5 : g - 1 ≤ U / V := by
    rw [Nat.le_div_iff_mul_le hVpos, Nat.sub_mul, Nat.one_mul]
    omega
  omega
end
/-- A list's top three words. -/
theorem val_top3 (M : List Nat) (m : Nat) (h : M.length = m + 3) : val M = val (M.take m) + pw m * (M.getD m 0 + 4294967296 * (M.getD (m + 2) 0 * 4294967296 + M.getD (m + 1) 0)) := by
  have e : M.take (m + 3) = M := List.take_of_length_le (by omega)
  have e1 := val_take_succ M m
  have e2 := val_take_succ M (m + 1)
  have e3 := val_take_succ M (m + 2)
  rw [e] at e3
  rw [e3, e2, e1, pw_succ (m + 1), pw_succ m]
  generalize pw m = P
  generalize M.getD m 0 = a
  generalize M.getD (m + 1) 0 = b
  generalize M.getD (m + 2) 0 = c
  rw [Nat.mul_add P, Nat.mul_left_comm P, Nat.mul_add P, Nat.mul_add 4294967296, Nat.mul_assoc, Nat.mul_assoc, Nat.mul_assoc]
  have : P * (c * 4294967296) = 4294967296 * (P * c) := by rw [Nat.mul_comm c, Nat.mul_left_comm]
  omega
theorem val_top2 (M : List Nat) (m : Nat) (h : M.length = m + 2) : val M = val (M.take m) + pw m * (M.getD m 0 + 4294967296 * M.getD (m + 1) 0) := by
  have e : M.take (m + 2) = M := List.take_of_length_le (by omega)
  have e1 := val_take_succ M m
  have e2 := val_take_succ M (m + 1)
  rw [e] at e2
  rw [e2, e1, pw_succ m]
  generalize pw m = P
  generalize M.getD m 0 = a
  generalize M.getD (m + 1) 0 = b
  rw [Nat.mul_add P, Nat.mul_left_comm P, Nat.mul_assoc]
  omega
theorem val_take_lt {l : List Nat} (h : Dig l) (k : Nat) (hk : k ≤ l.length) : val (l.take k) < pw k := by
  have := val_lt (h.take k)
  rwa [List.length_take, Nat.min_eq_left hk] at this

/-! ### A window of a row -/
theorem win_getD (P M S : List Nat) (j i : Nat) (hP : P.length = j) (hi : i < M.length) : (P ++ (M ++ S)).getD (j + i) 0 = M.getD i 0 := by
  simp only [List.getD_eq_getElem?_getD]
  rw [List.getElem?_append_right (by omega), List.getElem?_append_left (by omega)]
  congr 2
  omega
theorem win_set (P M S : List Nat) (j i d : Nat) (hP : P.length = j) (hi : i < M.length) : (P ++ (M ++ S)).set (j + i) d = P ++ (M.set i d ++ S) := by
  rw [List.set_append_right _ _ (by omega), List.set_append_left _ _ (by omega)]
  congr 3
  omega
theorem win_val (P M S : List Nat) : val (P ++ (M ++ S)) = val P + pw P.length * (val M + pw M.length * val S) := by
  rw [val_append, val_append]
end Go.Proofs.Yteghiinbafbokaa
namespace Go.Proofs.Yteghiinbafbokaa
set_option linter.unusedVariables false
set_option linter.unusedSimpArgs false

theorem wrap_u32 (x : Nat) (h : x < 4294967296) : IntKind.u32.wrap (x : Int) = x := by
  simp [IntKind.wrap, IntKind.bits, IntKind.signed]
  omega
theorem wrap_u64 (x : Nat) (h : x < 18446744073709551616) : IntKind.u64.wrap (x : Int) = x := by
  simp [IntKind.wrap, IntKind.bits, IntKind.signed]
  omega
theorem and_u32 (x y : Nat) (hx : x < 4294967296) (hy : y < 4294967296) : bits .and .u32 (x : Int) (y : Int) = ((x &&& y : Nat) : Int) := by
  have h1 : x &&& y < 4294967296 := Nat.lt_of_le_of_lt Nat.and_le_left hx
  have e : (BitVec.ofInt IntKind.u32.bits (x : Int) &&& BitVec.ofInt IntKind.u32.bits (y : Int)).toNat = x &&& y := by
    rw [BitVec.ofInt_natCast, BitVec.ofInt_natCast, BitVec.toNat_and, BitVec.toNat_ofNat, BitVec.toNat_ofNat]
    show x % 4294967296 &&& y % 4294967296 = _
    rw [Nat.mod_eq_of_lt hx, Nat.mod_eq_of_lt hy]
  show IntKind.u32.wrap ((BitVec.ofInt IntKind.u32.bits (x : Int) &&& BitVec.ofInt IntKind.u32.bits (y : Int)).toNat : Int) = _
  rw [e, wrap_u32 _ h1]
theorem or_u32 (x y : Nat) (hx : x < 4294967296) (hy : y < 4294967296) : bits .or .u32 (x : Int) (y : Int) = ((x ||| y : Nat) : Int) := by
  have h1 : x ||| y < 4294967296 := Nat.or_lt_two_pow (n := 32) hx hy
  have e : (BitVec.ofInt IntKind.u32.bits (x : Int) ||| BitVec.ofInt IntKind.u32.bits (y : Int)).toNat = x ||| y := by
    rw [BitVec.ofInt_natCast, BitVec.ofInt_natCast, BitVec.toNat_or, BitVec.toNat_ofNat, BitVec.toNat_ofNat]
    show x % 4294967296 ||| y % 4294967296 = _
    rw [Nat.mod_eq_of_lt hx, Nat.mod_eq_of_lt hy]
  show IntKind.u32.wrap ((BitVec.ofInt IntKind.u32.bits (x : Int) ||| BitVec.ofInt IntKind.u32.bits (y : Int)).toNat : Int) = _
  rw [e, wrap_u32 _ h1]
theorem xor_u32 (x y : Nat) (hx : x < 4294967296) (hy : y < 4294967296) : bits .xor .u32 (x : Int) (y : Int) = ((x ^^^ y : Nat) : Int) := by
  have h1 : x ^^^ y < 4294967296 := Nat.xor_lt_two_pow (n := 32) hx hy
  have e : (BitVec.ofInt IntKind.u32.bits (x : Int) ^^^ BitVec.ofInt IntKind.u32.bits (y : Int)).toNat = x ^^^ y := by
    rw [BitVec.ofInt_natCast, BitVec.ofInt_natCast, BitVec.toNat_xor, BitVec.toNat_ofNat, BitVec.toNat_ofNat]
    show x % 4294967296 ^^^ y % 4294967296 = _
    rw [Nat.mod_eq_of_lt hx, Nat.mod_eq_of_lt hy]
  show IntKind.u32.wrap ((BitVec.ofInt IntKind.u32.bits (x : Int) ^^^ BitVec.ofInt IntKind.u32.bits (y : Int)).toNat : Int) = _
  rw [e, wrap_u32 _ h1]
theorem and_u64 (x y : Nat) (hx : x < 18446744073709551616) (hy : y < 18446744073709551616) : bits .and .u64 (x : Int) (y : Int) = ((x &&& y : Nat) : Int) := by
  have h1 : x &&& y < 18446744073709551616 := Nat.lt_of_le_of_lt Nat.and_le_left hx
  have e : (BitVec.ofInt IntKind.u64.bits (x : Int) &&& BitVec.ofInt IntKind.u64.bits (y : Int)).toNat = x &&& y := by
    rw [BitVec.ofInt_natCast, BitVec.ofInt_natCast, BitVec.toNat_and, BitVec.toNat_ofNat, BitVec.toNat_ofNat]
    show x % 18446744073709551616 &&& y % 18446744073709551616 = _
    rw [Nat.mod_eq_of_lt hx, Nat.mod_eq_of_lt hy]
  show IntKind.u64.wrap ((BitVec.ofInt IntKind.u64.bits (x : Int) &&& BitVec.ofInt IntKind.u64.bits (y : Int)).toNat : Int) = _
  rw [e, wrap_u64 _ h1]
theorem or_u64 (x y : Nat) (hx : x < 18446744073709551616) (hy : y < 18446744073709551616) : bits .or .u64 (x : Int) (y : Int) = ((x ||| y : Nat) : Int) := by
  have h1 : x ||| y < 18446744073709551616 := Nat.or_lt_two_pow (n := 64) hx hy
  have e : (BitVec.ofInt IntKind.u64.bits (x : Int) ||| BitVec.ofInt IntKind.u64.bits (y : Int)).toNat = x ||| y := by
    rw [BitVec.ofInt_natCast, BitVec.ofInt_natCast, BitVec.toNat_or, BitVec.toNat_ofNat, BitVec.toNat_ofNat]
    show x % 18446744073709551616 ||| y % 18446744073709551616 = _
    rw [Nat.mod_eq_of_lt hx, Nat.mod_eq_of_lt hy]
  show IntKind.u64.wrap ((BitVec.ofInt IntKind.u64.bits (x : Int) ||| BitVec.ofInt IntKind.u64.bits (y : Int)).toNat : Int) = _
  rw [e, wrap_u64 _ h1]
/-- Bits that don't meet are added. -/
theorem or_add (hi lo k : Nat) (h : lo < 2 ^ k) : (hi * 2 ^ k) ||| lo = hi * 2 ^ k + lo := by
  rw [Nat.mul_comm]
  exact (Nat.two_pow_add_eq_or_of_lt h hi).symm
theorem and_one (x : Nat) : x &&& 1 = x % 2 := Nat.and_one_is_mod x

/-- What bits.Sub32 reckons for its borrow. -/
theorem sub_borrow (x y c d : Nat) (hx : x < 4294967296) (hy : y < 4294967296) (hc : c ≤ 1) (hd : d = (x + 8589934592 - y - c) % 4294967296) :
    (((4294967295 ^^^ x) &&& y) ||| ((4294967295 ^^^ (x ^^^ y)) &&& d)) / 2147483648 = if x < y + c then 1 else 0 := by
  have e31 : 2147483648 = 2 ^ 31 := rfl
  rw [e31, Nat.or_div_two_pow, Nat.and_div_two_pow, Nat.and_div_two_pow, Nat.xor_div_two_pow, Nat.xor_div_two_pow, Nat.xor_div_two_pow]
  have hX : x / 2 ^ 31 = 0 ∨ x / 2 ^ 31 = 1 := by omega
  have hY : y / 2 ^ 31 = 0 ∨ y / 2 ^ 31 = 1 := by omega
  have hD : d / 2 ^ 31 = 0 ∨ d / 2 ^ 31 = 1 := by omega
  have e1 : 4294967295 / 2 ^ 31 = 1 := rfl
  rw [e1]
  rcases hX with a | a <;> rcases hY with b | b <;> rcases hD with e | e <;> rw [a, b, e] <;> by_cases g : x < y + c <;> simp [g] <;> omega
end Go.Proofs.Yteghiinbafbokaa
namespace Go.Proofs.Yteghiinbafbokaa
open Go.RowKit
set_option linter.unusedVariables false
set_option linter.unusedSimpArgs false

section
variable {B : Nat} {w : World} {g cap j : Nat} {P M S : List Nat}
theorem Own.winCell (h : Own B w (some ⟨g, 0, none⟩) cap (P ++ (M ++ S))) (hP : P.length = j) (i : Nat) (hi : i < M.length) : w.cell? ⟨g, j + i, none⟩ = some (.int .u32 ((M.getD i 0 : Nat) : Int)) := by
  have := h.cell (j + i) (by simp only [List.length_append]; omega)
  rwa [win_getD P M S j i hP hi] at this
theorem Own.winSet (h : Own B w (some ⟨g, 0, none⟩) cap (P ++ (M ++ S))) (hP : P.length = j) (i d : Nat) (hi : i < M.length) (hd : d < 4294967296) : Own B (w.setCell ⟨g, j + i, none⟩ (.int .u32 (d : Int))) (some ⟨g, 0, none⟩) cap (P ++ (M.set i d ++ S)) := by
  have := h.set (j + i) d hd
  rwa [win_set P M S j i d hP hi] at this
theorem Own.winDig (h : Own B w (some ⟨g, 0, none⟩) cap (P ++ (M ++ S))) : Dig M := (dig_append.1 (dig_append.1 h.dig).2).1
theorem Own.winRd (h : Own B w (some ⟨g, 0, none⟩) cap (P ++ (M ++ S))) (hP : P.length = j) : Rd w (some ⟨g, j, none⟩) M := by
  refine ⟨h.winDig, fun hne => ⟨g, j, rfl, ?_, fun i hi => h.winCell hP i hi⟩⟩
  exact (h.lt _ rfl).2
end

def bor0 (x y : Nat) : Nat := if x < y then 1 else 0
def dif0 (x y : Nat) : Nat := (x + 4294967296 - y) % 4294967296
theorem dif0_eq {x y : Nat} (hx : x < 4294967296) (hy : y < 4294967296) : dif0 x y + y = x + 4294967296 * bor0 x y := by
  unfold dif0 bor0
  split <;> omega
theorem dif0_lt (x y : Nat) : dif0 x y < 4294967296 := Nat.mod_lt _ (by omega)
theorem subT_step (M' M v : List Nat) (i c k : Nat) (hi : i < M'.length) (hM : Dig M) (hd : M'.getD i 0 = M.getD i 0) (h : val (M'.take i) + val (v.take i) * k = val (M.take i) + pw i * c) :
    val ((M'.set i (dif0 (M.getD i 0) ((c + v.getD i 0 * k) % 4294967296))).take (i + 1)) + val (v.take (i + 1)) * k = val (M.take (i + 1)) + pw (i + 1) * ((c + v.getD i 0 * k) / 4294967296 + bor0 (M.getD i 0) ((c + v.getD i 0 * k) % 4294967296)) := by
  rw [val_set_take M' i _ hi, val_take_succ v, val_take_succ M, pw_succ, Nat.add_mul, Nat.mul_assoc (pw i)]
  have e := dif0_eq (hM.getD i) (Nat.mod_lt (c + v.getD i 0 * k) (show 0 < 4294967296 by omega))
  have e1 := Nat.mod_add_div (c + v.getD i 0 * k) 4294967296
  generalize dif0 (M.getD i 0) ((c + v.getD i 0 * k) % 4294967296) = d at *
  generalize bor0 (M.getD i 0) ((c + v.getD i 0 * k) % 4294967296) = z at *
  have e2 : pw i * d + pw i * (v.getD i 0 * k) + pw i * c = pw i * M.getD i 0 + 4294967296 * pw i * ((c + v.getD i 0 * k) / 4294967296 + z) := by
    have e3 : 4294967296 * pw i * ((c + v.getD i 0 * k) / 4294967296 + z) = pw i * (4294967296 * ((c + v.getD i 0 * k) / 4294967296 + z)) := by
      rw [Nat.mul_comm 4294967296 (pw i), Nat.mul_assoc]
    rw [e3, ← Nat.mul_add, ← Nat.mul_add, ← Nat.mul_add]
    congr 1
    omega
  omega
end Go.Proofs.Yteghiinbafbokaa
namespace Go.Proofs.Yteghiinbafbokaa
open Go.RowKit
set_option linter.unusedVariables false
set_option linter.unusedSimpArgs false

set_option maxHeartbeats 2000000 in
set_option maxRecDepth 1000000 in
theorem subTimes_any {B : Nat} {w : World} {g cap j n c0 cv k : Nat} {vo : Option Addr} {P M S v : List Nat} (ho : Own B w (some ⟨g, 0, none⟩) cap (P ++ (M ++ S))) (hP : P.length = j) (hM : M.length = n + 1) (hv : Rd w vo v) (hvn : v.length = n) (hn : n ≤ 1000000) (hj : j ≤ 1000000)
    (hne : v ≠ [] → ∀ a, vo = some a → a.block ≠ g) (hk : k < 4294967296) :
    Calls Try.prog 116 #[.slice (some ⟨g, j, none⟩) (n + 1) c0, .slice vo n cv, .int .u32 (k : Int)] w fun e w' => ∃ (z : Bool) (M' : List Nat), e = .returned (.bool z) ∧ M'.length = n + 1 ∧ Own B w' (some ⟨g, 0, none⟩) cap (P ++ (M' ++ S)) ∧ w.grownBy w' (some g) ∧ val M' + val v * k = val M + pw (n + 1) * z.toNat := by
  have HP : Hid _ := hP
  have HM : Hid _ := hM
  have HVN : Hid _ := hvn
  clear hP hM hvn
  go_enter Try.func116, Try.ntmps116
  go_wp2
  go_loopw [7, 13] (fun v7 v13 wr => ∃ (i c : Nat) (M' : List Nat), i ≤ n ∧ v13 = .int .i64 (i : Int) ∧ v7 = .int .u64 (c : Int) ∧ c < 4294967296 ∧ M'.length = n + 1 ∧ Own B wr (some ⟨g, 0, none⟩) cap (P ++ (M' ++ S)) ∧ w.grownBy wr (some g) ∧ val (M'.take i) + val (v.take i) * k = val (M.take i) + pw i * c ∧ ∀ p, i ≤ p → M'.getD p 0 = M.getD p 0) (fun _ v13 _ => n - (intOf v13).toNat)
  case atStart => exact ⟨0, 0, M, Nat.zero_le _, rfl, rfl, by omega, HM.out, ho, World.grownBy.refl _ _, by simp [val], fun _ _ => rfl⟩
  case round =>
    obtain ⟨i, c, M', hi, rfl, rfl, hc, hL, hown, hgr, hval, hfix⟩ := hrel
    have HV : Hid _ := hval
    have HL : Hid _ := hL
    have HF : Hid _ := hfix
    have HD : Hid (Dig M) := ho.winDig
    clear hval hL hfix
    by_cases hin : i < n
    · have hvne : v ≠ [] := by intro e; have := HVN.out; rw [e] at this; simp at this; omega
      have hv' := hv.grown hgr (fun a ha => by have := hne hvne a ha; intro e; cases e; exact this rfl)
      obtain ⟨b1, o1, rfl, _, hc1⟩ := hv'.pos hvne
      have k0 := hc1 i (by rw [HVN.out]; omega)
      have k1 := hown.winCell HP.out i (by rw [HL.out]; omega)
      have k2 := hown.frozen (j + i)
      have d1 := hown.winDig.getD i
      have d2 := hv.dig.getD i
      have HS : Hid _ := subT_step M' M v i c k (by rw [HL.out]; omega) HD.out (HF.out i (Nat.le_refl _)) HV.out
      have hti := HF.out i (Nat.le_refl _)
      rw [hti] at k1 d1
      obtain ⟨t, ht⟩ : ∃ t, M.getD i 0 = t := ⟨_, rfl⟩
      obtain ⟨q, hq⟩ : ∃ q, v.getD i 0 = q := ⟨_, rfl⟩
      rw [ht] at k1 d1 HS
      rw [hq] at k0 d2 HS
      clear ht hq hti hc1 hv'
      have m1 := mul_boundI d2 hk
      have m2 := mul_bound d2 hk
      obtain ⟨s, hs⟩ : ∃ s, c + q * k = s := ⟨_, rfl⟩
      have hsI : (c : Int) + (q : Int) * (k : Int) = (s : Int) := by rw [← hs, Int.natCast_add, Int.natCast_mul]
      have hsb : s ≤ 18446744069414584320 := by omega
      rw [hs] at HS
      clear hs
      have hset := hown.winSet HP.out i (dif0 t (s % 4294967296)) (by rw [HL.out]; omega) (dif0_lt _ _)
      have hgr' := grown_trans hgr (hown.setG (j + i) (dif0 t (s % 4294967296)))
      clear hown hgr hv ho hvne
      by_cases hlt : t < s % 4294967296
      · have e1 : ((t : Int) - (s : Int)) % 4294967296 = ((dif0 t (s % 4294967296) : Nat) : Int) := by unfold dif0; omega
        have e2 : bor0 t (s % 4294967296) = 1 := by unfold bor0; rw [if_pos hlt]
        rw [← e1] at hset hgr'
        rw [e2] at HS
        have HSet : Hid _ := hset
        have HG : Hid _ := hgr'
        clear hset hgr' e1 e2
        go_wp2
        go_roundw
        case rel =>
          refine ⟨i + 1, s / 4294967296 + 1, M'.set i (dif0 t (s % 4294967296)), by omega, by go_num, by go_num, by omega, by rw [List.length_set]; exact HL.out, HSet.out, HG.out, HS.out, fun p hp => ?_⟩
          rw [getD_set_ne _ _ _ _ (by omega)]
          exact HF.out p (by omega)
        case measure => simp only [intOf]; omega
      · have e1 : (t : Int) - (s : Int) % 4294967296 = ((dif0 t (s % 4294967296) : Nat) : Int) := by unfold dif0; omega
        have e2 : bor0 t (s % 4294967296) = 0 := by unfold bor0; rw [if_neg hlt]
        rw [← e1] at hset hgr'
        rw [e2] at HS
        have HSet : Hid _ := hset
        have HG : Hid _ := hgr'
        clear hset hgr' e1 e2
        go_wp2
        go_roundw
        case rel =>
          refine ⟨i + 1, s / 4294967296, M'.set i (dif0 t (s % 4294967296)), by omega, by go_num, by go_num, by omega, by rw [List.length_set]; exact HL.out, HSet.out, HG.out, HS.out, fun p hp => ?_⟩
          rw [getD_set_ne _ _ _ _ (by omega)]
          exact HF.out p (by omega)
        case measure => simp only [intOf]; omega
    · have e : i = n := by omega
      subst e
      have k1 := hown.winCell HP.out i (by rw [HL.out]; omega)
      have k2 := hown.frozen (j + i)
      have d1 := hown.winDig.getD i
      have hti := HF.out i (Nat.le_refl _)
      rw [hti] at k1 d1
      have hfin : ∀ d z, d + c = M.getD i 0 + 4294967296 * z → val (M'.set i d) + val v * k = val M + pw (i + 1) * z := by
        intro d z hdz
        have h1 := val_set_take M' i d (by rw [HL.out]; omega)
        have h2 := val_take_succ M i
        rw [List.take_of_length_le (by rw [List.length_set, HL.out]; omega)] at h1
        rw [List.take_of_length_le (by rw [HM.out]; omega)] at h2
        have h3 := HV.out
        rw [List.take_of_length_le (l := v) (by rw [HVN.out]; omega)] at h3
        have h4 : pw i * d + pw i * c = pw i * M.getD i 0 + 4294967296 * pw i * z := by
          have : 4294967296 * pw i * z = pw i * (4294967296 * z) := by rw [Nat.mul_comm 4294967296 (pw i), Nat.mul_assoc]
          rw [this, ← Nat.mul_add, ← Nat.mul_add, hdz]
        rw [h1, h2, pw_succ]
        omega
      have HFin : Hid _ := hfin
      obtain ⟨t, ht⟩ : ∃ t, M.getD i 0 = t := ⟨_, rfl⟩
      rw [ht] at k1 d1 HFin
      have hset := hown.winSet HP.out i (dif0 t c) (by rw [HL.out]; omega) (dif0_lt _ _)
      have hgr' := grown_trans hgr (hown.setG (j + i) (dif0 t c))
      have he := dif0_eq d1 hc
      clear ht hti hfin hown hgr hv ho
      by_cases hlt : t < c
      · have e1 : ((t : Int) - (c : Int)) % 4294967296 = ((dif0 t c : Nat) : Int) := by unfold dif0; omega
        have e2 : bor0 t c = 1 := by unfold bor0; rw [if_pos hlt]
        rw [e2] at he
        have HV2 : Hid _ := HFin.out (dif0 t c) 1 he
        rw [← e1] at hset hgr'
        have HSet : Hid _ := hset
        have HG : Hid _ := hgr'
        clear hset hgr' e1 e2 he
        go_wp2
        go_ret
        refine ⟨true, M'.set i (dif0 t c), ?_, by rw [List.length_set]; exact HL.out, HSet.out, HG.out, HV2.out⟩
        simp [hlt]
      · have e1 : (t : Int) - (c : Int) = ((dif0 t c : Nat) : Int) := by unfold dif0; omega
        have e2 : bor0 t c = 0 := by unfold bor0; rw [if_neg hlt]
        rw [e2] at he
        have HV2 : Hid _ := HFin.out (dif0 t c) 0 he
        rw [← e1] at hset hgr'
        have HSet : Hid _ := hset
        have HG : Hid _ := hgr'
        clear hset hgr' e1 e2 he
        go_wp2
        go_ret
        refine ⟨false, M'.set i (dif0 t c), ?_, by rw [List.length_set]; exact HL.out, HSet.out, HG.out, HV2.out⟩
        simp [hlt]

theorem back_step (M' M v : List Nat) (i c : Nat) (hi : i < M'.length) (h : val (M'.take i) + pw i * c = val (M.take i) + val (v.take i)) :
    val ((M'.set i ((M.getD i 0 + v.getD i 0 + c) % 4294967296)).take (i + 1)) + pw (i + 1) * ((M.getD i 0 + v.getD i 0 + c) / 4294967296) = val (M.take (i + 1)) + val (v.take (i + 1)) := by
  rw [val_set_take M' i _ hi, val_take_succ M, val_take_succ v, pw_succ]
  have := carry_step (pw i) (M.getD i 0 + v.getD i 0 + c)
  rw [Nat.mul_add, Nat.mul_add] at this
  omega

set_option maxHeartbeats 2000000 in
set_option maxRecDepth 1000000 in
theorem addBack_any {B : Nat} {w : World} {g cap j n c0 cv : Nat} {vo : Option Addr} {P M S v : List Nat} (ho : Own B w (some ⟨g, 0, none⟩) cap (P ++ (M ++ S))) (hP : P.length = j) (hM : M.length = n + 1) (hv : Rd w vo v) (hvn : v.length = n) (hn : n ≤ 1000000) (hj : j ≤ 1000000)
    (hne : v ≠ [] → ∀ a, vo = some a → a.block ≠ g) :
    Calls Try.prog 117 #[.slice (some ⟨g, j, none⟩) (n + 1) c0, .slice vo n cv] w fun e w' => ∃ (z : Nat) (M' : List Nat), e = .returned (.tuple #[]) ∧ M'.length = n + 1 ∧ Own B w' (some ⟨g, 0, none⟩) cap (P ++ (M' ++ S)) ∧ w.grownBy w' (some g) ∧ val M' + pw (n + 1) * z = val M + val v := by
  have HP : Hid _ := hP
  have HM : Hid _ := hM
  have HVN : Hid _ := hvn
  clear hP hM hvn
  go_enter Try.func117, Try.ntmps117
  go_wp2
  go_loopw [4, 8] (fun v4 v8 wr => ∃ (i c : Nat) (M' : List Nat), i ≤ n ∧ v8 = .int .i64 (i : Int) ∧ v4 = .int .u32 (c : Int) ∧ c ≤ 1 ∧ M'.length = n + 1 ∧ Own B wr (some ⟨g, 0, none⟩) cap (P ++ (M' ++ S)) ∧ w.grownBy wr (some g) ∧ val (M'.take i) + pw i * c = val (M.take i) + val (v.take i) ∧ ∀ p, i ≤ p → M'.getD p 0 = M.getD p 0) (fun _ v8 _ => n - (intOf v8).toNat)
  case atStart => exact ⟨0, 0, M, Nat.zero_le _, rfl, rfl, by omega, HM.out, ho, World.grownBy.refl _ _, by simp [val], fun _ _ => rfl⟩
  case round =>
    obtain ⟨i, c, M', hi, rfl, rfl, hc, hL, hown, hgr, hval, hfix⟩ := hrel
    have HV : Hid _ := hval
    have HL : Hid _ := hL
    have HF : Hid _ := hfix
    clear hval hL hfix
    by_cases hin : i < n
    · have hvne : v ≠ [] := by intro e; have := HVN.out; rw [e] at this; simp at this; omega
      have hv' := hv.grown hgr (fun a ha => by have := hne hvne a ha; intro e; cases e; exact this rfl)
      obtain ⟨b1, o1, rfl, _, hc1⟩ := hv'.pos hvne
      have k0 := hc1 i (by rw [HVN.out]; omega)
      have k1 := hown.winCell HP.out i (by rw [HL.out]; omega)
      have k2 := hown.frozen (j + i)
      have d1 := hown.winDig.getD i
      have d2 := hv.dig.getD i
      have HS : Hid _ := back_step M' M v i c (by rw [HL.out]; omega) HV.out
      have hti := HF.out i (Nat.le_refl _)
      rw [hti] at k1 d1
      obtain ⟨t, ht⟩ : ∃ t, M.getD i 0 = t := ⟨_, rfl⟩
      obtain ⟨q, hq⟩ : ∃ q, v.getD i 0 = q := ⟨_, rfl⟩
      rw [ht] at k1 d1 HS
      rw [hq] at k0 d2 HS
      clear ht hq hti hc1 hv'
      have HC : Hid _ := add32_any t q c wr.drew d1 d2 (by omega)
      have HSet : Hid _ := hown.winSet HP.out i ((t + q + c) % 4294967296) (by rw [HL.out]; omega) (Nat.mod_lt _ (by omega))
      have HG : Hid _ := grown_trans hgr (hown.setG (j + i) ((t + q + c) % 4294967296))
      clear hown hgr hv ho hvne
      have q5 : (0 : Int) ≤ (i : Int) := by omega
      have q6 : (i : Int) < (n : Int) := by omega
      have q7 : (i : Int) < (n : Int) + 1 := by omega
      go_wp2_with fail
      go_region_with (go_at_call 96; refine Calls.mono HC.out ?_; rintro e w' ⟨rfl, rfl⟩)
      all_goals
        go_wp2
        go_roundw
        case rel =>
          refine ⟨i + 1, (t + q + c) / 4294967296, M'.set i ((t + q + c) % 4294967296), by omega, by go_num, rfl, by omega, by rw [List.length_set]; exact HL.out, HSet.out.drew, grown_drew HG.out, HS.out, fun p hp => ?_⟩
          rw [getD_set_ne _ _ _ _ (by omega)]
          exact HF.out p (by omega)
        case measure => simp only [intOf]; omega
    · have e : i = n := by omega
      subst e
      have k1 := hown.winCell HP.out i (by rw [HL.out]; omega)
      have k2 := hown.frozen (j + i)
      have d1 := hown.winDig.getD i
      have hti := HF.out i (Nat.le_refl _)
      rw [hti] at k1 d1
      have hfin : val (M'.set i ((M.getD i 0 + c) % 4294967296)) + pw (i + 1) * ((M.getD i 0 + c) / 4294967296) = val M + val v := by
        have h1 := val_set_take M' i ((M.getD i 0 + c) % 4294967296) (by rw [HL.out]; omega)
        have h2 := val_take_succ M i
        rw [List.take_of_length_le (by rw [List.length_set, HL.out]; omega)] at h1
        rw [List.take_of_length_le (by rw [HM.out]; omega)] at h2
        have h3 := HV.out
        rw [List.take_of_length_le (l := v) (by rw [HVN.out]; omega)] at h3
        have h4 := carry_step (pw i) (M.getD i 0 + c)
        rw [Nat.mul_add] at h4
        rw [h1, h2, pw_succ]
        omega
      have HFin : Hid _ := hfin
      obtain ⟨t, ht⟩ : ∃ t, M.getD i 0 = t := ⟨_, rfl⟩
      rw [ht] at k1 d1 HFin
      have HSet : Hid _ := hown.winSet HP.out i ((t + c) % 4294967296) (by rw [HL.out]; omega) (Nat.mod_lt _ (by omega))
      have HG : Hid _ := grown_trans hgr (hown.setG (j + i) ((t + c) % 4294967296))
      clear ht hti hfin hown hgr hv ho
      go_wp2
      go_end0
      exact ⟨(t + c) / 4294967296, M'.set i ((t + c) % 4294967296), rfl, by rw [List.length_set]; exact HL.out, HSet.out, HG.out, HFin.out⟩
end Go.Proofs.Yteghiinbafbokaa
namespace Go.Proofs.Yteghiinbafbokaa
open Go.RowKit
set_option linter.unusedVariables false
set_option linter.unusedSimpArgs false

theorem getD_set_eq (l : List Nat) (i d : Nat) (h : i < l.length) : (l.set i d).getD i 0 = d := by simp [h]
/-- A word shifted up: what stays and what goes over. -/
theorem or_low (h a r : Nat) (hr : r < 32) (hh : h < 2 ^ r) : (h ||| (a * 2 ^ r % 4294967296)) = h + a * 2 ^ r % 4294967296 := by
  have e : a * 2 ^ r % 4294967296 = (a % 2 ^ (32 - r)) * 2 ^ r := by
    have e2 : 4294967296 = 2 ^ (32 - r) * 2 ^ r := by rw [← Nat.pow_add, show 32 - r + r = 32 by omega]
    rw [e2, Nat.mul_mod_mul_right]
  rw [e, Nat.or_comm, or_add _ _ _ hh, Nat.add_comm]
theorem low_lt (h a r : Nat) (hr : r < 32) (hh : h < 2 ^ r) : h + a * 2 ^ r % 4294967296 < 4294967296 := by
  rw [← or_low h a r hr hh]
  have h1 : h < 2 ^ 32 := Nat.lt_of_lt_of_le hh (Nat.pow_le_pow_right (by omega) (by omega))
  exact Nat.or_lt_two_pow (n := 32) h1 (Nat.mod_lt _ (by omega))
theorem high_lt (a r : Nat) (ha : a < 4294967296) : a * 2 ^ r / 4294967296 < 2 ^ r := by
  rw [Nat.div_lt_iff_lt_mul (by omega), Nat.mul_comm]
  exact Nat.mul_lt_mul_of_pos_left ha (Nat.pow_pos (by omega))
theorem shl_lt (a r : Nat) (ha : a < 4294967296) (hr : r < 32) : a * 2 ^ r ≤ 9223372034707292160 := by
  have h1 : 2 ^ r ≤ 2 ^ 31 := Nat.pow_le_pow_right (by omega) (by omega)
  have h2 : a * 2 ^ r ≤ 4294967295 * 2 ^ 31 := Nat.mul_le_mul (by omega) h1
  omega
theorem up_step (L a : List Nat) (W i r : Nat) (hi : W + i + 1 < L.length) (hr : r < 32) (hv : val L = pw W * (val (a.take i) * 2 ^ r)) (h1 : L.getD (W + i) 0 < 2 ^ r) (h0 : L.getD (W + i + 1) 0 = 0) :
    val ((L.set (W + i) (L.getD (W + i) 0 + a.getD i 0 * 2 ^ r % 4294967296)).set (W + i + 1) (a.getD i 0 * 2 ^ r / 4294967296)) = pw W * (val (a.take (i + 1)) * 2 ^ r) := by
  have e1 := val_set L (W + i) (L.getD (W + i) 0 + a.getD i 0 * 2 ^ r % 4294967296) (by omega)
  have e2 := val_set (L.set (W + i) (L.getD (W + i) 0 + a.getD i 0 * 2 ^ r % 4294967296)) (W + i + 1) (a.getD i 0 * 2 ^ r / 4294967296) (by rw [List.length_set]; omega)
  rw [getD_set_ne _ _ _ _ (by omega), h0] at e2
  have e3 := carry_step (pw (W + i)) (a.getD i 0 * 2 ^ r)
  rw [pw_succ] at e2
  rw [Nat.mul_add] at e1
  have e4 : pw W * (val (a.take (i + 1)) * 2 ^ r) = val L + pw (W + i) * (a.getD i 0 * 2 ^ r) := by
    rw [val_take_succ, Nat.add_mul, Nat.mul_add, hv, pw_add]
    simp only [Nat.mul_assoc]
  rw [e4]
  omega

set_option maxHeartbeats 2000000 in
set_option maxRecDepth 1000000 in
theorem shiftUp_any {w : World} {ao : Option Addr} {x : Nat} (ca k : Nat) (ha : Rd w ao (words x)) (hx : (words x).length ≤ 100000) (hk : k ≤ 1000000) :
    Calls Try.prog 65 #[.slice ao (words x).length ca, .int .i64 (k : Int)] w (Row1 w (words (x * 2 ^ k))) := by
  obtain ⟨n, HX⟩ : ∃ n, Hid ((words x).length = n) := ⟨_, rfl⟩
  rw [HX.out] at hx ⊢
  obtain ⟨W, hW⟩ : ∃ W, k / 32 = W := ⟨_, rfl⟩
  obtain ⟨r, hr⟩ : ∃ r, k % 32 = r := ⟨_, rfl⟩
  have hr32 : r < 32 := by omega
  have hWk : W ≤ 100000 := by omega
  have e1 : (k : Int) / 32 = (W : Int) := by omega
  have e2 : (k : Int) % 32 = (r : Int) := by omega
  have HKK : Hid (2 ^ k = pw W * 2 ^ r) := by
    show 2 ^ k = pw W * 2 ^ r
    rw [pw_two, ← Nat.pow_add]
    congr 1
    omega
  have hmk := run_make_row' (P := Try.prog) 22 41 (.int .u32 0) 4 Try.underlying22 infoU rfl .i64 .i64 (W + n + 1) (by omega) (by omega)
  simp only [Int.natCast_add, Int.cast_ofNat_Int] at hmk
  clear hW hr
  go_enter Try.func65, Try.ntmps65
  go_wp2
  go_loopw [22] (fun v wr => ∃ (i : Nat) (L : List Nat), i ≤ n ∧ v = .int .i64 (i : Int) ∧ L.length = W + n + 1 ∧ Own w.heap.size wr (some ⟨w.heap.size, 0, none⟩) (W + n + 1) L ∧ Below w.heap.size w wr ∧ val L = pw W * (val ((words x).take i) * 2 ^ r) ∧ L.getD (W + i) 0 < 2 ^ r ∧ ∀ p, W + i < p → L.getD p 0 = 0) (fun v _ => n - (intOf v).toNat)
  case atStart =>
    have hz : ∀ p, (List.replicate (W + n + 1) 0).getD p 0 = 0 := by
      intro p
      simp only [List.getD_eq_getElem?_getD, List.getElem?_replicate]
      split <;> rfl
    exact ⟨0, List.replicate (W + n + 1) 0, Nat.zero_le _, rfl, by simp, Own.made w (W + n + 1) (by omega), (Below.refl _ w).alloc (Nat.le_refl _) _, by simp [val_replicate, val], by rw [hz]; exact Nat.pow_pos (by omega), fun p _ => hz p⟩
  case round =>
    obtain ⟨i, L, hi, rfl, hL, hown, hbw, hv, hcar, hz⟩ := hrel
    have HV : Hid _ := hv
    have HL : Hid _ := hL
    have HZ : Hid _ := hz
    have HCar : Hid _ := hcar
    clear hv hL hz hcar
    by_cases hin : i < n
    · have ha' := ha.below hbw
      obtain ⟨b1, o1, rfl, _, hc1⟩ := ha'.pos (by intro e; have := HX.out; rw [e] at this; simp at this; omega)
      have k0 := hc1 i (by rw [HX.out]; omega)
      have k1 := hown.cell (W + i) (by rw [HL.out]; omega)
      have k2 := hown.frozen (W + i)
      have d0 := (words_dig x).getD i
      have d1 := hown.dig.getD (W + i)
      have HS : Hid _ := up_step L (words x) W i r (by rw [HL.out]; omega) hr32 HV.out HCar.out (HZ.out _ (by omega))
      have k3 := hown.cell (W + i + 1) (by rw [HL.out]; omega)
      have k4 := hown.frozen (W + i + 1)
      obtain ⟨d, hd⟩ : ∃ d, (words x).getD i 0 = d := ⟨_, rfl⟩
      obtain ⟨h, hh⟩ : ∃ h, L.getD (W + i) 0 = h := ⟨_, rfl⟩
      rw [hd] at k0 d0 HS
      rw [hh] at k1 d1 HS HCar
      clear hd hh hc1 ha'
      have hset := hown.set (W + i) (h + d * 2 ^ r % 4294967296) (low_lt h d r hr32 HCar.out)
      have hset2 := hset.set (W + i + 1) (d * 2 ^ r / 4294967296) (by have := shl_lt d r d0 hr32; omega)
      have hb2 := (hbw.setCell (p := ⟨w.heap.size, W + i, none⟩) (Nat.le_refl _) (.int .u32 ((h + d * 2 ^ r % 4294967296 : Nat) : Int))).setCell (p := ⟨w.heap.size, W + i + 1, none⟩) (Nat.le_refl _) (.int .u32 ((d * 2 ^ r / 4294967296 : Nat) : Int))
      have s1 := shl_lt d r d0 hr32
      have s1i : (d : Int) * 2 ^ r ≤ 9223372034707292160 ∧ 0 ≤ (d : Int) * 2 ^ r := by
        have e : (d : Int) * 2 ^ r = ((d * 2 ^ r : Nat) : Int) := by rw [Int.natCast_mul, Int.natCast_pow]; rfl
        rw [e]
        omega
      have hor : bits BinOp.or IntKind.u32 (h : Int) ((d : Int) * 2 ^ r % 4294967296) = ((h + d * 2 ^ r % 4294967296 : Nat) : Int) := by
        have e : (d : Int) * 2 ^ r % 4294967296 = ((d * 2 ^ r % 4294967296 : Nat) : Int) := by rw [Int.natCast_emod, Int.natCast_mul, Int.natCast_pow]; rfl
        rw [e, or_u32 _ _ d1 (Nat.mod_lt _ (by omega)), or_low h d r hr32 HCar.out]
      simp only [Int.natCast_add, Int.natCast_emod, Int.natCast_mul, Int.natCast_pow, Int.natCast_ediv, Int.cast_ofNat_Int] at hset2 hb2
      have HSet : Hid _ := hset2
      have HB : Hid _ := hb2
      clear hset hset2 hb2 hown hbw ha
      go_wp2
      go_roundw
      case rel =>
        refine ⟨i + 1, (L.set (W + i) (h + d * 2 ^ r % 4294967296)).set (W + i + 1) (d * 2 ^ r / 4294967296), by omega, by go_num, by rw [List.length_set, List.length_set]; exact HL.out, HSet.out, HB.out, HS.out, ?_, fun p hp => ?_⟩
        · rw [show W + (i + 1) = W + i + 1 by omega, getD_set_eq _ _ _ (by rw [List.length_set, HL.out]; omega)]
          exact high_lt d r d0
        · rw [getD_set_ne _ _ _ _ (by omega), getD_set_ne _ _ _ _ (by omega)]
          exact HZ.out p (by omega)
      case measure => simp only [intOf]; omega
    · have e : i = n := by omega
      subst e
      have hval : val L = x * 2 ^ k := by
        have h1 := HV.out
        rw [List.take_of_length_le (by rw [HX.out]; omega), val_words] at h1
        rw [h1, HKK.out, Nat.mul_left_comm]
      have c1 := trim_any hown (by rw [HL.out]; omega)
      rw [hval, HL.out] at c1
      have HC : Hid _ := c1
      have HB : Hid _ := hbw
      clear hval c1 hown hbw ha
      go_wp2_with fail
      refine Calls.mono HC.out ?_
      rintro e w' ⟨rfl, ho, rfl⟩
      have HO : Hid _ := ho
      clear ho
      go_wp2
      go_ret
      exact ⟨_, _, rfl, HO.out, HB.out⟩

theorem down_step (L : List Nat) (x W i r : Nat) (hi : i < L.length) (hr : r < 32) (h : val (L.take i) = x / (pw W * 2 ^ r) % pw i) :
    val ((L.set i (((words x).getD (W + i + 1) 0 * 4294967296 + (words x).getD (W + i) 0) / 2 ^ r % 4294967296)).take (i + 1)) = x / (pw W * 2 ^ r) % pw (i + 1) := by
  rw [val_set_take L i _ hi, h, pw_succ, Nat.mul_comm 4294967296 (pw i), Nat.mod_mul]
  congr 2
  rw [words_getD, words_getD]
  have e1 : x / (pw W * 2 ^ r) / pw i = x / pw (W + i) / 2 ^ r := by
    rw [Nat.div_div_eq_div_mul, Nat.div_div_eq_div_mul, pw_add, Nat.mul_assoc, Nat.mul_comm (2 ^ r) (pw i), Nat.mul_assoc]
  have e2 : x / pw (W + i + 1) = x / pw (W + i) / 4294967296 := by
    rw [Nat.div_div_eq_div_mul, pw_succ, Nat.mul_comm]
  rw [e1, e2]
  generalize x / pw (W + i) = y
  have e3 : y / 4294967296 % 4294967296 * 4294967296 + y % 4294967296 = y % 18446744073709551616 := by omega
  rw [e3]
  have e4 : y % 18446744073709551616 / 2 ^ r % 4294967296 = y / 2 ^ r % 4294967296 := by
    have h1 : 18446744073709551616 = 2 ^ r * (2 ^ (32 - r) * 4294967296) := by
      rw [← Nat.mul_assoc, ← Nat.pow_add, show r + (32 - r) = 32 by omega]
    have h2 : y % (2 ^ r * (2 ^ (32 - r) * 4294967296)) / 2 ^ r = y / 2 ^ r % (2 ^ (32 - r) * 4294967296) := Nat.mod_mul_right_div_self _ _ _
    rw [h1, h2, Nat.mod_mul_left_mod]
  rw [e4]

theorem or_two (p q : Nat) (hq : q < 4294967296) : (p * 4294967296 ||| q) = p * 4294967296 + q := or_add p q 32 hq

set_option maxHeartbeats 2000000 in
set_option maxRecDepth 1000000 in
theorem shiftDown_any {w : World} {ao : Option Addr} {x : Nat} (ca k : Nat) (ha : Rd w ao (words x)) (hx : (words x).length ≤ 100000) (hk : k ≤ 1000000) :
    Calls Try.prog 63 #[.slice ao (words x).length ca, .int .i64 (k : Int)] w (Row1 w (words (x / 2 ^ k))) := by
  obtain ⟨n, HX⟩ : ∃ n, Hid ((words x).length = n) := ⟨_, rfl⟩
  rw [HX.out] at hx ⊢
  obtain ⟨W, hW⟩ : ∃ W, k / 32 = W := ⟨_, rfl⟩
  obtain ⟨r, hr⟩ : ∃ r, k % 32 = r := ⟨_, rfl⟩
  have hr32 : r < 32 := by omega
  have hWk : W ≤ 100000 := by omega
  have e1 : (k : Int) / 32 = (W : Int) := by omega
  have e2 : (k : Int) % 32 = (r : Int) := by omega
  have HKK : Hid (2 ^ k = pw W * 2 ^ r) := by
    show 2 ^ k = pw W * 2 ^ r
    rw [pw_two, ← Nat.pow_add]
    congr 1
    omega
  clear hW hr
  obtain ⟨m, hm, hor⟩ : ∃ m : Nat, m = n - W ∧ ((W ≤ n ∧ ((n : Int) - W) = m) ∨ (n < W ∧ m = 0)) := ⟨n - W, rfl, by omega⟩
  have hmk := run_make_row' (P := Try.prog) 22 41 (.int .u32 0) 4 Try.underlying22 infoU rfl .i64 .i64 m (by omega) (by omega)
  have HMM : Hid _ := hm
  clear hm
  have HEnd : Hid (x / (pw W * 2 ^ r) % pw m = x / 2 ^ k) := by
    show x / (pw W * 2 ^ r) % pw m = x / 2 ^ k
    rw [HKK.out]
    apply Nat.mod_eq_of_lt
    have h1 : x < pw n := by have := words_lt x; rw [HX.out] at this; exact this
    have h2 : x / (pw W * 2 ^ r) ≤ x / pw W := by
      rw [← Nat.div_div_eq_div_mul]
      exact Nat.div_le_self _ _
    have h3 : x / pw W < pw m := by
      rw [Nat.div_lt_iff_lt_mul (pw_pos W), ← pw_add]
      exact Nat.lt_of_lt_of_le h1 (pw_le (by rw [HMM.out]; omega))
    omega
  have hmn : m ≤ n := by rw [HMM.out]; omega
  have hsum : W + m ≤ n ∨ m = 0 := by rw [HMM.out]; omega
  rcases hor with ⟨hWn, hnm⟩ | ⟨hWn, hm0⟩
  all_goals
    first
    | (subst hm0
       have hmk0 : ∀ w, (Instr.makeSlice 22 (.int .i64 0) (.int .i64 0)).run Try.prog w = .ok (.slice (some ⟨w.heap.size, 0, none⟩) 0 0) (w.alloc (.cells (madeCells #[.int .u32 0] 0) 41)) := hmk
       clear hmk
       go_enter Try.func63, Try.ntmps63)
    | go_enter Try.func63, Try.ntmps63
    go_wp2
  · try simp only [e1, e2]
    go_loopw [22] (fun v wr => ∃ (i : Nat) (L : List Nat), i ≤ m ∧ v = .int .i64 (i : Int) ∧ L.length = m ∧ Own w.heap.size wr (some ⟨w.heap.size, 0, none⟩) m L ∧ Below w.heap.size w wr ∧ val (L.take i) = x / (pw W * 2 ^ r) % pw i) (fun v _ => m - (intOf v).toNat)
    case atStart => exact ⟨0, List.replicate m 0, Nat.zero_le _, rfl, by simp, Own.made w m (by omega), (Below.refl _ w).alloc (Nat.le_refl _) _, by simp [val, pw_zero, Nat.mod_one]⟩
    case round =>
      obtain ⟨i, L, hi, rfl, hL, hown, hbw, hv⟩ := hrel
      have HV : Hid _ := hv
      have HL : Hid _ := hL
      clear hv hL
      by_cases hin : i < m
      · have ha' := ha.below hbw
        have c1 := wordAt_any ca (W + i + 1) ha'.drew
        obtain ⟨b1, o1, rfl, _, hc1⟩ := ha'.pos (by intro e; have := HX.out; rw [e] at this; simp at this; omega)
        have k0 := hc1 (W + i) (by rw [HX.out]; omega)
        have k1 := hown.cell i (by rw [HL.out]; omega)
        have k2 := hown.frozen i
        rw [HX.out] at c1
        simp only [Int.natCast_add, Int.cast_ofNat_Int] at c1
        have d1 := (words_dig x).getD (W + i)
        have d2 := (words_dig x).getD (W + i + 1)
        have HS : Hid _ := down_step L x W i r (by rw [HL.out]; omega) hr32 HV.out
        obtain ⟨q, hq⟩ : ∃ q, (words x).getD (W + i) 0 = q := ⟨_, rfl⟩
        obtain ⟨p, hp⟩ : ∃ p, (words x).getD (W + i + 1) 0 = p := ⟨_, rfl⟩
        rw [hq] at k0 d1 HS
        rw [hp] at c1 d2 HS
        clear hq hp hc1 ha'
        have hset := hown.set i ((p * 4294967296 + q) / 2 ^ r % 4294967296) (Nat.mod_lt _ (by omega))
        have hb2 := hbw.setCell (p := ⟨w.heap.size, i, none⟩) (Nat.le_refl _) (.int .u32 (((p * 4294967296 + q) / 2 ^ r % 4294967296 : Nat) : Int))
        simp only [Int.natCast_add, Int.natCast_emod, Int.natCast_mul, Int.natCast_pow, Int.natCast_ediv, Int.cast_ofNat_Int] at hset hb2
        have hor := or_u64 (p * 4294967296) q (by omega) (by omega)
        rw [or_two p q d1] at hor
        simp only [Int.natCast_add, Int.natCast_mul, Int.cast_ofNat_Int] at hor
        have w1 := wrapI ((W : Int) + i) (by omega) (by omega)
        have w2 := wrapI ((W : Int) + i + 1) (by omega) (by omega)
        have w3 : IntKind.u64.wrap ((p : Int) * 4294967296) = (p : Int) * 4294967296 := by
          have := wrap_u64 (p * 4294967296) (by omega)
          simpa using this
        have q4 : ((W : Int) + i).toNat = W + i := by omega
        have q5 : (0 : Int) ≤ (W : Int) + i := by omega
        have q6 : (W : Int) + i < (n : Int) := by omega
        have HC : Hid _ := c1
        have HSet : Hid _ := hset
        have HB : Hid _ := hb2
        clear hset hb2 hown hbw ha c1
        go_wp2_with fail
        go_region_with (go_at_call 87; refine Calls.mono HC.out ?_; rintro e w' ⟨rfl, rfl⟩)
        all_goals
          try simp only [hor]
          go_wp2
          try simp only [hor]
          go_roundw
          case rel => exact ⟨i + 1, L.set i ((p * 4294967296 + q) / 2 ^ r % 4294967296), by omega, by go_num, by rw [List.length_set]; exact HL.out, HSet.out.drew, HB.out.drew, HS.out⟩
          case measure => simp only [intOf]; omega
      · have e : i = m := by omega
        subst e
        have hval : val L = x / 2 ^ k := by
          have h1 := HV.out
          rw [List.take_of_length_le (by rw [HL.out]; omega), HEnd.out] at h1
          exact h1
        have c1 := trim_any hown (by rw [HL.out]; omega)
        rw [hval, HL.out] at c1
        have HC : Hid _ := c1
        have HB : Hid _ := hbw
        clear hval c1 hown hbw ha
        go_wp2_with fail
        refine Calls.mono HC.out ?_
        rintro e w' ⟨rfl, ho, rfl⟩
        have HO : Hid _ := ho
        clear ho
        go_wp2
        go_ret
        exact ⟨_, _, rfl, HO.out, HB.out⟩
  · go_loopw [22] (fun v wr => v = .int .i64 0 ∧ Own w.heap.size wr (some ⟨w.heap.size, 0, none⟩) 0 [] ∧ Below w.heap.size w wr) (fun v _ => 0)
    case atStart => exact ⟨rfl, Own.made w 0 (by omega), (Below.refl _ w).alloc (Nat.le_refl _) _⟩
    case round =>
      obtain ⟨rfl, hown, hbw⟩ := hrel
      have hval : val [] = x / 2 ^ k := by
        have h1 := HEnd.out
        rw [pw_zero, Nat.mod_one] at h1
        exact h1
      have c1 := trim_any hown (by simp)
      rw [hval] at c1
      have HC : Hid _ := c1
      have HB : Hid _ := hbw
      clear hval c1 hown hbw ha
      go_wp2_with fail
      refine Calls.mono HC.out ?_
      rintro e w' ⟨rfl, ho, rfl⟩
      have HO : Hid _ := ho
      clear ho
      go_wp2
      go_ret
      exact ⟨_, _, rfl, HO.out, HB.out⟩
end Go.Proofs.Yteghiinbafbokaa
namespace Go.Proofs.Yteghiinbafbokaa
open Go.RowKit
set_option linter.unusedVariables false
set_option linter.unusedSimpArgs false

theorem Rd.apart' {w w' : World} {ao : Option Addr} {l : List Nat} {g : Nat} (h : Rd w ao l) (hg : w.grownBy w' (some g)) (hne : l ≠ [] → ∀ a, ao = some a → a.block ≠ g) : Rd w' ao l := by
  by_cases hl : l = []
  · subst hl
    exact Rd.nil _ _
  · exact h.grown hg (fun a ha e => by cases e; exact hne hl a ha rfl)
theorem guess_first {q head next top u0 : Nat} (ht : 1 ≤ top) (hu : u0 < 4294967296) (h : q * (next + 4294967296 * top) ≤ u0 + 4294967296 * head) : q ≤ head / top := by
  rw [Nat.le_div_iff_mul_le (by omega)]
  have h1 : q * (4294967296 * top) ≤ q * (next + 4294967296 * top) := Nat.mul_le_mul_left _ (by omega)
  rw [Nat.mul_left_comm] at h1
  omega
theorem guess_more {q gs l head next top u0 : Nat} (h : q * (next + 4294967296 * top) ≤ u0 + 4294967296 * head) (hgl : gs * top + l = head) (hgt : l * 4294967296 + u0 < gs * next) (hq : q ≤ gs) : q < gs := by
  apply Classical.byContradiction
  intro hn
  have e : q = gs := by omega
  subst e
  rw [Nat.mul_add, Nat.mul_left_comm] at h
  omega
theorem guess_end1 {gs l head next top : Nat} (hb : head ≤ next + 4294967296 * top) (hn : next < 4294967296) (ht : 1 ≤ top) (hgl : gs * top + l = head) (hl : 4294967296 ≤ l) : gs < 4294967296 := by
  apply Classical.byContradiction
  intro h
  have : 4294967296 * top ≤ gs * top := Nat.mul_le_mul_right _ (by omega)
  omega
theorem guess_end2 {gs l head next top u0 : Nat} (hn : next < 4294967296) (hg : gs < 4294967296) (hgl : gs * top + l = head) (h : 4294967296 ≤ l ∨ gs * next ≤ l * 4294967296 + u0) : gs * (next + 4294967296 * top) ≤ u0 + 4294967296 * head := by
  rw [Nat.mul_add, Nat.mul_left_comm, ← hgl, Nat.mul_add]
  have h1 : gs * next ≤ 18446744065119617025 := mul_bound hg hn
  omega

set_option maxHeartbeats 2000000 in
set_option maxRecDepth 1000000 in
theorem guessDigit_any {w : World} {uo vo : Option Addr} {M v : List Nat} (n cu cv : Nat) (hu : Rd w uo M) (hv : Rd w vo v) (hn : v.length = n) (hm : M.length = n + 1) (h2 : 2 ≤ n) (hn1 : n ≤ 1000000) (htop : v.getD (n - 1) 0 ≠ 0) (hlt : val M < 4294967296 * val v) :
    Calls Try.prog 115 #[.slice uo (n + 1) cu, .slice vo n cv] w fun e w' => ∃ d : Nat, e = .returned (.int .u32 (d : Int)) ∧ d < 4294967296 ∧ (d = val M / val v ∨ d = val M / val v + 1) ∧ Below w.heap.size w w' := by
  obtain ⟨b1, o1, rfl, _, hc1⟩ := hu.pos (by intro e; rw [e] at hm; simp at hm)
  obtain ⟨b2, o2, rfl, _, hc2⟩ := hv.pos (by intro e; rw [e] at hn; simp at hn; omega)
  have k0 := hc1 n (by omega)
  have k1 := hc1 (n - 1) (by omega)
  have k2 := hc1 (n - 2) (by omega)
  have k3 := hc2 (n - 1) (by omega)
  have k4 := hc2 (n - 2) (by omega)
  have d0 := hu.dig.getD n
  have d1 := hu.dig.getD (n - 1)
  have d2 := hu.dig.getD (n - 2)
  have d3 := hv.dig.getD (n - 1)
  have d4 := hv.dig.getD (n - 2)
  have e1 := val_top3 M (n - 2) (by omega)
  have e2 := val_top2 v (n - 2) (by omega)
  rw [show n - 2 + 2 = n by omega, show n - 2 + 1 = n - 1 by omega] at e1
  rw [show n - 2 + 1 = n - 1 by omega] at e2
  have l1 := val_take_lt hu.dig (n - 2) (by omega)
  have l2 := val_take_lt hv.dig (n - 2) (by omega)
  obtain ⟨u2, h2u⟩ : ∃ x, M.getD n 0 = x := ⟨_, rfl⟩
  obtain ⟨u1, h1u⟩ : ∃ x, M.getD (n - 1) 0 = x := ⟨_, rfl⟩
  obtain ⟨u0, h0u⟩ : ∃ x, M.getD (n - 2) 0 = x := ⟨_, rfl⟩
  obtain ⟨top, htp⟩ : ∃ x, v.getD (n - 1) 0 = x := ⟨_, rfl⟩
  obtain ⟨next, hnx⟩ : ∃ x, v.getD (n - 2) 0 = x := ⟨_, rfl⟩
  rw [h2u] at k0 d0 e1
  rw [h1u] at k1 d1 e1
  rw [h0u] at k2 d2 e1
  rw [htp] at k3 d3 e2 htop
  rw [hnx] at k4 d4 e2
  clear h2u h1u h0u htp hnx hc1 hc2 hu hv hn hm
  obtain ⟨head, hhd⟩ : ∃ h, u2 * 4294967296 + u1 = h := ⟨_, rfl⟩
  rw [hhd] at e1
  have ht1 : 1 ≤ top := by omega
  obtain ⟨q, hq⟩ : ∃ q, val M / val v = q := ⟨_, rfl⟩
  have HA : Hid _ := guess_a l1 l2 e1 e2
  have HB : Hid _ := guess_b l1 l2 e1 e2 hlt
  have HC : Hid (∀ {g : Nat}, g < 4294967296 → g * (next + 4294967296 * top) ≤ u0 + 4294967296 * head → g ≤ q + 1) := fun hg h => by
    have := guess_c l1 l2 e1 e2 ht1 hg h
    rw [hq] at this
    exact this
  rw [hq] at HA
  rw [hq]
  have hqlt : q < 4294967296 := by
    rw [← hq]
    exact Nat.div_lt_of_lt_mul (by rw [Nat.mul_comm]; exact hlt)
  clear hq e1 e2 l1 l2 hlt
  have hor := or_u64 (u2 * 4294967296) u1 (by omega) (by omega)
  rw [or_two u2 u1 d1, hhd] at hor
  simp only [Int.natCast_mul, Int.cast_ofNat_Int] at hor
  have hhb : head ≤ 18446744073709551615 := by omega
  clear hhd
  have w3 : IntKind.u64.wrap ((u2 : Int) * 4294967296) = (u2 : Int) * 4294967296 := by
    have := wrap_u64 (u2 * 4294967296) (by omega)
    simpa using this
  have t1 : ((n : Int) - 1).toNat = n - 1 := by omega
  have t2 : ((n : Int) - 2).toNat = n - 2 := by omega
  have t3 : ((top : Int) == 0) = false := by simp; omega
  have t4 : (top : Int) ≠ 0 := by omega
  have t5 : (1 : Int) ≤ (top : Int) := by omega
  have wI1 := wrapI ((n : Int) - 1) (by omega) (by omega)
  have wI2 := wrapI ((n : Int) - 2) (by omega) (by omega)
  have q1 : (0 : Int) ≤ (n : Int) - 1 := by omega
  have q2 : (0 : Int) ≤ (n : Int) - 2 := by omega
  have q3 : (n : Int) - 1 < (n : Int) + 1 := by omega
  have q4 : (n : Int) - 2 < (n : Int) + 1 := by omega
  have hw : IntKind.u64.wrap ((head : Int) / (top : Int)) = ((head / top : Nat) : Int) := by
    rw [← Int.natCast_ediv]
    exact wrap_u64 _ (by have := Nat.div_le_self head top; omega)
  have HW : Hid _ := hw
  clear hw
  go_enter Try.func115, Try.ntmps115
  go_wp2
  go_region
  go_wp2
  go_region
  go_wp2
  go_region
  go_wp2
  try simp only [hor]
  go_loopw [9, 10] (fun v9 v10 wr => ∃ (gs l : Nat), v9 = .int .u64 (gs : Int) ∧ v10 = .int .u64 (l : Int) ∧ gs * top + l = head ∧ q ≤ gs ∧ l < 8589934592 ∧ Below w.heap.size w wr) (fun v9 _ _ => (intOf v9).toNat)
  case atStart =>
    refine ⟨head / top, head % top, by first | rfl | (rw [HW.out]) | (rw [Int.natCast_ediv]), by first | rfl | (rw [Int.natCast_emod]), ?_, guess_first ht1 d2 HA.out, ?_, ?_⟩
    · have := Nat.div_add_mod head top
      rw [Nat.mul_comm] at this
      exact this
    · have := Nat.mod_lt head (show 0 < top by omega)
      omega
    · repeat apply Below.drew
      exact Below.refl _ _
  case round =>
    obtain ⟨gs, l, rfl, rfl, hgl, hqg, hl2, hbw⟩ := hrel
    have HGL : Hid _ := hgl
    have hgs : gs ≤ 18446744073709551615 := by
      have : gs * 1 ≤ gs * top := Nat.mul_le_mul_left _ ht1
      omega
    clear hgl
    have k2' : wr.cell? ⟨b1, o1 + (n - 2), none⟩ = some (.int .u32 (u0 : Int)) := by
      rw [hbw.cell (by assumption)]
      exact k2
    by_cases hlB : l < 4294967296
    · have a1 : ((l : Int) / 4294967296 == 0) = true := by simp; omega
      by_cases hgB : gs < 4294967296
      · have a2 : ((gs : Int) / 4294967296 != 0) = false := by simp; omega
        have m1 := mul_boundI hgB d4
        have hor2 := or_u64 (l * 4294967296) u0 (by omega) (by omega)
        rw [or_two l u0 d2] at hor2
        simp only [Int.natCast_add, Int.natCast_mul, Int.cast_ofNat_Int] at hor2
        obtain ⟨pr, hpr⟩ : ∃ pr, gs * next = pr := ⟨_, rfl⟩
        have hprI : (gs : Int) * (next : Int) = (pr : Int) := by rw [← hpr, Int.natCast_mul]
        rw [hprI] at m1
        by_cases hcmp : l * 4294967296 + u0 < pr
        · have hgt : q < gs := guess_more HA.out HGL.out (by rw [hpr]; exact hcmp) hqg
          clear hpr
          go_wp2
          go_roundw
          case rel =>
            refine ⟨gs - 1, l + top, by go_num, by go_num, ?_, by omega, by omega, hbw⟩
            have h1 := HGL.out
            obtain ⟨g', rfl⟩ : ∃ g', gs = g' + 1 := ⟨gs - 1, by omega⟩
            rw [Nat.succ_mul] at h1
            rw [Nat.add_sub_cancel]
            omega
          case measure => simp only [intOf]; omega
        · have hend := guess_end2 (u0 := u0) d4 hgB HGL.out (.inr (by rw [hpr]; omega))
          have hle := HC.out hgB hend
          clear hpr hend
          go_wp2
          go_ret
          exact ⟨gs, rfl, hgB, by omega, hbw⟩
      · have a2 : ((gs : Int) / 4294967296 != 0) = true := by simp; omega
        have hgt : q < gs := by omega
        go_wp2
        go_roundw
        case rel =>
          refine ⟨gs - 1, l + top, by go_num, by go_num, ?_, by omega, by omega, hbw⟩
          have h1 := HGL.out
          obtain ⟨g', rfl⟩ : ∃ g', gs = g' + 1 := ⟨gs - 1, by omega⟩
          rw [Nat.succ_mul] at h1
          rw [Nat.add_sub_cancel]
          omega
        case measure => simp only [intOf]; omega
    · have a1 : ((l : Int) / 4294967296 == 0) = false := by simp; omega
      have hgB := guess_end1 HB.out d4 ht1 HGL.out (by omega)
      have hend := guess_end2 (u0 := u0) d4 hgB HGL.out (.inl (by omega))
      have hle := HC.out hgB hend
      clear hend
      go_wp2
      go_ret
      exact ⟨gs, rfl, hgB, by omega, hbw⟩

theorem digit_math {U V q d U' : Nat} {z : Bool} {B1 : Nat} (hq : q = U / V) (hV : V < B1) (hV0 : 0 < V) (hU' : U' < B1) (hd : d = q ∨ d = q + 1) (h : U' + V * d = U + B1 * z.toNat) :
    (z = false → d = q ∧ U' = U % V) ∧ (z = true → d = q + 1 ∧ ∀ X zz, X < B1 → X + B1 * zz = U' + V → X = U % V) := by
  have e1 := Nat.div_add_mod U V
  have e2 := Nat.mod_lt U hV0
  rw [← hq] at e1
  generalize U % V = r at *
  rcases hd with rfl | rfl
  · cases z
    · simp at h
      exact ⟨fun _ => ⟨rfl, by omega⟩, fun h => by cases h⟩
    · simp at h
      omega
  · rw [Nat.mul_add, Nat.mul_one] at h
    cases z
    · simp at h
      omega
    · simp at h
      refine ⟨fun h => (by cases h), fun _ => ⟨rfl, fun X zz hX hXz => ?_⟩⟩
      have hzz : zz = 1 := by
        rcases Nat.lt_or_ge zz 1 with h0 | h0
        · have : zz = 0 := by omega
          subst this
          omega
        · rcases Nat.lt_or_ge zz 2 with h1 | h1
          · omega
          · have : B1 * 2 ≤ B1 * zz := Nat.mul_le_mul_left _ h1
            omega
      subst hzz
      omega

set_option maxHeartbeats 2000000 in
set_option maxRecDepth 1000000 in
theorem takeDigit_any {B : Nat} {w : World} {g cap j n c0 cv : Nat} {vo : Option Addr} {P M S v : List Nat} (ho : Own B w (some ⟨g, 0, none⟩) cap (P ++ (M ++ S))) (hP : P.length = j) (hM : M.length = n + 1) (hv : Rd w vo v) (hvn : v.length = n) (h2 : 2 ≤ n) (hn : n ≤ 1000000) (hj : j ≤ 1000000)
    (hne : v ≠ [] → ∀ a, vo = some a → a.block ≠ g) (htop : v.getD (n - 1) 0 ≠ 0) (hlt : val M < 4294967296 * val v) :
    Calls Try.prog 112 #[.slice (some ⟨g, j, none⟩) (n + 1) c0, .slice vo n cv] w fun e w' => ∃ M' : List Nat, e = .returned (.int .u32 ((val M / val v : Nat) : Int)) ∧ M'.length = n + 1 ∧ Own B w' (some ⟨g, 0, none⟩) cap (P ++ (M' ++ S)) ∧ w.grownBy w' (some g) ∧ val M' = val M % val v := by
  have HC1 : Hid _ := guessDigit_any n c0 cv (ho.winRd hP) hv hvn hM h2 hn htop hlt
  have HO : Hid _ := ho
  have HR : Hid _ := hv
  have HP : Hid _ := hP
  have HM : Hid _ := hM
  have HVN : Hid _ := hvn
  have HNE : Hid _ := hne
  have hV0 : 0 < val v := by
    apply Classical.byContradiction
    intro h
    have : val v = 0 := by omega
    rw [this] at hlt
    omega
  have HV0 : Hid _ := hV0
  have HVB : Hid (val v < pw (n + 1)) := by
    have h1 := val_lt hv.dig
    rw [hvn] at h1
    exact Nat.lt_of_lt_of_le h1 (pw_le (by omega))
  clear ho hv hP hM hvn hne htop hlt hV0
  go_enter Try.func112, Try.ntmps112
  go_wp2_with fail
  refine Calls.mono HC1.out ?_
  rintro e w1 ⟨d, rfl, hd, hdq, b1⟩
  have gr1 : w.grownBy w1 (some g) := ⟨b1.os, b1.tape, b1.output, b1.size, fun k hk _ => b1.block k hk⟩
  have HC2 : Hid _ := subTimes_any (c0 := c0) (cv := cv) (HO.out.below b1) HP.out HM.out (HR.out.below b1) HVN.out hn hj HNE.out hd
  have HG1 : Hid _ := gr1
  have HR1 : Hid _ := HR.out.below b1
  have HDQ : Hid _ := hdq
  clear b1 gr1 HC1 hdq
  go_wp2_with fail
  refine Calls.mono HC2.out ?_
  rintro e w2 ⟨z, M', rfl, hM', ho', hg', hval⟩
  have HM' : Hid _ := hM'
  have HO' : Hid _ := ho'
  have HG2 : Hid _ := grown_trans HG1.out hg'
  have HR2 : Hid _ := HR1.out.apart' hg' (fun hv a ha => HNE.out hv a ha)
  have HMath : Hid _ := digit_math (U := val M) (V := val v) rfl HVB.out HV0.out (by have := val_lt ho'.winDig; rw [hM'] at this; exact this) HDQ.out hval
  clear hM' ho' hg' hval HC2
  cases z
  · have hf := HMath.out.1 rfl
    have HF : Hid _ := hf
    clear hf
    go_wp2
    go_ret
    refine ⟨M', ?_, HM'.out, HO'.out, HG2.out, HF.out.2⟩
    rw [← HF.out.1]
    rfl
  · have hf := HMath.out.2 rfl
    have HF : Hid _ := hf
    have hd1 : 1 ≤ d := by rw [hf.1]; exact Nat.le_add_left _ _
    clear hf
    have HC3 : Hid _ := addBack_any (c0 := c0) (cv := cv) HO'.out HP.out HM'.out HR2.out HVN.out hn hj HNE.out
    go_wp2_with fail
    refine Calls.mono HC3.out ?_
    rintro e w3 ⟨zz, M2, rfl, hM2, ho2, hg2, hval2⟩
    have HM2 : Hid _ := hM2
    have HO2 : Hid _ := ho2
    have HG3 : Hid _ := grown_trans HG2.out hg2
    have HV2 : Hid _ := HF.out.2 (val M2) zz (by have := val_lt ho2.winDig; rw [hM2] at this; exact this) hval2
    clear hM2 ho2 hg2 hval2
    go_wp2
    go_ret
    refine ⟨M2, ?_, HM2.out, HO2.out, HG3.out, HV2.out⟩
    have h1 := HF.out.1
    have : (d : Int) - 1 = ((val M / val v : Nat) : Int) := by
      rw [h1]
      generalize val M / val v = qq
      omega
    rw [← this]
    rfl
end Go.Proofs.Yteghiinbafbokaa
namespace Go.Proofs.Yteghiinbafbokaa
open Go.RowKit
set_option linter.unusedVariables false
set_option linter.unusedSimpArgs false

theorem own_append {B : Nat} {w1 : World} {v : Value} {acc : List Nat} {d : Nat} (hd : Dig acc) (hd2 : d < 4294967296) (h : w1.ownsRow B 41 1 v (acc.length + 1) (U acc ++ [.int .u32 (d : Int)])) :
    ∃ ro rc, v = .slice ro (acc ++ [d]).length rc ∧ Own B w1 ro rc (acc ++ [d]) := by
  refine own_of_row (n := acc.length + 1) (dig_append.2 ⟨hd, by simp [Dig]; exact hd2⟩) (by simp) ?_
  rw [U_append]
  exact h
theorem cell_one (w : World) (a : Value) (t : TypeId) : ∀ j u, [a][j]? = some u → (w.alloc (.cells #[a] t)).cell? ((⟨w.heap.size, 0, none⟩ : Addr).add j) = some u := by
  intro j u hj
  match j, hj with
  | 0, hj => simp at hj; subst hj; simp [Addr.add]
theorem plus_step (acc a b : List Nat) (i c : Nat) (hi : acc.length = i) (h : val acc + pw i * c = val (a.take i) + val (b.take i)) :
    val (acc ++ [(c + (a.getD i 0 + b.getD i 0)) % 4294967296]) + pw (i + 1) * ((c + (a.getD i 0 + b.getD i 0)) / 4294967296) = val (a.take (i + 1)) + val (b.take (i + 1)) := by
  rw [val_snoc, val_take_succ a, val_take_succ b, pw_succ, hi]
  have := carry_step (pw i) (c + (a.getD i 0 + b.getD i 0))
  rw [Nat.mul_add, Nat.mul_add] at this
  omega

set_option maxHeartbeats 2000000 in
set_option maxRecDepth 1000000 in
theorem plus_any {w : World} {ao bo : Option Addr} {x y : Nat} (ca cb : Nat) (ha : Rd w ao (words x)) (hb : Rd w bo (words y)) (hx : (words x).length ≤ 100000) (hy : (words y).length ≤ 100000) :
    Calls Try.prog 82 #[.slice ao (words x).length ca, .slice bo (words y).length cb] w (Row1 w (words (x + y))) := by
  obtain ⟨i0, hi0, hz0, hz1, hz2⟩ := info_parts infoU
  obtain ⟨n, HX⟩ : ∃ n, Hid ((words x).length = n) := ⟨_, rfl⟩
  obtain ⟨m, HY⟩ : ∃ m, Hid ((words y).length = m) := ⟨_, rfl⟩
  rw [HX.out] at hx ⊢
  rw [HY.out] at hy ⊢
  go_enter Try.func82, Try.ntmps82
  go_wp2
  go_loopw [5, 6, 7] (fun v5 v6 v7 wr => ∃ (i c : Nat) (acc : List Nat) (ro : Option Addr) (rc : Nat), (i ≤ n ∨ i ≤ m) ∧ v7 = .int .i64 (i : Int) ∧ v6 = .int .u64 (c : Int) ∧ c ≤ 1 ∧ v5 = .slice ro i rc ∧ acc.length = i ∧ Own w.heap.size wr ro rc acc ∧ Below w.heap.size w wr ∧ val acc + pw i * c = val ((words x).take i) + val ((words y).take i)) (fun _ _ v7 _ => n + m - (intOf v7).toNat)
  case atStart =>
    refine ⟨0, 0, [], some ⟨w.heap.size, 0, none⟩, 0, .inl (Nat.zero_le _), rfl, rfl, by omega, rfl, rfl, ⟨dig_nil, World.ownsRow_made w #[] 0 (Nat.le_refl _) (by decide) rfl⟩, (Below.refl _ w).alloc (Nat.le_refl _) _, by simp [val]⟩
  case round =>
    obtain ⟨i, c, acc, ro, rc, hi, rfl, rfl, hc, rfl, hacc, hown, hbw, hv⟩ := hrel
    have HV : Hid _ := hv
    have HL : Hid _ := hacc
    have hwsz := hbw.size
    clear hv hacc
    have c1 := rword_any ca i (ha.below hbw)
    have c2 := rword_any cb i (hb.below hbw)
    rw [HX.out] at c1
    rw [HY.out] at c2
    have d1 := (words_dig x).getD i
    have d2 := (words_dig y).getD i
    have HS : Hid _ := plus_step acc (words x) (words y) i c HL.out HV.out
    by_cases hin : i < n ∨ i < m
    · obtain ⟨s, hs⟩ : ∃ s, (words x).getD i 0 = s := ⟨_, rfl⟩
      obtain ⟨t, ht⟩ : ∃ t, (words y).getD i 0 = t := ⟨_, rfl⟩
      rw [hs] at c1 d1 HS
      rw [ht] at c2 d2 HS
      clear hs ht ha hb
      have hrow := hown.row
      rw [HL.out] at hrow
      have HD : Hid _ := hown.dig
      have HB : Hid _ := hbw
      clear hown hbw
      have hcases : (i < n) ∨ (¬ i < n ∧ i < m) := by omega
      rcases hcases with h1 | ⟨h1, h2⟩
      all_goals
        go_wp2_with fail
        refine c1.mono ?_
        rintro e w' ⟨rfl, hw'⟩
        have hw' := hw'.symm
        subst hw'
        go_wp2_with fail
        refine c2.mono ?_
        rintro e w' ⟨rfl, hw'⟩
        have hw' := hw'.symm
        subst hw'
        clear c1 c2
        go_wp2_with (at_builtin; refine wpList_append_own _ rfl _ _ 22 rfl w.heap.size 41 i0 (.int .u32 0) 1 4 Try.underlying22 hi0 hz0 hz1 hz2 rfl (by decide) _ _ _ rfl (hrow.alloc _) ⟨wr.heap.size, 0, none⟩ 1 1 [.int .u32 ((((c + (s + t)) % 4294967296 : Nat)) : Int)] rfl rfl (by exact cell_one wr _ 41) (by intro u hu; simp at hu; subst hu; rfl) (by unfold maxLen; omega) (by omega) (by simp; omega) ?_)
        intro v' w1 hown' hgrow hiff
        have hb2 := grown_below (HB.out.alloc (by omega) _) (hrow.alloc _) hgrow (by simp; omega)
        rw [← HL.out] at hown'
        obtain ⟨ro', rc', e, ho⟩ := own_append HD.out (Nat.mod_lt _ (by omega)) hown'
        subst e
        have HO : Hid _ := ho
        have HB2 : Hid _ := hb2
        clear hown' hgrow hiff ho hb2 hrow
        go_wp2
        go_roundw
        case rel =>
          refine ⟨i + 1, (c + (s + t)) / 4294967296, acc ++ [(c + (s + t)) % 4294967296], ro', rc', by omega, by go_num, rfl, by omega, by rw [List.length_append, HL.out]; rfl, by rw [List.length_append, HL.out]; rfl, HO.out, HB2.out, HS.out⟩
        case measure => simp [intOf]; omega
    · clear c1 c2 d1 d2 HS
      have hrow := hown.row
      rw [HL.out] at hrow
      have HD : Hid _ := hown.dig
      have HB : Hid _ := hbw
      clear hown hbw
      have h1 : ¬ i < n := by omega
      have h2 : ¬ i < m := by omega
      have hval : val (acc ++ [c]) = x + y := by
        have e1 := HV.out
        rw [List.take_of_length_le (by rw [HX.out]; omega), List.take_of_length_le (by rw [HY.out]; omega), val_words, val_words] at e1
        rw [val_snoc, HL.out, e1]
      have HVV : Hid _ := hval
      clear hval ha hb
      go_wp2_with (at_builtin; refine wpList_append_own _ rfl _ _ 22 rfl w.heap.size 41 i0 (.int .u32 0) 1 4 Try.underlying22 hi0 hz0 hz1 hz2 rfl (by decide) _ _ _ rfl (hrow.alloc _) ⟨wr.heap.size, 0, none⟩ 1 1 [.int .u32 (c : Int)] rfl rfl (by exact cell_one wr _ 41) (by intro u hu; simp at hu; subst hu; rfl) (by unfold maxLen; omega) (by omega) (by simp; omega) ?_)
      intro v' w1 hown' hgrow hiff
      have hb2 := grown_below (HB.out.alloc (by omega) _) (hrow.alloc _) hgrow (by simp; omega)
      rw [← HL.out] at hown'
      obtain ⟨ro', rc', e, ho⟩ := own_append HD.out (by omega) hown'
      have hlen : (acc ++ [c]).length = i + 1 := by rw [List.length_append, HL.out]; rfl
      rw [hlen] at e
      subst e
      have c3 := norm_any rc' ho.rd (by rw [hlen]; omega) ho.caps (fun e => by subst e; exact ho.none_cap)
      rw [HVV.out, hlen] at c3
      clear hlen
      have HC : Hid _ := c3
      have HB2 : Hid _ := hb2
      clear hown' hgrow hiff ho hb2 hrow c3
      go_wp2_with fail
      refine Calls.mono HC.out ?_
      rintro e w2 ⟨so, sc, rfl, ho, hb3⟩
      have HO : Hid _ := ho.lower HB2.out.size
      have HB3 : Hid _ := HB2.out.trans (hb3.mono HB2.out.size)
      clear ho hb3
      go_wp2
      go_ret
      exact ⟨_, _, rfl, HO.out, HB3.out⟩
end Go.Proofs.Yteghiinbafbokaa
namespace Go.Proofs
open Go.Shelf
def Try.lays128_ren : Go.Shelf.Ren := ⟨fun | 128 => 89 | n => n, fun | 51 => 41 | 3 => 3 | 4 => 4 | 46 => 67 | 5 => 5 | 9 => 9 | n => n, fun | n => n⟩
theorem Try.lays128 : Go.Proofs.Lays.n128 Try.prog Try.lays128_ren := {
  mixed := by kernel_rfl
  f128 := Try.func89.trans (congrArg some (by kernel_rfl))
  t3 := Try.underlying3
  a3 := Try.isAgg3
  z3 := Try.sizeOf3
  v3 := Try.zeroValue3
  t4 := Try.underlying4
  a4 := Try.isAgg4
  z4 := Try.sizeOf4
  v4 := Try.zeroValue4
  t5 := Try.underlying5
  a5 := Try.isAgg5
  z5 := Try.sizeOf5
  v5 := Try.zeroValue5
  t9 := Try.underlying9
  a9 := Try.isAgg9
  z9 := Try.sizeOf9
  v9 := Try.zeroValue9
  t46 := Try.underlying67
  a46 := Try.isAgg67
  z46 := Try.sizeOf67
  v46 := Try.zeroValue67
  t51 := Try.underlying41
  a51 := Try.isAgg41
  z51 := Try.sizeOf41
  v51 := Try.zeroValue41 }
theorem Try.bits_Len32 (x : Int) (w : World) (h0 : 0 ≤ x) (h1 : x ≤ 4294967295) :
    Calls Try.prog 89 #[.int .u32 x] w fun e w' => e = .returned (.int .i64 (Lib.bitLen x.toNat)) ∧ w' = w := Any.bits_Len32 Try.lays128 x w h0 h1
end Go.Proofs
namespace Go.Proofs.Yteghiinbafbokaa
set_option linter.unusedVariables false
set_option linter.unusedSimpArgs false

def bl (x : Nat) : Nat := if x = 0 then 0 else x.log2 + 1
theorem bl_zero : bl 0 = 0 := rfl
theorem bl_le {x n : Nat} : bl x ≤ n ↔ x < 2 ^ n := by
  unfold bl
  by_cases h : x = 0
  · subst h
    simp [Nat.pow_pos]
  · rw [if_neg h]
    have := Nat.log2_lt (k := n) h
    omega
theorem lt_bl (x : Nat) : x < 2 ^ bl x := bl_le.1 (Nat.le_refl _)
theorem bl_ge {x : Nat} (h : x ≠ 0) : 2 ^ (bl x - 1) ≤ x := by
  apply Classical.byContradiction
  intro h1
  have h2 := bl_le.2 (Nat.lt_of_not_le h1)
  have h3 : bl x ≠ 0 := by unfold bl; rw [if_neg h]; omega
  omega
theorem bl_eq {x n : Nat} (h1 : 2 ^ n ≤ x) (h2 : x < 2 ^ (n + 1)) : bl x = n + 1 := by
  have a := bl_le.2 h2
  have b : ¬ bl x ≤ n := fun h => by have := bl_le.1 h; omega
  omega
theorem bl_mono {x y : Nat} (h : x ≤ y) : bl x ≤ bl y := bl_le.2 (Nat.lt_of_le_of_lt h (lt_bl y))
theorem bl_pos {x : Nat} (h : x ≠ 0) : bl x ≠ 0 := by unfold bl; rw [if_neg h]; omega
theorem bl_shift {x k : Nat} (h : x / 2 ^ k ≠ 0) : bl x = k + bl (x / 2 ^ k) := by
  have p : 0 < 2 ^ k := Nat.pow_pos (by omega)
  have h1 := lt_bl (x / 2 ^ k)
  have h2 := bl_ge h
  have h3 := bl_pos h
  have e : k + bl (x / 2 ^ k) = (k + bl (x / 2 ^ k) - 1) + 1 := by omega
  rw [e]
  apply bl_eq
  · have e2 : k + bl (x / 2 ^ k) - 1 = (bl (x / 2 ^ k) - 1) + k := by omega
    rw [e2, Nat.pow_add]
    exact (Nat.le_div_iff_mul_le p).1 h2
  · rw [← e, Nat.add_comm, Nat.pow_add]
    exact (Nat.div_lt_iff_lt_mul p).1 h1
theorem bl_half {x : Nat} (h : x ≠ 0) : bl x = 1 + bl (x / 2) := by
  by_cases h1 : x / 2 = 0
  · have : x = 1 := by omega
    subst this
    decide
  · have := bl_shift (x := x) (k := 1) (by simpa using h1)
    simpa using this
theorem bitLen_bl (x : Nat) (h : x < 18446744073709551616) : Lib.bitLen x = bl x := by
  induction x using Nat.strongRecOn with
  | _ x ih =>
    by_cases h0 : x = 0
    · subst h0; rfl
    · rw [Lib.bitLen_half x h0 h, bl_half h0, ih (x / 2) (by omega) (by omega)]
theorem bit_low {x a b : Nat} (hb : b < 32) : (x / 2 ^ a % 4294967296) / 2 ^ b % 2 = x / 2 ^ (a + b) % 2 := by
  have e : x / 2 ^ (a + b) = x / 2 ^ a / 2 ^ b := by rw [Nat.pow_add, Nat.div_div_eq_div_mul]
  rw [e]
  generalize x / 2 ^ a = y
  have h1 : (y % 2 ^ 32).testBit b = y.testBit b := by rw [Nat.testBit_mod_two_pow]; simp [hb]
  simp only [Nat.testBit_eq_decide_div_mod_eq] at h1
  have h2 : y % 4294967296 = y % 2 ^ 32 := rfl
  rw [h2]
  have h3 := decide_eq_decide.1 h1
  generalize y % 2 ^ 32 / 2 ^ b = p at *
  generalize y / 2 ^ b = q at *
  omega
theorem bit_word (x k : Nat) : x / pw (k / 32) % 4294967296 / 2 ^ (k % 32) % 2 = x / 2 ^ k % 2 := by
  rw [pw_two, bit_low (Nat.mod_lt _ (by omega)), show 32 * (k / 32) + k % 32 = k by omega]
/-- One bit less. -/
theorem bit_down {x j : Nat} (h : x < 2 ^ (j + 1)) : (x / 2 ^ j % 2 = 0 → x < 2 ^ j) ∧ (x / 2 ^ j % 2 ≠ 0 → bl x = j + 1) := by
  have p : 0 < 2 ^ j := Nat.pow_pos (by omega)
  have h1 : x / 2 ^ j < 2 := by
    rw [Nat.div_lt_iff_lt_mul p, ← Nat.pow_succ']
    exact h
  have h2 : x / 2 ^ j = 0 → x < 2 ^ j := (Nat.div_eq_zero_iff_lt p).1
  have h3 : 1 ≤ x / 2 ^ j → 1 * 2 ^ j ≤ x := (Nat.le_div_iff_mul_le p).1
  have h4 : 2 ^ j ≤ x → bl x = j + 1 := fun h5 => bl_eq h5 h
  generalize x / 2 ^ j = z at *
  rw [Nat.one_mul] at h3
  exact ⟨fun h0 => h2 (by omega), fun h0 => h4 (h3 (by omega))⟩
/-- The top word's bits and 32 for each word below. -/
theorem bl_words {x : Nat} (h : x ≠ 0) : bl x = ((words x).length - 1) * 32 + bl ((words x).getD ((words x).length - 1) 0) := by
  have h1 := words_lt x
  have h2 := words_ge h
  have hl : (words x).length ≠ 0 := fun e => h (words_eq_nil.1 (List.length_eq_zero_iff.1 e))
  obtain ⟨m, hm⟩ : ∃ m, (words x).length = m + 1 := ⟨_, (Nat.succ_pred_eq_of_pos (by omega)).symm⟩
  rw [hm] at h1 h2 ⊢
  simp only [Nat.add_sub_cancel] at h2 ⊢
  have hp := pw_pos m
  have e1 : x / pw m < 4294967296 := by
    rw [Nat.div_lt_iff_lt_mul hp, ← pw_succ]
    exact h1
  rw [words_getD, Nat.mod_eq_of_lt e1]
  have e2 : x / pw m ≠ 0 := by
    have : 1 ≤ x / pw m := (Nat.le_div_iff_mul_le hp).2 (by omega)
    omega
  rw [pw_two] at e2 ⊢
  rw [bl_shift e2]
  omega
end Go.Proofs.Yteghiinbafbokaa
namespace Go.Proofs.Yteghiinbafbokaa
open Go.RowKit
set_option linter.unusedVariables false
set_option linter.unusedSimpArgs false

theorem len32_any (x : Nat) (w : World) (h : x < 4294967296) : Calls Try.prog 89 #[.int .u32 (x : Int)] w fun e w' => e = .returned (.int .i64 ((bl x : Nat) : Int)) ∧ w' = w := by
  refine (Try.bits_Len32 (x : Int) w (by omega) (by omega)).mono ?_
  rintro e w' ⟨rfl, rfl⟩
  rw [Int.toNat_natCast, bitLen_bl x (by omega)]
  exact ⟨rfl, rfl⟩

set_option maxHeartbeats 1000000 in
set_option maxRecDepth 1000000 in
theorem bit_any {w : World} {ao : Option Addr} {x : Nat} (cap k : Nat) (h : Rd w ao (words x)) (hk : k ≤ 10000000) :
    Calls Try.prog 44 #[.slice ao (words x).length cap, .int .i64 (k : Int)] w fun e w' => e = .returned (.int .u32 ((x / 2 ^ k % 2 : Nat) : Int)) ∧ w' = w := by
  have c1 := rword_any cap (k / 32) h
  have hd := (words_dig x).getD (k / 32)
  have HE : Hid _ := bit_word x k
  rw [words_getD] at c1 hd
  generalize x / pw (k / 32) % 4294967296 = d at *
  have e1 : bits BinOp.and IntKind.u32 ((d : Int) / 2 ^ (k % 32) % 4294967296) 1 = ((x / 2 ^ k % 2 : Nat) : Int) := by
    have e2 : (d : Int) / 2 ^ (k % 32) % 4294967296 = ((d / 2 ^ (k % 32) % 4294967296 : Nat) : Int) := by
      rw [Int.natCast_emod, Int.natCast_ediv, Int.natCast_pow]; rfl
    rw [e2, show (1 : Int) = ((1 : Nat) : Int) from rfl, and_u32 _ _ (Nat.mod_lt _ (by omega)) (by omega), and_one, ← HE.out]
    congr 1
    generalize d / 2 ^ (k % 32) = z
    omega
  have HE1 : Hid _ := e1
  clear e1 h
  go_enter Try.func44, Try.ntmps44
  go_wp2_with fail
  refine c1.mono ?_
  rintro e w' ⟨rfl, rfl⟩
  go_wp2
  go_ret
  exact ⟨retI HE1.out, rfl⟩

set_option maxHeartbeats 1000000 in
set_option maxRecDepth 1000000 in
theorem size_any {w : World} {ao : Option Addr} {x : Nat} (cap : Nat) (h : Rd w ao (words x)) (hl : (words x).length ≤ 100000) :
    Calls Try.prog 46 #[.slice ao (words x).length cap] w fun e w' => e = .returned (.int .i64 ((bl x : Nat) : Int)) ∧ w' = w := by
  have HW : Hid (x < 2 ^ (32 * (words x).length)) := by have := words_lt x; rw [pw_two] at this; exact this
  have c0 := fun (j : Nat) (hj : j ≤ 10000000) => bit_any cap j h hj
  obtain ⟨n, HN⟩ : ∃ n, Hid ((words x).length = n) := ⟨_, rfl⟩
  rw [HN.out] at hl c0 HW ⊢
  have HC : Hid _ := c0
  clear c0 h
  go_enter Try.func46, Try.ntmps46
  go_wp2
  go_loopw [3] (fun v wr => wr = w ∧ ∃ k : Nat, k ≤ 32 * n ∧ v = .int .i64 (k : Int) ∧ x < 2 ^ k) (fun v _ => (intOf v).toNat)
  case atStart => exact ⟨rfl, 32 * n, Nat.le_refl _, by go_num, HW.out⟩
  case round =>
    obtain ⟨rfl, k, hk, rfl, hv⟩ := hrel
    have HV : Hid _ := hv
    clear hv
    by_cases h0 : k = 0
    · subst h0
      have hb : bl x = 0 := by
        have := HV.out
        rw [Nat.pow_zero] at this
        have e : x = 0 := by omega
        rw [e]
        rfl
      have HB : Hid _ := hb
      clear hb
      go_wp2
      go_ret
      exact ⟨retI (by rw [HB.out]), rfl⟩
    · obtain ⟨j, rfl⟩ : ∃ j, k = j + 1 := ⟨k - 1, by omega⟩
      have c1 := HC.out j (by omega)
      have HD : Hid _ := bit_down HV.out
      have hlt : x / 2 ^ j % 2 < 2 := Nat.mod_lt _ (by omega)
      obtain ⟨d, hd⟩ : ∃ d, x / 2 ^ j % 2 = d := ⟨_, rfl⟩
      rw [hd] at c1 HD hlt
      clear hd
      have e1 : (((j + 1 : Nat) : Int) - 1) = (j : Int) := by omega
      have h1 : (0 : Int) < ((j + 1 : Nat) : Int) := by omega
      by_cases hd0 : d = 0
      · subst hd0
        go_wp2_with fail
        try simp only [e1]
        refine c1.mono ?_
        rintro e w' ⟨rfl, rfl⟩
        go_wp2
        go_roundw
        case rel => exact ⟨trivial, j, by omega, by go_num, HD.out.1 (by trivial)⟩
        case measure => simp only [intOf]; omega
      · have e3 : ((d : Int) == 0) = false := by simp; omega
        have e4 : bl x = j + 1 := HD.out.2 hd0
        have HE4 : Hid _ := e4
        clear e4
        go_wp2_with fail
        try simp only [e1]
        refine c1.mono ?_
        rintro e w' ⟨rfl, rfl⟩
        go_wp2
        go_ret
        exact ⟨retI (by rw [HE4.out]; rfl), rfl⟩

def bitsS (a : List Nat) : Nat := if sound a then bl (val a) else 0

set_option maxHeartbeats 1000000 in
set_option maxRecDepth 1000000 in
theorem wbits_any {w : World} {ao : Option Addr} {x : Nat} (cap : Nat) (h : Rd w ao (words x)) (hl : (words x).length ≤ 1000000) :
    Calls Try.prog 68 #[.slice ao (words x).length cap] w fun e w' => e = .returned (.int .i64 ((bl x : Nat) : Int)) ∧ w' = w := by
  by_cases h0 : (words x).length = 0
  · have hx : x = 0 := words_eq_nil.1 (List.length_eq_zero_iff.1 h0)
    subst hx
    have hb : bl 0 = 0 := rfl
    rw [hb]
    rw [h0]
    clear h hl h0 hb
    go_enter Try.func68, Try.ntmps68
    go_wp2
    go_ret
    exact ⟨rfl, rfl⟩
  · obtain ⟨b, off, rfl, hc⟩ := last_cell h h0
    have hbl := bl_words (x := x) (fun e => h0 (by rw [e, words_zero]; rfl))
    have hx := (words_dig x).getD ((words x).length - 1)
    generalize (words x).getD ((words x).length - 1) 0 = d at *
    have c2 := len32_any d w hx
    rw [hbl]
    have hbd : bl d ≤ 32 := bl_le.2 hx
    generalize bl d = q at *
    generalize (words x).length = n at *
    have h1 : ((n : Int) == 0) = false := by simp; omega
    clear hbl h
    go_enter Try.func68, Try.ntmps68
    go_wp2_with fail
    refine c2.mono ?_
    rintro e w' ⟨rfl, rfl⟩
    go_wp2
    go_ret
    exact ⟨retI (by omega), rfl⟩

set_option maxHeartbeats 1000000 in
set_option maxRecDepth 1000000 in
theorem bits_any {w : World} {ao : Option Addr} {a : List Nat} (cap : Nat) (h : Rd w ao a) (hl : a.length ≤ 9223372036854775807) :
    Calls Try.prog 45 #[.slice ao a.length cap] w fun e w' => e = .returned (.int .i64 ((bitsS a : Nat) : Int)) ∧ w' = w := by
  have c1 := sound_any cap h hl
  unfold bitsS
  by_cases hs : sound a = true
  · rw [hs] at c1 ⊢
    obtain ⟨ea, na⟩ := sound_words h.dig hs
    generalize val a = x at *
    subst ea
    have c2 := wbits_any cap h (by omega)
    simp only [if_true]
    generalize bl x = q at *
    generalize (words x).length = n at *
    clear h hs
    go_enter Try.func45, Try.ntmps45
    go_wp2_with fail
    refine c1.mono ?_
    rintro e w' ⟨rfl, rfl⟩
    go_wp2_with fail
    refine c2.mono ?_
    rintro e w' ⟨rfl, rfl⟩
    go_wp2
    go_ret
    exact ⟨rfl, rfl⟩
  · simp only [Bool.not_eq_true] at hs
    rw [hs] at c1 ⊢
    generalize a.length = n at *
    clear h
    go_enter Try.func45, Try.ntmps45
    go_wp2_with fail
    refine c1.mono ?_
    rintro e w' ⟨rfl, rfl⟩
    go_wp2
    go_ret
    exact ⟨rfl, rfl⟩

theorem Own.lit2 (w : World) (x y : Nat) (hx : x < 4294967296) (hy : y < 4294967296) : Own w.heap.size (w.alloc (.cells #[.int .u32 (x : Int), .int .u32 (y : Int)] 41)) (some ⟨w.heap.size, 0, none⟩) 2 [x, y] :=
  ⟨by simp [Dig]; omega, World.ownsRow_lit (e := 41) (size := 1) w #[.int .u32 (x : Int), .int .u32 (y : Int)] 2 (Nat.le_refl _) (by unfold maxLen; omega) rfl⟩

set_option maxHeartbeats 1000000 in
set_option maxRecDepth 1000000 in
theorem wof_any (n : Nat) (w : World) (hn : n < 18446744073709551616) :
    Calls Try.prog 85 #[.int .u64 (n : Int)] w (Row1 w (words n)) := by
  have ho := Own.lit2 w (n % 4294967296) (n / 4294967296) (Nat.mod_lt _ (by omega)) (by omega)
  have hv : val [n % 4294967296, n / 4294967296] = n := by simp [val]; omega
  have c1 := trim_any ho (by simp)
  rw [hv] at c1
  have HB : Hid (Below w.heap.size w (w.alloc (.cells #[.int .u32 ((n % 4294967296 : Nat) : Int), .int .u32 ((n / 4294967296 : Nat) : Int)] 41))) := (Below.refl _ _).alloc (Nat.le_refl _) _
  have HC : Hid _ := c1
  clear ho hv c1
  go_enter Try.func85, Try.ntmps85
  go_wp2_with fail
  refine Calls.mono HC.out ?_
  rintro e w' ⟨rfl, ho, rfl⟩
  have HO : Hid _ := ho
  clear ho
  go_wp2
  go_ret
  exact ⟨_, _, rfl, HO.out, HB.out⟩

set_option maxHeartbeats 1000000 in
set_option maxRecDepth 1000000 in
theorem of_any (n : Nat) (w : World) (hn : n < 18446744073709551616) :
    Calls Try.prog 59 #[.int .u64 (n : Int)] w (Row1 w (words n)) := by
  have HC : Hid _ := wof_any n w hn
  go_enter Try.func59, Try.ntmps59
  go_wp2_with fail
  refine Calls.mono HC.out ?_
  rintro e w' ⟨ro, rc, rfl, ho, hb⟩
  have HO : Hid _ := ho
  have HB : Hid _ := hb
  clear ho hb
  go_wp2
  go_ret
  exact ⟨_, _, rfl, HO.out, HB.out⟩

end Go.Proofs.Yteghiinbafbokaa
namespace Go.Proofs.Yteghiinbafbokaa
open Go.RowKit
set_option linter.unusedVariables false
set_option linter.unusedSimpArgs false

theorem Rd.lt {w : World} {ao : Option Addr} {l : List Nat} (h : Rd w ao l) (hne : l ≠ []) : ∀ a, ao = some a → a.block < w.heap.size := by
  intro a e
  obtain ⟨b, off, h1, h2, _⟩ := h.pos hne
  rw [h1] at e
  cases e
  exact h2
theorem Rd.apart {w w' : World} {ao : Option Addr} {l : List Nat} {g : Option Nat} (h : Rd w ao l) (hg : w.grownBy w' g) (hne : l ≠ [] → ∀ a, ao = some a → some a.block ≠ g) : Rd w' ao l := by
  by_cases hl : l = []
  · subst hl
    exact Rd.nil _ _
  · exact h.grown hg (hne hl)
theorem Rd.cells {w : World} {b off : Nat} {spot : Option Nat} {l : List Nat} (h : Rd w (some ⟨b, off, none⟩) l) : ∀ (j : Nat) (u : Value), (U l)[j]? = some u → w.cell? ((⟨b, off, none⟩ : Addr).add j) = some u := by
  intro j u hj
  have hjl : j < l.length := by
    apply Classical.byContradiction
    intro hh
    rw [List.getElem?_eq_none (by rw [U_length]; omega)] at hj
    cases hj
  obtain ⟨b', off', e, _, hc⟩ := h.pos (by intro e; subst e; simp at hjl)
  cases e
  rw [Addr.add_lit, hc j hjl, ← hj, U_get l j hjl]

theorem append_copy {w : World} {ops : Array Oper} {rest : List Oper} {o : Oper} {act : Act} {Q : Exit → Act → World → Prop} (hgd : o.guard = none) (s x : Operand)
    (ho : o.op = .call { callee := .builtin .append, args := #[s, x], argTypes := #[22, 22] })
    (base : Nat) (v : Value) (hs : act.eval s = v) (hown : w.ownsRow base 41 1 v 0 []) (hbase : base ≤ w.heap.size)
    (ao : Option Addr) (n cap : Nat) (l : List Nat) (hx : act.eval x = .slice ao n cap) (hrd : Rd w ao l) (hn : l.length = n) (hcap : ao = none → cap = 0) (hlen : n * 4 ≤ 140737488351232)
    (h : ∀ ro rc w', Own base w' ro rc l → w.grownBy w' v.ownBlock → wpList Try.prog ops Q rest (act.put o.dst (.slice ro n rc)) w') : wpList Try.prog ops Q (o :: rest) act w := by
  obtain ⟨i0, hi, hz0, hz1, hz2⟩ := info_parts infoU
  cases ao with
  | none =>
    have hl : l = [] := by
      apply Classical.byContradiction
      intro hne
      obtain ⟨b, off, e, _⟩ := hrd.pos hne
      cases e
    subst hl
    have hn0 : n = 0 := hn.symm
    subst hn0
    have hc0 := hcap rfl
    subst hc0
    obtain ⟨ro, rc, e, how⟩ := own_of_row (l := []) dig_nil rfl hown
    refine wpList_append_own_none hgd s x 22 ho base 41 i0 1 Try.underlying22 hi v 0 [] hs hown hx ?_
    rw [e]
    exact h ro rc w how (World.grownBy.refl _ _)
  | some ad =>
    have hnews : ∀ (j : Nat) (u : Value), (U l)[j]? = some u → w.cell? (ad.add j) = some u := by
      intro j u hj
      by_cases hne : l = []
      · subst hne
        simp [U] at hj
      · obtain ⟨b, off, e, _⟩ := hrd.pos hne
        cases e
        exact Rd.cells (spot := none) hrd j u hj
    refine wpList_append_own w hgd s x 22 ho base 41 i0 (.int .u32 0) 1 4 Try.underlying22 hi hz0 hz1 hz2 rfl (by decide) v 0 [] hs hown ad n cap (U l) hx (by rw [U_length, hn]; omega) hnews (U_one _) (by unfold maxLen; omega) (by omega) hbase ?_
    intro v' w' h1 h2 _
    rw [List.nil_append] at h1
    obtain ⟨ro, rc, e, how⟩ := own_of_row hrd.dig (by omega) h1
    rw [e, hn]
    exact h ro rc w' how h2

end Go.Proofs.Yteghiinbafbokaa
namespace Go.Proofs.Yteghiinbafbokaa
open Go.RowKit
set_option linter.unusedVariables false
set_option linter.unusedSimpArgs false

set_option maxHeartbeats 1000000 in
set_option maxRecDepth 1000000 in
theorem div32_any (h l y : Nat) (w : World) (hh : h < y) (hl : l < 4294967296) (hy : y < 4294967296) :
    Calls Try.prog 114 #[.int .u32 (h : Int), .int .u32 (l : Int), .int .u32 (y : Int)] w fun e w' => e = .returned (.tuple #[.int .u32 (((h * 4294967296 + l) / y : Nat) : Int), .int .u32 (((h * 4294967296 + l) % y : Nat) : Int)]) ∧ Below w.heap.size w w' := by
  have hor := or_u64 (h * 4294967296) l (by omega) (by omega)
  rw [or_two h l hl] at hor
  obtain ⟨N, hN⟩ : ∃ N, h * 4294967296 + l = N := ⟨_, rfl⟩
  rw [hN] at hor ⊢
  simp only [Int.natCast_mul, Int.cast_ofNat_Int] at hor
  have hNb : N < 4294967296 * y := by omega
  have hNm : N ≤ 18446744073709551615 := by omega
  have hq : N / y < 4294967296 := Nat.div_lt_of_lt_mul (by rw [Nat.mul_comm]; exact hNb)
  have hr : N % y < 4294967296 := by have := Nat.mod_lt N (show 0 < y by omega); omega
  have w1 : IntKind.u64.wrap ((h : Int) * 4294967296) = (h : Int) * 4294967296 := by
    have := wrap_u64 (h * 4294967296) (by omega)
    simpa using this
  have w2 : IntKind.u64.wrap ((N : Int) / (y : Int)) = ((N / y : Nat) : Int) := by
    rw [← Int.natCast_ediv]
    exact wrap_u64 _ (by omega)
  have w3 : IntKind.u32.wrap ((N / y : Nat) : Int) = ((N / y : Nat) : Int) := wrap_u32 _ hq
  have w4 : IntKind.u32.wrap ((N : Int) % (y : Int)) = ((N % y : Nat) : Int) := by
    rw [← Int.natCast_emod]
    exact wrap_u32 _ hr
  have t1 : ((y : Int) == 0) = false := by simp; omega
  have t2 : (y : Int) ≠ 0 := by omega
  have t3 : (1 : Int) ≤ (y : Int) := by omega
  have t4 : ¬ ((y : Int) ≤ (h : Int)) := by omega
  have eq1 : (N : Int) / (y : Int) = ((N / y : Nat) : Int) := by rw [Int.natCast_ediv]
  have eq2 : (N : Int) % (y : Int) = ((N % y : Nat) : Int) := by rw [Int.natCast_emod]
  have HR : Hid _ := eq2
  have HQ : Hid (IntKind.u64.wrap ((N : Int) / (y : Int)) % 4294967296 = ((N / y : Nat) : Int)) := by
    show IntKind.u64.wrap ((N : Int) / (y : Int)) % 4294967296 = ((N / y : Nat) : Int)
    rw [w2]
    generalize N / y = z at *
    omega
  clear hN eq1 eq2 w2 w3 w4
  go_enter Try.func114, Try.ntmps114
  go_wp2
  try simp only [hor]
  go_region
  all_goals go_wp2
  all_goals go_ret2
  all_goals (refine ⟨?_, by (repeat apply Below.drew); exact Below.refl _ _⟩; rw [← HQ.out, ← HR.out]; rfl)

theorem val_drop_at (l : List Nat) (p : Nat) (hp : p < l.length) : val (l.drop p) = l.getD p 0 + 4294967296 * val (l.drop (p + 1)) := by
  rw [List.drop_eq_getElem_cons hp, val_cons]
  simp [hp]
theorem set_drop_at (l : List Nat) (p d : Nat) (hp : p < l.length) : val ((l.set p d).drop p) = d + 4294967296 * val (l.drop (p + 1)) := by
  rw [val_drop_at _ _ (by rw [List.length_set]; exact hp), getD_set_eq _ _ _ hp, List.drop_set_of_lt (by omega)]
theorem byWord_step {V V' k left t : Nat} (h : V' * k + left = V) : ((left * 4294967296 + t) / k + 4294967296 * V') * k + (left * 4294967296 + t) % k = t + 4294967296 * V := by
  have e := Nat.div_add_mod (left * 4294967296 + t) k
  rw [Nat.mul_comm k] at e
  rw [Nat.add_mul, Nat.mul_assoc, ← h, Nat.mul_add]
  omega

set_option maxHeartbeats 1000000 in
set_option maxRecDepth 1000000 in
theorem divideByWord_any {w : World} {ao : Option Addr} {x k : Nat} (ca : Nat) (ha : Rd w ao (words x)) (hn0 : (words x).length ≤ 1000000) (hk0 : 0 < k) (hk : k < 4294967296) :
    Calls Try.prog 110 #[.slice ao (words x).length ca, .int .u32 (k : Int)] w fun e w' => ∃ ro rc, e = .returned (.tuple #[.slice ro (words (x / k)).length rc, .int .u32 ((x % k : Nat) : Int)]) ∧ Own w.heap.size w' ro rc (words (x / k)) ∧ Below w.heap.size w w' := by
  obtain ⟨n, HL0⟩ : ∃ n, Hid ((words x).length = n) := ⟨_, rfl⟩
  rw [HL0.out] at hn0 ⊢
  have hmk := run_make_row' (P := Try.prog) 22 41 (.int .u32 0) 4 Try.underlying22 infoU rfl .i64 .i64 n (by omega) (by omega)
  have HA : Hid _ := ha
  clear ha
  go_enter Try.func110, Try.ntmps110
  go_wp2
  go_loopw [5, 13] (fun v5 v10 wr => ∃ (i left : Nat) (L' : List Nat), i ≤ n ∧ v10 = .int .i64 (i : Int) ∧ v5 = .int .u32 (left : Int) ∧ left < k ∧ L'.length = n ∧ Own w.heap.size wr (some ⟨w.heap.size, 0, none⟩) n L' ∧ Below w.heap.size w wr ∧ val (L'.drop (n - i)) * k + left = val ((words x).drop (n - i))) (fun _ v10 _ => n - (intOf v10).toNat)
  case atStart =>
    refine ⟨0, 0, List.replicate n 0, Nat.zero_le _, rfl, rfl, hk0, by simp, Own.made w n (by omega), (Below.refl _ w).alloc (Nat.le_refl _) _, ?_⟩
    rw [List.drop_of_length_le (by simp), List.drop_of_length_le (by rw [HL0.out]; omega)]
    simp [val]
  case round =>
    obtain ⟨i, left, L', hi, rfl, rfl, hleft, hL', hown, hbw, hval⟩ := hrel
    have HV : Hid _ := hval
    have HL : Hid _ := hL'
    clear hval hL'
    by_cases hin : i < n
    · have e0 : n - i = (n - 1 - i) + 1 := by omega
      have ha' := HA.out.below hbw
      obtain ⟨b1, o1, hao, hb1, hc1⟩ := ha'.pos (by intro e; have := HL0.out; rw [e] at this; simp at this; omega)
      have k1 := hc1 (n - 1 - i) (by rw [HL0.out]; omega)
      have d1 := (words_dig x).getD (n - 1 - i)
      have hst : ∀ t, (words x).getD (n - 1 - i) 0 = t → val ((L'.set (n - 1 - i) ((left * 4294967296 + t) / k)).drop (n - 1 - i)) * k + (left * 4294967296 + t) % k = val ((words x).drop (n - 1 - i)) := by
        intro t ht
        rw [set_drop_at _ _ _ (by rw [HL.out]; omega), val_drop_at (words x) _ (by rw [HL0.out]; omega), ht]
        apply byWord_step
        rw [← e0]
        exact HV.out
      obtain ⟨t, ht⟩ : ∃ t, (words x).getD (n - 1 - i) 0 = t := ⟨_, rfl⟩
      have HS : Hid _ := hst t ht
      rw [ht] at k1 d1
      clear hst ht hc1 ha'
      have HC : Hid _ := div32_any left t k wr hleft d1 hk
      have hqb : (left * 4294967296 + t) / k < 4294967296 := Nat.div_lt_of_lt_mul (by
        have : (left + 1) * 4294967296 ≤ k * 4294967296 := Nat.mul_le_mul_right _ hleft
        omega)
      have hmb : (left * 4294967296 + t) % k < k := Nat.mod_lt _ hk0
      obtain ⟨qd, hqd⟩ : ∃ q, (left * 4294967296 + t) / k = q := ⟨_, rfl⟩
      obtain ⟨rd, hrd⟩ : ∃ q, (left * 4294967296 + t) % k = q := ⟨_, rfl⟩
      rw [hqd, hrd] at HC HS
      rw [hqd] at hqb
      rw [hrd] at hmb
      clear hqd hrd
      have t1 : ((n : Int) - 1 - i).toNat = n - 1 - i := by omega
      have HO : Hid _ := hown
      have HB : Hid _ := hbw
      subst hao
      clear hown hbw
      go_wp2_with fail
      refine Calls.mono HC.out ?_
      rintro e w1 ⟨rfl, b1⟩
      have hown1 := HO.out.below b1
      have k3 := hown1.cell (n - 1 - i) (by rw [HL.out]; omega)
      have k4 := hown1.frozen (n - 1 - i)
      have HSet : Hid _ := hown1.set (n - 1 - i) qd hqb
      have HB1 : Hid _ := (HB.out.trans (b1.mono HB.out.size)).setCell (p := ⟨w.heap.size, n - 1 - i, none⟩) (Nat.le_refl _) (.int .u32 (qd : Int))
      clear b1 hown1 HC k1
      go_wp2
      go_roundw
      case rel =>
        refine ⟨i + 1, rd, L'.set (n - 1 - i) qd, by omega, by go_num, rfl, hmb, by rw [List.length_set]; exact HL.out, HSet.out, HB1.out, ?_⟩
        rw [show n - (i + 1) = n - 1 - i by omega]
        exact HS.out
      case measure => simp only [intOf]; omega
    · have e : i = n := by omega
      subst e
      have hval : val L' = x / k ∧ left = x % k := by
        have h1 := HV.out
        rw [Nat.sub_self, List.drop_zero, List.drop_zero, val_words] at h1
        have h2 := Nat.div_mod_unique (a := x) (b := k) (c := left) (d := val L') hk0
        have h3 := h2.2 ⟨by rw [Nat.mul_comm]; omega, hleft⟩
        exact ⟨h3.1.symm, h3.2.symm⟩
      have c1 := trim_any hown (by rw [HL.out]; omega)
      rw [hval.1, HL.out] at c1
      have HC : Hid _ := c1
      have HB : Hid _ := hbw
      have HE : Hid _ := hval.2
      clear hval c1 hown hbw
      go_wp2_with fail
      refine Calls.mono HC.out ?_
      rintro e w' ⟨rfl, ho, rfl⟩
      have HO : Hid _ := ho
      clear ho
      go_wp2
      go_ret2
      rw [← HE.out]
      exact ⟨_, _, rfl, HO.out, HB.out⟩

set_option maxHeartbeats 1000000 in
set_option maxRecDepth 1000000 in
theorem clone_any {w : World} {ao : Option Addr} {l : List Nat} (ca : Nat) (ha : Rd w ao l) (hl : l.length ≤ 1000000) (hnil : ao = none → ca = 0) :
    Calls Try.prog 104 #[.slice ao l.length ca] w (Row1 w l) := by
  obtain ⟨n, HN⟩ : ∃ n, Hid (l.length = n) := ⟨_, rfl⟩
  cases ao with
  | none =>
    have hl0 : l = [] := by
      apply Classical.byContradiction
      intro hne
      obtain ⟨b, off, e, _⟩ := ha.pos hne
      cases e
    subst hl0
    have hc := hnil rfl
    subst hc
    clear ha hl hnil HN
    have heq : ∀ w, (binOp .eql 22 (.slice none 0 0) (.slice none 0 0)).run Try.prog w = .ok (.bool true) w := fun w => Lib.run_eql_slice_nil w 22 41 none 0 0 0 0 Try.underlying22
    go_enter Try.func104, Try.ntmps104
    go_wp2
    go_ret
    exact ⟨none, 0, rfl, Own.nil _ _, Below.refl _ _⟩
  | some ad =>
    rw [HN.out] at hl ⊢
    have o1 : (w.alloc (.cells #[] 41)).ownsRow w.heap.size 41 1 (.slice (some ⟨w.heap.size, 0, none⟩) 0 0) 0 [] := World.ownsRow_made w #[] 0 (Nat.le_refl _) (by decide) rfl
    have b1 : Below w.heap.size w (w.alloc (.cells #[] 41)) := (Below.refl _ _).alloc (Nat.le_refl _) _
    have z1 : (w.alloc (.cells #[] 41)).heap.size = w.heap.size + 1 := by simp
    have r1 := ha.below b1
    have heq : ∀ w, (binOp .eql 22 (.slice (some ad) n ca) (.slice none 0 0)).run Try.prog w = .ok (.bool false) w := fun w => Lib.run_eql_slice_nil w 22 41 (some ad) n ca 0 0 Try.underlying22
    go_enter Try.func104, Try.ntmps104
    go_wp2_with (at_builtin; refine append_copy rfl (.tmp 5) (.tmp 6) rfl w.heap.size _ rfl o1 (by rw [z1]; omega) (some ad) n ca l rfl r1 HN.out (by simp) (by omega) ?_)
    intro xo xc wx ox gx
    have HOX : Hid _ := ox
    have HBX : Hid _ := grown_below b1 o1 gx (by rw [z1]; omega)
    clear o1 b1 z1 r1 ox gx
    go_wp2
    go_ret
    exact ⟨xo, xc, by rw [HN.out]; rfl, HOX.out, HBX.out⟩

set_option maxHeartbeats 1000000 in
theorem leading_any (x : Nat) (w : World) (h : x < 4294967296) : Calls Try.prog 111 #[.int .u32 (x : Int)] w fun e w' => e = .returned (.int .i64 ((32 - bl x : Nat) : Int)) ∧ w' = w := by
  have c1 := len32_any x w h
  have hb : bl x ≤ 32 := bl_le.2 h
  generalize bl x = q at *
  go_enter Try.func111, Try.ntmps111
  go_wp2_with fail
  refine c1.mono ?_
  rintro e w' ⟨rfl, rfl⟩
  go_wp2
  go_ret
  exact ⟨retI (by omega), rfl⟩
end Go.Proofs.Yteghiinbafbokaa
namespace Go.Proofs.Yteghiinbafbokaa
open Go.RowKit
set_option linter.unusedVariables false
set_option linter.unusedSimpArgs false

/-- Two rows of the call's own. -/
def Row2 (w : World) (l1 l2 : List Nat) (e : Ending) (w' : World) : Prop :=
  ∃ qo qc ro rc, e = .returned (.tuple #[.slice qo l1.length qc, .slice ro l2.length rc]) ∧ Own w.heap.size w' qo qc l1 ∧ Own w.heap.size w' ro rc l2 ∧ Below w.heap.size w w'

theorem bl_mul {x k : Nat} (h : x ≠ 0) : bl (x * 2 ^ k) = bl x + k := by
  have p : 0 < 2 ^ k := Nat.pow_pos (by omega)
  have e : x * 2 ^ k / 2 ^ k = x := Nat.mul_div_cancel _ p
  have := bl_shift (x := x * 2 ^ k) (k := k) (by rw [e]; exact h)
  rw [e] at this
  omega
section
variable {y n up : Nat} (hy : y ≠ 0) (hn : (words y).length = n) (hup : up = 32 - bl ((words y).getD (n - 1) 0))
include hy hn hup
theorem norm_bl : bl (y * 2 ^ up) = 32 * n ∧ up ≤ 31 ∧ 1 ≤ n := by
  have h1 := bl_words hy
  rw [hn] at h1
  have hl : n ≠ 0 := by
    intro e
    rw [e] at hn
    exact hy (words_eq_nil.1 (List.length_eq_zero_iff.1 hn))
  have ht : (words y).getD (n - 1) 0 ≠ 0 := by
    rcases words_top y with h | h
    · exact absurd (words_eq_nil.1 h) hy
    · rw [hn] at h
      exact h
  have hb : bl ((words y).getD (n - 1) 0) ≤ 32 := bl_le.2 ((words_dig y).getD (n - 1))
  have hb0 := bl_pos ht
  rw [bl_mul hy]
  omega
theorem norm_len : (words (y * 2 ^ up)).length = n := by
  obtain ⟨h1, h2, h3⟩ := norm_bl hy hn hup
  have a : y * 2 ^ up < pw n := by rw [pw_two]; exact bl_le.1 (Nat.le_of_eq h1)
  have b := words_length_le a
  apply Nat.le_antisymm b
  apply Classical.byContradiction
  intro hc
  have c : (words (y * 2 ^ up)).length ≤ n - 1 := by omega
  have d := words_length_iff.1 c
  rw [pw_two] at d
  have e := bl_le.2 d
  omega
theorem norm_top : (words (y * 2 ^ up)).getD (n - 1) 0 ≠ 0 := by
  have h := norm_len hy hn hup
  have h3 := (norm_bl hy hn hup).2.2
  rcases words_top (y * 2 ^ up) with h1 | h1
  · rw [h1] at h
    simp at h
    omega
  · rw [h] at h1
    exact h1
theorem norm_ge : 2 ^ (32 * n - 1) ≤ y * 2 ^ up := by
  have h := (norm_bl hy hn hup).1
  have h0 : y * 2 ^ up ≠ 0 := by
    have : 0 < 2 ^ up := Nat.pow_pos (by omega)
    exact Nat.mul_ne_zero hy (by omega)
  have := bl_ge h0
  rw [h] at this
  exact this
theorem norm_top_a {x la : Nat} (hx : (words x).length = la) (hla : n ≤ la) : x * 2 ^ up < pw (la - n + 1) * (y * 2 ^ up) ∧ (words (x * 2 ^ up)).length ≤ la + 1 := by
  obtain ⟨_, h2, h3⟩ := norm_bl hy hn hup
  have hxl : x < pw la := by rw [← hx]; exact words_lt x
  have h4 : 2 ^ up ≤ 2 ^ 31 := Nat.pow_le_pow_right (by omega) h2
  have h5 : x * 2 ^ up < pw la * 2 ^ 31 := by
    have a : x * 2 ^ up ≤ x * 2 ^ 31 := Nat.mul_le_mul_left _ h4
    have b : x * 2 ^ 31 < pw la * 2 ^ 31 := Nat.mul_lt_mul_of_pos_right hxl (by omega)
    omega
  have h6 : pw la * 2 ^ 31 = pw (la - n + 1) * 2 ^ (32 * n - 1) := by
    rw [pw_two, pw_two, ← Nat.pow_add, ← Nat.pow_add]
    congr 1
    omega
  refine ⟨?_, words_length_le ?_⟩
  · have h7 := Nat.mul_le_mul_left (pw (la - n + 1)) (norm_ge hy hn hup)
    omega
  · rw [pw_succ]
    have e31 : (2 : Nat) ^ 31 = 2147483648 := rfl
    omega
end

theorem Own.full {B : Nat} {w : World} {g : Nat} {l : List Nat} (h : Own B w (some ⟨g, 0, none⟩) l.length l) : w.heap[g]? = some (.cells (U l).toArray 41 (0, 0)) := by
  rcases h.row.2 with ⟨h2, _⟩ | ⟨g', cap', cur, hv, b, c, d, e, f, t⟩
  · simp at h2
  · simp only [Value.slice.injEq, Option.some.injEq, Addr.mk.injEq, and_true, true_and] at hv
    obtain ⟨rfl, rfl⟩ := hv
    rw [c]
    have : cur.toList = U l := by
      rw [← t, List.take_of_length_le]
      rw [Array.length_toList, f]
      omega
    rw [← this]
theorem Own.ofFull {B : Nat} {w : World} {g : Nat} {l : List Nat} (hB : B ≤ g) (hd : Dig l) (hl : l.length ≤ 1000000000) (h : w.heap[g]? = some (.cells (U l).toArray 41 (0, 0))) : Own B w (some ⟨g, 0, none⟩) l.length l := by
  refine ⟨hd, by rw [U_length]; omega, .inr ⟨g, l.length, (U l).toArray, rfl, hB, h, Nat.le_refl _, by unfold maxLen; omega, by simp [U_length], ?_⟩⟩
  rw [List.take_of_length_le]
  simp [U_length]
theorem Own.lit1 (w : World) (x : Nat) (hx : x < 4294967296) : Own w.heap.size (w.alloc (.cells #[.int .u32 (x : Int)] 41)) (some ⟨w.heap.size, 0, none⟩) 1 [x] :=
  ⟨by simp [Dig]; omega, World.ownsRow_lit (e := 41) (size := 1) w #[.int .u32 (x : Int)] 1 (Nat.le_refl _) (by unfold maxLen; omega) rfl⟩

/-- One digit of the division. -/
theorem divide_step {LU LQ : List Nat} {V A k n m : Nat} {M' : List Nat} (hk : k + n + 1 ≤ LU.length) (hd : Dig LU) (hV : V < pw n) (hV0 : 0 < V) (hlt : val LU < pw (k + 1) * V) (hA : val LQ * V + val LU = A) (hkq : k < LQ.length) (hq0 : LQ.getD k 0 = 0) :
    val ((LU.drop k).take (n + 1)) < 4294967296 * V ∧ (val M' = val ((LU.drop k).take (n + 1)) % V → M'.length = n + 1 →
      val (LQ.set k (val ((LU.drop k).take (n + 1)) / V)) * V + val (LU.take k ++ (M' ++ LU.drop (k + n + 1))) = A ∧ val (LU.take k ++ (M' ++ LU.drop (k + n + 1))) < pw k * V) := by
  obtain ⟨P, hP⟩ : ∃ P, LU.take k = P := ⟨_, rfl⟩
  obtain ⟨M, hM⟩ : ∃ M, (LU.drop k).take (n + 1) = M := ⟨_, rfl⟩
  obtain ⟨S, hS⟩ : ∃ S, LU.drop (k + n + 1) = S := ⟨_, rfl⟩
  have hLU : LU = P ++ (M ++ S) := by
    rw [← hP, ← hM, ← hS, Nat.add_assoc, ← List.drop_drop, List.take_append_drop, List.take_append_drop]
  have lP : P.length = k := by rw [← hP, List.length_take]; omega
  have lM : M.length = n + 1 := by rw [← hM, List.length_take, List.length_drop]; omega
  have dP : val P < pw k := by
    have := val_lt (hd.take k)
    rw [hP, lP] at this
    exact this
  have v1 : val LU = val P + pw k * (val M + pw (n + 1) * val S) := by rw [hLU, win_val, lP, lM]
  rw [hM, hP, hS]
  have hS0 : val S = 0 := by
    apply Classical.byContradiction
    intro h
    have h1 : pw (n + 1) * 1 ≤ pw (n + 1) * val S := Nat.mul_le_mul_left _ (by omega)
    have h2 : pw k * pw (n + 1) ≤ pw k * (val M + pw (n + 1) * val S) := Nat.mul_le_mul_left _ (by omega)
    have h3 : pw (k + 1) * V ≤ pw (k + 1) * pw n := Nat.mul_le_mul_left _ (by omega)
    have h4 : pw (k + 1) * pw n = pw k * pw (n + 1) := by rw [← pw_add, ← pw_add]; congr 1; omega
    omega
  rw [hS0, Nat.mul_zero, Nat.add_zero] at v1
  have hMlt : val M < 4294967296 * V := by
    rw [pw_succ, Nat.mul_assoc, Nat.mul_left_comm] at hlt
    have : pw k * val M < pw k * (4294967296 * V) := by omega
    exact Nat.lt_of_mul_lt_mul_left this
  refine ⟨hMlt, fun hM' lM' => ?_⟩
  have v2 : val (P ++ (M' ++ S)) = val P + pw k * (val M % V) := by rw [win_val, lP, lM', hS0, Nat.mul_zero, Nat.add_zero, hM']
  have e := Nat.div_add_mod (val M) V
  have hr := Nat.mod_lt (val M) hV0
  have s := val_set LQ k (val M / V) hkq
  rw [hq0, Nat.mul_zero, Nat.add_zero] at s
  rw [v2, s]
  generalize val M / V = d at *
  generalize val M % V = r at *
  refine ⟨?_, ?_⟩
  · have e2 : pw k * val M = pw k * d * V + pw k * r := by
      rw [← e, Nat.mul_add, Nat.mul_comm V d, Nat.mul_assoc]
    rw [Nat.add_mul]
    omega
  · have : pw k * (r + 1) ≤ pw k * V := Nat.mul_le_mul_left _ hr
    rw [Nat.mul_add, Nat.mul_one] at this
    omega
theorem divide_end {x y up Q R : Nat} (hy : y ≠ 0) (h : Q * (y * 2 ^ up) + R = x * 2 ^ up) (hR : R < y * 2 ^ up) : Q = x / y ∧ R / 2 ^ up = x % y := by
  have p : 0 < 2 ^ up := Nat.pow_pos (by omega)
  have h1 := Nat.div_mod_unique (a := x * 2 ^ up) (b := y * 2 ^ up) (c := R) (d := Q) (Nat.mul_pos (by omega) p)
  have h2 := h1.2 ⟨by rw [Nat.mul_comm (y * 2 ^ up)]; omega, hR⟩
  rw [Nat.mul_div_mul_right _ _ p, Nat.mul_mod_mul_right] at h2
  refine ⟨h2.1.symm, ?_⟩
  rw [← h2.2, Nat.mul_div_cancel _ p]
end Go.Proofs.Yteghiinbafbokaa
namespace Go.Proofs.Yteghiinbafbokaa
open Go.RowKit
set_option linter.unusedVariables false
set_option linter.unusedSimpArgs false

theorem cmp_lt' {x y : Nat} (h : x < y) : cmpN x y = -1 := by unfold cmpN; rw [if_pos h]
theorem cmp_ge' {x y : Nat} (h : ¬ x < y) : ¬ cmpN x y < 0 := by
  unfold cmpN
  rw [if_neg h]
  split <;> omega

set_option maxHeartbeats 2000000 in
set_option maxRecDepth 1000000 in
theorem divide_less {w : World} {ao bo : Option Addr} {x y : Nat} (ca cb : Nat) (ha : Rd w ao (words x)) (hb : Rd w bo (words y)) (hx : (words x).length ≤ 90000) (hy : (words y).length ≤ 90000) (hnil : ao = none → ca = 0) (hxy : x < y) :
    Calls Try.prog 105 #[.slice ao (words x).length ca, .slice bo (words y).length cb] w (Row2 w (words (x / y)) (words (x % y))) := by
  have c1 := order_any ca cb ha hb (by omega) (by omega)
  rw [cmp_lt' hxy] at c1
  rw [Nat.div_eq_of_lt hxy, Nat.mod_eq_of_lt hxy, words_zero]
  have HA : Hid _ := ha
  have HNil : Hid _ := hnil
  obtain ⟨n, HX⟩ : ∃ n, Hid ((words x).length = n) := ⟨_, rfl⟩
  obtain ⟨m, HY⟩ : ∃ m, Hid ((words y).length = m) := ⟨_, rfl⟩
  rw [HX.out, HY.out] at c1
  rw [HX.out] at hx ⊢
  rw [HY.out]
  have HC1 : Hid _ := c1
  clear c1 ha hb hnil hxy hy
  go_enter Try.func105, Try.ntmps105
  go_wp2_with fail
  refine Calls.mono HC1.out ?_
  rintro e w1 ⟨rfl, b1⟩
  have c2 := clone_any ca (HA.out.below b1) (by rw [HX.out]; omega) HNil.out
  rw [HX.out] at c2
  have HC2 : Hid _ := c2
  have HB1 : Hid _ := b1
  clear c2 b1 HC1
  go_wp2_with fail
  refine Calls.mono HC2.out ?_
  rintro e w2 ⟨ro, rc, rfl, ho, b2⟩
  have HO : Hid _ := ho.lower HB1.out.size
  have HB2 : Hid _ := HB1.out.trans (b2.mono HB1.out.size)
  clear ho b2 HC2
  go_wp2
  go_ret2
  exact ⟨none, 0, ro, rc, rfl, Own.nil _ _, HO.out, HB2.out⟩

set_option maxHeartbeats 2000000 in
set_option maxRecDepth 1000000 in
theorem divide_word {w : World} {ao bo : Option Addr} {x y : Nat} (ca cb : Nat) (ha : Rd w ao (words x)) (hb : Rd w bo (words y)) (hx : (words x).length ≤ 90000) (hy : (words y).length = 1) (hnil : ao = none → ca = 0) (hxy : ¬ x < y) :
    Calls Try.prog 105 #[.slice ao (words x).length ca, .slice bo (words y).length cb] w (Row2 w (words (x / y)) (words (x % y))) := by
  have c1 := order_any ca cb ha hb (by omega) (by omega)
  have hge := cmp_ge' hxy
  have hyl := words_lt y
  rw [hy, show pw 1 = 4294967296 from rfl] at hyl
  have hy0 : y ≠ 0 := by intro e; rw [e, words_zero] at hy; simp at hy
  have hx0 : words x ≠ [] := fun e => by have := words_eq_nil.1 e; omega
  obtain ⟨b2, o2, rfl, _, hc2⟩ := hb.pos (by intro e; rw [e] at hy; simp at hy)
  have k0 : w.cell? ⟨b2, o2, none⟩ = some (.int .u32 (y : Int)) := by
    have := hc2 0 (by omega)
    rw [words_getD, pw_zero, Nat.div_one, Nat.mod_eq_of_lt hyl] at this
    exact this
  have HA : Hid _ := ha
  have HRB : Hid _ := hb
  have HNil : Hid _ := hnil
  obtain ⟨n, HX⟩ : ∃ n, Hid ((words x).length = n) := ⟨_, rfl⟩
  obtain ⟨kc, hkc⟩ : ∃ k, cmpN x y = k := ⟨_, rfl⟩
  rw [hkc] at c1 hge
  rw [HX.out, hy] at c1
  rw [HX.out] at hx ⊢
  rw [hy]
  have HC1 : Hid _ := c1
  have HX0 : Hid _ := hx0
  have hb2 : b2 < w.heap.size := by assumption
  clear c1 ha hb hnil hxy hc2 hkc hx0 hy
  go_enter Try.func105, Try.ntmps105
  go_wp2_with fail
  refine Calls.mono HC1.out ?_
  rintro e w1 ⟨rfl, b1⟩
  have k2 : w1.cell? ⟨b2, o2, none⟩ = some (.int .u32 (y : Int)) := by
    rw [b1.cell (by exact hb2)]
    exact k0
  have c2 := divideByWord_any ca (HA.out.below b1) (by rw [HX.out]; omega) (show 0 < y by omega) hyl
  rw [HX.out] at c2
  have HC2 : Hid _ := c2
  have HB1 : Hid _ := b1
  clear c2 b1 HC1 k0
  go_wp2_with fail
  refine Calls.mono HC2.out ?_
  rintro e w3 ⟨qo, qc, rfl, oq, b3⟩
  have HB3 : Hid _ := HB1.out.trans (b3.mono HB1.out.size)
  have hmod : x % y < 4294967296 := by have := Nat.mod_lt x (show 0 < y by omega); omega
  have hlit := Own.lit1 w3 (x % y) hmod
  have c4 := trim_any hlit (by simp)
  have ev : val [x % y] = x % y := by simp [val]
  rw [ev] at c4
  have HC4 : Hid _ := c4
  have HOQ : Hid _ := (oq.alloc (.cells #[.int .u32 ((x % y : Nat) : Int)] 41)).lower HB1.out.size
  have HB4 : Hid (Below w.heap.size w (w3.alloc (.cells #[.int .u32 ((x % y : Nat) : Int)] 41))) := HB3.out.alloc HB3.out.size _
  obtain ⟨r, hr⟩ : ∃ r, x % y = r := ⟨_, rfl⟩
  rw [hr] at HC4 HB4 HOQ hmod
  simp only [hr]
  have HR : Hid _ := hr
  have HSZ : Hid (w.heap.size ≤ w3.heap.size) := HB3.out.size
  clear oq b3 hlit c4 ev hr HC2
  go_wp2_with fail
  refine Calls.mono HC4.out ?_
  rintro e w4 ⟨rfl, ho4, rfl⟩
  have HO4 : Hid _ := ho4.lower HSZ.out
  clear ho4
  go_wp2
  go_ret2
  have h := HR.out
  subst h
  exact ⟨_, _, _, _, rfl, HOQ.out, HO4.out, HB4.out⟩
end Go.Proofs.Yteghiinbafbokaa
namespace Go.Proofs.Yteghiinbafbokaa
open Go.RowKit
set_option linter.unusedVariables false
set_option linter.unusedSimpArgs false

/-- What a law is told of a slice of words that came in. -/
structure Arg (w : World) (ao : Option Addr) (cap : Nat) (l : List Nat) : Prop where
  rd : Rd w ao l
  caps : l.length ≤ cap
  len : l.length ≤ 9223372036854775807
  nil : ao = none → cap = 0
theorem chain2 {a b c : World} (h1 : Below a.heap.size a b) (h2 : Below b.heap.size b c) : Below a.heap.size a c := h1.trans (h2.mono h1.size)
theorem chain3 {a b c d : World} (h1 : Below a.heap.size a b) (h2 : Below b.heap.size b c) (h3 : Below c.heap.size c d) : Below a.heap.size a d := chain2 (chain2 h1 h2) h3
theorem chain4 {a b c d e : World} (h1 : Below a.heap.size a b) (h2 : Below b.heap.size b c) (h3 : Below c.heap.size c d) (h4 : Below d.heap.size d e) : Below a.heap.size a e := chain2 (chain3 h1 h2 h3) h4

theorem arg_nil (w : World) : Arg w none 0 [] := ⟨Rd.nil _ _, by simp, by simp, fun _ => rfl⟩
theorem arg_row {w : World} {x : Addr} {len cap : Nat} {zs : List Int} (hl : len ≤ cap) (hm : cap ≤ maxLen) (hz : zs.length = cap)
    (hc : ∀ i, i < zs.length → w.cell? (x.add i) = some (.int .u32 (zs.getD i 0))) (hw : ∀ n ∈ zs, (Lit.int .u32 n).wf = true) :
    ∃ l : List Nat, l.length = len ∧ Arg w (some x) cap l := by
  have hbd : ∀ n ∈ zs, 0 ≤ n ∧ n < 4294967296 := by
    intro n hn
    have := bounds_u32 (hw n hn)
    omega
  refine ⟨(zs.take len).map Int.toNat, by rw [List.length_map, List.length_take]; omega, ?_⟩
  have hlen : ((zs.take len).map Int.toNat).length = len := by rw [List.length_map, List.length_take]; omega
  refine ⟨⟨?_, ?_⟩, by omega, by rw [hlen]; unfold maxLen at hm; omega, by simp⟩
  · intro n hn
    obtain ⟨z, hz1, rfl⟩ := List.mem_map.1 hn
    have := hbd z (List.mem_of_mem_take hz1)
    omega
  · intro hne
    have h0 : 0 < len := by
      apply Classical.byContradiction
      intro h
      have : len = 0 := by omega
      subst this
      simp at hne
    obtain ⟨b, off, spot⟩ := x
    have hspot : spot = none := by
      have := hc 0 (by omega)
      simp only [World.cell?, Addr.add] at this
      split at this
      · cases spot with
        | none => rfl
        | some s => simp at this
      · cases this
    subst hspot
    have hcj : ∀ j, j < len → w.cell? ⟨b, off + j, none⟩ = some (.int .u32 (((((zs.take len).map Int.toNat).getD j 0 : Nat)) : Int)) := by
      intro j hj
      have h1 := hc j (by omega)
      rw [Addr.add_lit] at h1
      rw [h1]
      have hjz : j < zs.length := by omega
      have h2 := hbd zs[j] (List.getElem_mem hjz)
      have e1 : zs.getD j 0 = zs[j] := by simp [hjz]
      have e2 : ((zs.take len).map Int.toNat).getD j 0 = (zs[j]).toNat := by
        simp [List.getElem?_take, hj, hjz]
      rw [e1, e2, Int.toNat_of_nonneg h2.1]
    refine ⟨b, off, rfl, cell_lt (hcj 0 h0), fun j hj => hcj j (by rw [hlen] at hj; exact hj)⟩
end Go.Proofs.Yteghiinbafbokaa
namespace Go.Proofs.Yteghiinbafbokaa
open Go.RowKit
set_option linter.unusedVariables false
set_option linter.unusedSimpArgs false

theorem splice_words (wa : List Nat) (n : Nat) (h : wa.length ≤ n) : splice (U (List.replicate n 0)) 0 (U wa) = U (wa ++ List.replicate (n - wa.length) 0) := by
  simp [splice, U, List.drop_replicate]

set_option maxHeartbeats 4000000 in
set_option maxRecDepth 1000000 in
theorem divide_long {w : World} {ao bo : Option Addr} {x y : Nat} (ca cb : Nat) (ha : Rd w ao (words x)) (hb : Rd w bo (words y)) (hx : (words x).length ≤ 90000) (h2 : 2 ≤ (words y).length) (hxy : ¬ x < y) :
    Calls Try.prog 105 #[.slice ao (words x).length ca, .slice bo (words y).length cb] w (Row2 w (words (x / y)) (words (x % y))) := by
  have hle : (words y).length ≤ (words x).length := words_mono (Nat.le_of_not_lt hxy)
  have c1 := order_any ca cb ha hb (by omega) (by omega)
  have hge := cmp_ge' hxy
  have hy0 : y ≠ 0 := by intro e; rw [e, words_zero] at h2; simp at h2
  obtain ⟨b2, o2, hbo, hb2, hc2⟩ := hb.pos (by intro e; rw [e] at h2; simp at h2)
  obtain ⟨la, HX⟩ : ∃ n, Hid ((words x).length = n) := ⟨_, rfl⟩
  obtain ⟨n, HY⟩ : ∃ n, Hid ((words y).length = n) := ⟨_, rfl⟩
  rw [HY.out] at h2
  have k0 := hc2 (n - 1) (by rw [HY.out]; omega)
  have d0 := (words_dig y).getD (n - 1)
  obtain ⟨up, hup⟩ : ∃ up, up = 32 - bl ((words y).getD (n - 1) 0) := ⟨_, rfl⟩
  obtain ⟨N1, N2, N3⟩ := norm_bl hy0 HY.out hup
  have HNL : Hid _ := norm_len hy0 HY.out hup
  have HNT : Hid _ := norm_top hy0 HY.out hup
  rw [HX.out, HY.out] at hle
  have HNA : Hid _ := norm_top_a hy0 HY.out hup HX.out hle
  obtain ⟨tp, htp⟩ : ∃ t, (words y).getD (n - 1) 0 = t := ⟨_, rfl⟩
  rw [htp] at k0 d0 hup
  have HUP : Hid _ := hup
  obtain ⟨kc, hkc⟩ : ∃ k, cmpN x y = k := ⟨_, rfl⟩
  rw [hkc, HX.out, HY.out] at c1
  rw [hkc] at hge
  have HA : Hid _ := ha
  have HRB : Hid _ := hb
  rw [HX.out] at hx
  rw [HX.out, HY.out]
  have HC1 : Hid _ := c1
  have HBO : Hid _ := hbo
  have HY0 : Hid _ := hy0
  clear c1 ha hb hxy hc2 hkc htp hup N1 N3 hy0
  obtain ⟨m, hm⟩ : ∃ m, la - n + 1 = m := ⟨_, rfl⟩
  have hmI : (la : Int) - (n : Int) + 1 = (m : Int) := by omega
  have hmk1 := run_make_row' (P := Try.prog) 22 41 (.int .u32 0) 4 Try.underlying22 infoU rfl .i64 .i64 (la + 1) (by omega) (by omega)
  have hmk2 := run_make_row' (P := Try.prog) 22 41 (.int .u32 0) 4 Try.underlying22 infoU rfl .i64 .i64 m (by omega) (by omega)
  simp only [Int.natCast_add, Int.cast_ofNat_Int] at hmk1
  have hn1 : ((n : Int) == 1) = false := by simp; omega
  obtain ⟨V, hV⟩ : ∃ V, y * 2 ^ up = V := ⟨_, rfl⟩
  obtain ⟨A, hA⟩ : ∃ A, x * 2 ^ up = A := ⟨_, rfl⟩
  rw [hV] at HNL HNT HNA
  rw [hA] at HNA
  have HVD : Hid _ := hV
  have HAD : Hid _ := hA
  rw [hm] at HNA
  subst hbo
  clear hV hA
  go_enter Try.func105, Try.ntmps105
  go_wp2_with fail
  refine Calls.mono HC1.out ?_
  rintro e w1 ⟨rfl, b1⟩
  have k1 : w1.cell? ⟨b2, o2 + (n - 1), none⟩ = some (.int .u32 (tp : Int)) := by
    rw [b1.cell (by exact hb2)]
    exact k0
  have c2 := leading_any tp w1 d0
  rw [← HUP.out] at c2
  have HC2 : Hid _ := c2
  have c3 := shiftUp_any cb up (HRB.out.below b1) (by rw [HY.out]; omega) (by omega)
  rw [HVD.out, HY.out] at c3
  have HC3 : Hid _ := c3
  have HB1 : Hid _ := b1
  clear b1 c2 c3 HC1 k0
  go_wp2_with fail
  refine Calls.mono HC2.out ?_
  rintro e w' ⟨rfl, hw'⟩
  have hw' := hw'.symm
  subst hw'
  go_wp2_with fail
  refine Calls.mono HC3.out ?_
  rintro e w2 ⟨vo, vc, rfl, ov, b2'⟩
  have HB2 : Hid (Below w.heap.size w w2) := HB1.out.trans (b2'.mono HB1.out.size)
  have HV2 : Hid _ := ov
  have HRA2 : Hid _ := HA.out.below HB2.out
  have hown3 := Own.made w2 (la + 1) (by omega)
  have hb3 : Below w2.heap.size w2 (w2.alloc (.cells (madeCells #[.int .u32 0] (la + 1)) 41)) := (Below.refl _ _).alloc (Nat.le_refl _) _
  have c4 := shiftUp_any ca up (HRA2.out.below hb3) (by rw [HX.out]; omega) (by omega)
  rw [HAD.out, HX.out] at c4
  have HC4 : Hid _ := c4
  have HO3 : Hid _ := hown3
  have HB3 : Hid _ := hb3
  rw [HNL.out]
  clear ov b2' hown3 hb3 c4 HC2 HC3 k1
  go_wp2_with fail
  refine Calls.mono HC4.out ?_
  rintro e w4 ⟨so, sc, rfl, os, b4⟩
  have HS4 : Hid _ := os
  have HB4 : Hid _ := b4
  have ho4 : Own w2.heap.size w4 (some ⟨w2.heap.size, 0, none⟩) (la + 1) (List.replicate (la + 1) 0) := HO3.out.below b4
  have hfull : w4.heap[w2.heap.size]? = some (.cells (U (List.replicate (la + 1) 0)).toArray 41 (0, 0)) := by
    apply Own.full (B := w2.heap.size)
    rw [List.length_replicate]
    exact ho4
  have hlen : (words A).length ≤ la + 1 := HNA.out.2
  have hA0 : words A ≠ [] := by
    intro e
    have h1 := words_eq_nil.1 e
    rw [← HAD.out] at h1
    have p : 0 < 2 ^ up := Nat.pow_pos (by omega)
    rcases Nat.mul_eq_zero.1 h1 with h3 | h3
    · have h4 := HX.out
      rw [h3, words_zero] at h4
      simp at h4
      omega
    · omega
  obtain ⟨sb, soff, hso, _, _⟩ := os.rd.pos hA0
  subst hso
  have hcp := run_copy_row (P := Try.prog) w4 22 22 3 41 w2.heap.size 0 (la + 1) (la + 1) ⟨sb, soff, none⟩ (words A).length sc (U (List.replicate (la + 1) 0)).toArray 41 (U (words A)) Try.underlying22 (by kernel_rfl) hfull (by rw [U_length]; exact (Nat.min_eq_left hlen).symm) (Rd.cells (spot := none) os.rd) (by rw [U_length]; simp [U_length]; omega) (U_one _)
  have hheap := setRow_heap w4 w2.heap.size _ ((U (List.replicate (la + 1) 0)).toArray.toList.take 0 ++ U (words A) ++ (U (List.replicate (la + 1) 0)).toArray.toList.drop (0 + (U (words A)).length)).toArray 41 (0, 0) hfull
  have hb5 : Below w2.heap.size w4 (w4.setRow w2.heap.size ((U (List.replicate (la + 1) 0)).toArray.toList.take 0 ++ U (words A) ++ (U (List.replicate (la + 1) 0)).toArray.toList.drop (0 + (U (words A)).length)).toArray) := below_setRow (Below.refl _ _) (Nat.le_refl _) _
  obtain ⟨w5, hw5⟩ : ∃ w5, w4.setRow w2.heap.size ((U (List.replicate (la + 1) 0)).toArray.toList.take 0 ++ U (words A) ++ (U (List.replicate (la + 1) 0)).toArray.toList.drop (0 + (U (words A)).length)).toArray = w5 := ⟨_, rfl⟩
  rw [hw5] at hcp hheap hb5
  have el : (U (List.replicate (la + 1) 0)).toArray.toList.take 0 ++ U (words A) ++ (U (List.replicate (la + 1) 0)).toArray.toList.drop (0 + (U (words A)).length) = U (words A ++ List.replicate (la + 1 - (words A).length) 0) := by
    simp [U, List.drop_replicate]
  rw [el] at hheap
  have ho5 : Own w2.heap.size w5 (some ⟨w2.heap.size, 0, none⟩) (la + 1) (words A ++ List.replicate (la + 1 - (words A).length) 0) := by
    have h1 := Own.ofFull (B := w2.heap.size) (Nat.le_refl _) (dig_append.2 ⟨words_dig A, dig_replicate _⟩) (by rw [List.length_append, List.length_replicate]; omega) hheap
    have e2 : (words A ++ List.replicate (la + 1 - (words A).length) 0).length = la + 1 := by rw [List.length_append, List.length_replicate]; omega
    rw [e2] at h1
    exact h1
  have HO5 : Hid _ := ho5
  have HB5 : Hid _ := hb5
  rw [U_length] at hcp
  have hgq : w2.heap.size < w5.heap.size := (ho5.lt _ rfl).2
  have hVlt : ∀ c, vo = some c → c.block < w2.heap.size := fun c hc => (HV2.out.lt c hc).2
  have HVL : Hid _ := hVlt
  have hRV : Rd w5 vo (words V) := Rd.under ((HV2.out.rd.below HB3.out).below HB4.out) hVlt hb5
  have HRV : Hid _ := hRV
  have hbw5 : Below w.heap.size w w5 := (chain2 (chain2 HB2.out HB3.out) HB4.out).trans (hb5.mono HB2.out.size)
  have HBW5 : Hid _ := hbw5
  have HVP : Hid (V < pw n ∧ 0 < V) := ⟨by have := words_lt V; rw [HNL.out] at this; exact this, by
    rw [← HVD.out]
    exact Nat.mul_pos (Nat.pos_of_ne_zero HY0.out) (Nat.pow_pos (by omega))⟩
  clear hw5 el hheap ho5 hb5 hfull ho4 os b4 hA0 HC4 hVlt hRV hbw5
  go_wp2
  go_loopw [62] (fun v wr => ∃ (i : Nat) (LU LQ : List Nat), i ≤ m ∧ v = .int .i64 (i : Int) ∧ LU.length = la + 1 ∧ LQ.length = m ∧ Own w.heap.size wr (some ⟨w2.heap.size, 0, none⟩) (la + 1) LU ∧ Own w.heap.size wr (some ⟨w5.heap.size, 0, none⟩) m LQ ∧ Rd wr vo (words V) ∧ Below w.heap.size w wr ∧ val LQ * V + val LU = A ∧ val LU < pw (m - i) * V ∧ ∀ p, p < m - i → LQ.getD p 0 = 0) (fun v _ => m - (intOf v).toNat)
  case atStart =>
    refine ⟨0, words A ++ List.replicate (la + 1 - (words A).length) 0, List.replicate m 0, Nat.zero_le _, rfl, by rw [List.length_append, List.length_replicate]; omega, by simp, (HO5.out.lower HB2.out.size).alloc _, (Own.made w5 m (by omega)).lower HBW5.out.size, HRV.out.below ((Below.refl _ _).alloc (Nat.le_refl _) _), HBW5.out.alloc HBW5.out.size _, ?_, ?_, fun p _ => ?_⟩
    · rw [val_append, val_replicate, val_replicate, val_words]
      omega
    · rw [val_append, val_replicate, val_words, Nat.mul_zero, Nat.add_zero, Nat.sub_zero]
      exact HNA.out.1
    · simp only [List.getD_eq_getElem?_getD, List.getElem?_replicate]
      split <;> rfl
  case round =>
    obtain ⟨i, LU, LQ, hi, rfl, hLU, hLQ, hou, hoq, hrv, hbw, hA, hlt, hz⟩ := hrel
    have HLU : Hid _ := hLU
    have HLQ : Hid _ := hLQ
    have HAA : Hid _ := hA
    have HLT : Hid _ := hlt
    have HZ : Hid _ := hz
    clear hLU hLQ hA hlt hz
    by_cases hin : i < m
    · obtain ⟨k, hk⟩ : ∃ k, m - 1 - i = k := ⟨_, rfl⟩
      have hkI : (m : Int) - 1 - (i : Int) = (k : Int) := by omega
      have hmk : m - i = k + 1 := by omega
      have hkm : k < m := by omega
      have hkl : k + n + 1 ≤ la + 1 := by omega
      have hst := fun M' => divide_step (LU := LU) (LQ := LQ) (V := V) (A := A) (k := k) (n := n) (m := m) (M' := M') (by rw [HLU.out]; omega) hou.dig HVP.out.1 HVP.out.2 (by have := HLT.out; rw [hmk] at this; exact this) HAA.out (by rw [HLQ.out]; omega) (HZ.out k (by omega))
      have HST : Hid _ := hst
      obtain ⟨P, hP⟩ : ∃ P, LU.take k = P := ⟨_, rfl⟩
      obtain ⟨M, hM⟩ : ∃ M, (LU.drop k).take (n + 1) = M := ⟨_, rfl⟩
      obtain ⟨S, hS⟩ : ∃ S, LU.drop (k + n + 1) = S := ⟨_, rfl⟩
      have hLU2 : LU = P ++ (M ++ S) := by
        rw [← hP, ← hM, ← hS, Nat.add_assoc, ← List.drop_drop, List.take_append_drop, List.take_append_drop]
      have lP : P.length = k := by rw [← hP, List.length_take, HLU.out]; omega
      have lM : M.length = n + 1 := by rw [← hM, List.length_take, List.length_drop, HLU.out]; omega
      have lS : S.length = la + 1 - (k + n + 1) := by rw [← hS, List.length_drop, HLU.out]
      rw [hP, hM, hS] at HST
      have hou2 := hou
      rw [hLU2] at hou2
      have hMV := (HST.out []).1
      have c1 := takeDigit_any (c0 := la + 1 - k) (cv := vc) hou2 lP lM hrv HNL.out h2 (by omega) (by omega) (fun _ a ha => Nat.ne_of_lt (HVL.out a ha)) HNT.out (by rw [val_words]; exact hMV)
      rw [val_words] at c1
      have HC : Hid _ := c1
      have HOQ : Hid _ := hoq
      have HRv : Hid _ := hrv
      have HBw : Hid _ := hbw
      have hdq : val M / V < 4294967296 := Nat.div_lt_of_lt_mul (by rw [Nat.mul_comm]; exact hMV)
      obtain ⟨d, hd⟩ : ∃ d, val M / V = d := ⟨_, rfl⟩
      rw [hd] at HC HST hdq
      have HLEN : Hid (P.length = k ∧ S.length = la + 1 - (k + n + 1)) := ⟨lP, lS⟩
      clear hst hP hM hS hLU2 lP lM lS hou2 hou hoq hrv hbw c1 hMV hd hk
      have q1 : (k : Int) ≤ (k : Int) + n + 1 := by omega
      have q2 : (k : Int) + n + 1 ≤ ((la + 1 : Nat) : Int) := by omega
      have q3 : ¬ (la + 1 = k) := by omega
      have q4 : ((k : Int) + n + 1).toNat = k + n + 1 := by omega
      have q8 : k + n + 1 - k = n + 1 := by omega
      go_wp2_with fail
      refine Calls.mono HC.out ?_
      rintro e w6 ⟨M', rfl, hM', ho6, hg6, hv6⟩
      have hoq6 : Own w.heap.size w6 (some ⟨w5.heap.size, 0, none⟩) m LQ := HOQ.out.kept hg6 (fun a ha e => by cases ha; simp at e; omega)
      have k1 := hoq6.cell k (by rw [HLQ.out]; omega)
      have k2 := hoq6.frozen k
      have HSQ : Hid _ := hoq6.set k d hdq
      have hgs := hoq6.setG k d
      have HOU : Hid _ := ho6.kept hgs (fun a ha e => by cases ha; simp at e; omega)
      have HRN : Hid _ := (HRv.out.apart' hg6 (fun _ a ha => Nat.ne_of_lt (HVL.out a ha))).apart' hgs (fun _ a ha => by have := HVL.out a ha; omega)
      have hb6 : Below w.heap.size w w6 := HBw.out.grown hg6 HBw.out.size (fun k hk => by cases hk; exact HB2.out.size)
      have HBN : Hid _ := hb6.setCell (p := ⟨w5.heap.size, k, none⟩) HBW5.out.size (.int .u32 (d : Int))
      have HFI : Hid _ := (HST.out M').2 hv6 hM'
      have HLM : Hid _ := hM'
      clear hoq6 hgs hb6 hM' ho6 hg6 hv6 HC
      go_wp2
      go_roundw
      case rel =>
        refine ⟨i + 1, P ++ (M' ++ S), LQ.set k d, by omega, by go_num, ?_, by rw [List.length_set]; exact HLQ.out, HOU.out, HSQ.out, HRN.out, HBN.out, HFI.out.1, ?_, fun p hp => ?_⟩
        · rw [List.length_append, List.length_append, HLEN.out.1, HLEN.out.2, HLM.out]
          omega
        · rw [show m - (i + 1) = k by omega]
          exact HFI.out.2
        · rw [getD_set_ne _ _ _ _ (by omega)]
          exact HZ.out p (by omega)
      case measure => simp only [intOf]; omega
    · have e : i = m := by omega
      subst e
      have hlt := HLT.out
      rw [Nat.sub_self, pw_zero, Nat.one_mul] at hlt
      have hend := divide_end (x := x) (y := y) (up := up) (Q := val LQ) (R := val LU) HY0.out (by rw [HVD.out, HAD.out]; exact HAA.out) (by rw [HVD.out]; exact hlt)
      have c1 := trim_any hoq (by rw [HLQ.out]; omega)
      rw [hend.1, HLQ.out] at c1
      have c2 := trim_any hou (by rw [HLU.out]; omega)
      rw [HLU.out] at c2
      have HC1 : Hid _ := c1
      have HC2 : Hid _ := c2
      have HBw : Hid _ := hbw
      have HEnd : Hid _ := hend.2
      clear hlt hend c1 c2 hoq hou hrv hbw
      go_wp2_with fail
      refine Calls.mono HC1.out ?_
      rintro e w' ⟨rfl, ho1, hw'⟩
      have hw' := hw'.symm
      subst hw'
      have HO1 : Hid _ := ho1
      clear ho1
      go_wp2_with fail
      refine Calls.mono HC2.out ?_
      rintro e w' ⟨rfl, ho2, hw'⟩
      have hw' := hw'.symm
      subst hw'
      have hlen2 : (words (val LU)).length ≤ la + 1 := words_length_le (by have := val_lt (words_dig (val LU)); have h3 := HLU.out; exact Nat.lt_of_lt_of_le (words_lt (val LU)) (pw_le (by
        have h4 := ho2.caps
        omega)))
      have c3 := shiftDown_any (la + 1) up ho2.rd (by omega) (by omega)
      rw [HEnd.out] at c3
      have HC3 : Hid _ := c3
      clear ho2 c3 HC1 HC2
      go_wp2_with fail
      refine Calls.mono HC3.out ?_
      rintro e w7 ⟨ro, rc, rfl, ho7, b7⟩
      have HO7 : Hid _ := ho7.lower HBw.out.size
      have HO1' : Hid _ := HO1.out.below b7
      have HB7 : Hid _ := chain2 HBw.out b7
      clear ho7 b7 HC3
      go_wp2
      go_ret2
      exact ⟨_, _, _, _, rfl, HO1'.out, HO7.out, HB7.out⟩
end Go.Proofs.Yteghiinbafbokaa
namespace Go.Proofs.Yteghiinbafbokaa
open Go.RowKit
set_option linter.unusedVariables false
set_option linter.unusedSimpArgs false

theorem divide_any {w : World} {ao bo : Option Addr} {x y : Nat} (ca cb : Nat) (ha : Rd w ao (words x)) (hb : Rd w bo (words y)) (hx : (words x).length ≤ 90000) (hy : (words y).length ≤ 90000) (hnil : ao = none → ca = 0) (hy0 : y ≠ 0) :
    Calls Try.prog 105 #[.slice ao (words x).length ca, .slice bo (words y).length cb] w (Row2 w (words (x / y)) (words (x % y))) := by
  by_cases hxy : x < y
  · exact divide_less ca cb ha hb hx hy hnil hxy
  · by_cases h1 : (words y).length = 1
    · exact divide_word ca cb ha hb hx h1 hnil hxy
    · refine divide_long ca cb ha hb hx ?_ hxy
      have : (words y).length ≠ 0 := fun e => hy0 (words_eq_nil.1 (List.length_eq_zero_iff.1 e))
      omega

/-- A quotient, what is left, and an error's number. -/
def divS (a b : List Nat) : List Nat × List Nat × Int :=
  if sound a && sound b then (if b.length = 0 then ([], [], 3) else (words (val a / val b), words (val a % val b), 0)) else ([], [], 2)
def Ans3 (w : World) (r : List Nat × List Nat × Int) (e : Ending) (w' : World) : Prop :=
  ∃ qo qc ro rc, e = .returned (.tuple #[.slice qo r.1.length qc, .slice ro r.2.1.length rc, .int .i64 r.2.2]) ∧ Own w.heap.size w' qo qc r.1 ∧ Own w.heap.size w' ro rc r.2.1 ∧ Below w.heap.size w w'
theorem Ans3.none (w : World) (k : Int) : Ans3 w ([], [], k) (.returned (.tuple #[.slice .none 0 0, .slice .none 0 0, .int .i64 k])) w :=
  ⟨.none, 0, .none, 0, rfl, Own.nil _ _, Own.nil _ _, Below.refl _ _⟩

end Go.Proofs.Yteghiinbafbokaa
namespace Go.Proofs.Yteghiinbafbokaa
open Go.RowKit
set_option linter.unusedVariables false
set_option linter.unusedSimpArgs false

theorem amgm (a b : Nat) : 4 * (a * b) ≤ (a + b) * (a + b) := by
  have key : ∀ a d : Nat, 4 * (a * (a + d)) ≤ (a + (a + d)) * (a + (a + d)) := by
    intro a d
    have e1 : (a + (a + d)) * (a + (a + d)) = 4 * (a * (a + d)) + d * d := by
      simp only [Nat.mul_add, Nat.add_mul]
      have : a * d = d * a := Nat.mul_comm _ _
      omega
    omega
  rcases Nat.le_total a b with h | h
  · obtain ⟨d, rfl⟩ := Nat.exists_eq_add_of_le h
    exact key a d
  · obtain ⟨d, rfl⟩ := Nat.exists_eq_add_of_le h
    have := key b d
    rw [Nat.mul_comm (b + d) b, Nat.add_comm (b + d) b]
    exact this
theorem newton_keep {x S : Nat} (hS : 0 < S) : x < ((S + x / S) / 2 + 1) * ((S + x / S) / 2 + 1) := by
  have h1 : x < S * (x / S + 1) := Nat.lt_mul_div_succ x hS
  generalize x / S = q at *
  obtain ⟨t, ht⟩ : ∃ t, (S + q) / 2 + 1 = t := ⟨_, rfl⟩
  rw [ht]
  have h2 : S + (q + 1) ≤ 2 * t := by omega
  have h3 := amgm S (q + 1)
  have h4 : (S + (q + 1)) * (S + (q + 1)) ≤ (2 * t) * (2 * t) := Nat.mul_le_mul h2 h2
  have h5 : (2 * t) * (2 * t) = 4 * (t * t) := by
    rw [Nat.mul_mul_mul_comm]
  omega
theorem newton_stop {x S : Nat} (h : S ≤ (S + x / S) / 2) : S * S ≤ x := by
  have h1 : S ≤ x / S := by omega
  have h2 : S * S ≤ S * (x / S) := Nat.mul_le_mul_left _ h1
  have h3 := Nat.mul_div_le x S
  omega
theorem newton_start (x : Nat) : x < (2 ^ ((bl x + 1) / 2) + 1) * (2 ^ ((bl x + 1) / 2) + 1) := by
  have h1 := lt_bl x
  have h2 : 2 ^ bl x ≤ 2 ^ ((bl x + 1) / 2 + (bl x + 1) / 2) := Nat.pow_le_pow_right (by omega) (by omega)
  rw [Nat.pow_add] at h2
  have h3 : 2 ^ ((bl x + 1) / 2) * 2 ^ ((bl x + 1) / 2) ≤ (2 ^ ((bl x + 1) / 2) + 1) * (2 ^ ((bl x + 1) / 2) + 1) := Nat.mul_le_mul (by omega) (by omega)
  omega
theorem root_unique {x s t : Nat} (h1 : s * s ≤ x) (h2 : x < (s + 1) * (s + 1)) (h3 : t * t ≤ x) (h4 : x < (t + 1) * (t + 1)) : s = t := by
  have key : ∀ {a b : Nat}, a * a ≤ x → x < (b + 1) * (b + 1) → a ≤ b := by
    intro a b ha hb
    apply Classical.byContradiction
    intro h
    have : (b + 1) * (b + 1) ≤ a * a := Nat.mul_le_mul (by omega) (by omega)
    omega
  have := key h1 h4
  have := key h3 h2
  omega
theorem bl_len {x n : Nat} (h : (words x).length ≤ n) : bl x ≤ 32 * n := bl_le.2 (by rw [← pw_two]; exact words_length_iff.1 h)
theorem len_two {S k : Nat} (h : S ≤ 2 ^ k) : (words S).length ≤ k / 32 + 1 := by
  apply words_length_le
  rw [pw_two]
  exact Nat.lt_of_le_of_lt h (Nat.pow_lt_pow_right (by omega) (by omega))

end Go.Proofs.Yteghiinbafbokaa
namespace Go.Proofs.Yteghiinbafbokaa
set_option linter.unusedVariables false
set_option linter.unusedSimpArgs false

/-- A pair x, y of Euclid's, by its weights: z tells on which side they are. -/
def Pair (A B p q r s X Y : Nat) (z : Bool) : Prop :=
  (z = true → X + p * A = q * B ∧ Y + s * B = r * A) ∧ (z = false → X + q * B = p * A ∧ Y + r * A = s * B)

/-- What is kept from step to step: a, b the pair of the top bits, (p, q), (r, s), (u, v) the weights of the pair ahead, of this one's first and of its second. -/
structure Sure (A B a0 b0 : Nat) (a b p q r s u v : Nat) (z : Bool) : Prop where
  le : b ≤ a
  ga : a * v + b * s = a0
  gb : a * u + b * r = b0
  uv : u ≤ v
  sv : s ≤ v
  v1 : 1 ≤ v
  ru : r + u ≤ s + v
  top : (z = true → a + s * b0 = r * a0 ∧ b + u * a0 = v * b0) ∧ (z = false → a + r * a0 = s * b0 ∧ b + v * b0 = u * a0)
  big : (p = 0 ∧ q = 0 ∧ r = 1 ∧ s = 0 ∧ u = 0 ∧ v = 1 ∧ z = true) ∨
    ∃ X Y t, 1 ≤ t ∧ u = p + t * r ∧ v = q + t * s ∧ Y ≤ X ∧ X ≤ A ∧ Nat.gcd X Y = Nat.gcd A B ∧ Pair A B p q r s X Y z ∧ (q = 0 ∨ X + Y ≤ A)

theorem sure_start {A B a0 b0 : Nat} (h : b0 ≤ a0) : Sure A B a0 b0 a0 b0 0 0 1 0 0 1 true := by
  refine ⟨h, by omega, by omega, by omega, by omega, by omega, by omega, ⟨fun _ => by omega, fun h => by cases h⟩, .inl ⟨rfl, rfl, rfl, rfl, rfl, rfl, rfl⟩⟩

theorem mul_le_T {x y : Nat} {T : Nat} (h : y ≤ T) : x * y ≤ x * T := Nat.mul_le_mul_left _ h

/-- The whole numbers' next pair: it is not below 0, and in order. -/
theorem next_pair {A B T a0 b0 al be a b r s u v : Nat} (hA : A = a0 * T + al) (hB : B = b0 * T + be) (hal : al < T) (hbe : be < T)
    (hu : u ≤ v) (hru : r + u ≤ s + v) (hb : v ≤ b) (hab : b + (s + v) ≤ a) (z : Bool)
    (top : (z = true → a + s * b0 = r * a0 ∧ b + u * a0 = v * b0) ∧ (z = false → a + r * a0 = s * b0 ∧ b + v * b0 = u * a0)) :
    ∃ Y N, N ≤ Y ∧ (z = true → Y + s * B = r * A ∧ N + u * A = v * B) ∧ (z = false → Y + r * A = s * B ∧ N + v * B = u * A) := by
  have dA : ∀ k, k * A = k * a0 * T + k * al := by intro k; rw [hA, Nat.mul_add, Nat.mul_assoc]
  have dB : ∀ k, k * B = k * b0 * T + k * be := by intro k; rw [hB, Nat.mul_add, Nat.mul_assoc]
  have e1 : b * T + (s + v) * T ≤ a * T := by rw [← Nat.add_mul]; exact Nat.mul_le_mul_right _ hab
  have e2 : v * T ≤ b * T := Nat.mul_le_mul_right _ hb
  have e3 : u * T ≤ v * T := Nat.mul_le_mul_right _ hu
  have e4 : (r + u) * T ≤ (s + v) * T := Nat.mul_le_mul_right _ hru
  rw [Nat.add_mul] at e1 e4
  rw [Nat.add_mul] at e4
  have l1 : s * be ≤ s * T := mul_le_T (by omega)
  have l2 : v * be ≤ v * T := mul_le_T (by omega)
  have l3 : r * al ≤ r * T := mul_le_T (by omega)
  have l4 : u * al ≤ u * T := mul_le_T (by omega)
  cases z with
  | true =>
    obtain ⟨t1, t2⟩ := top.1 rfl
    have f1 : a * T + s * b0 * T = r * a0 * T := by rw [← Nat.add_mul, t1]
    have f2 : b * T + u * a0 * T = v * b0 * T := by rw [← Nat.add_mul, t2]
    refine ⟨r * A - s * B, v * B - u * A, ?_, fun _ => ?_, fun h => by cases h⟩
    · rw [dA, dB, dA, dB]; omega
    · rw [dA, dB, dA, dB]; omega
  | false =>
    obtain ⟨t1, t2⟩ := top.2 rfl
    have f1 : a * T + r * a0 * T = s * b0 * T := by rw [← Nat.add_mul, t1]
    have f2 : b * T + v * b0 * T = u * a0 * T := by rw [← Nat.add_mul, t2]
    refine ⟨s * B - r * A, u * A - v * B, ?_, fun h => (by cases h), fun _ => ?_⟩
    · rw [dA, dB, dA, dB]; omega
    · rw [dA, dB, dA, dB]; omega

theorem sure_bounds {A B a0 b0 a b p q r s u v : Nat} {z : Bool} (h : Sure A B a0 b0 a b p q r s u v z) (hb : v ≤ b) (ha : a0 < 18446744073709551616) :
    v < 4294967296 ∧ s < 4294967296 := by
  have h1 : v * v ≤ a * v := Nat.mul_le_mul_right _ (Nat.le_trans hb h.le)
  have h2 := h.ga
  have h3 : v < 4294967296 := by
    apply Classical.byContradiction
    intro hn
    have : 4294967296 * 4294967296 ≤ v * v := Nat.mul_le_mul (by omega) (by omega)
    omega
  have := h.sv
  omega

theorem sure_step {A B T a0 b0 al be a b p q r s u v : Nat} {z : Bool} (hA : A = a0 * T + al) (hB : B = b0 * T + be) (hal : al < T) (hbe : be < T) (hBA : B ≤ A)
    (ha : a0 < 18446744073709551616) (hb0 : b0 ≤ a0)
    (h : Sure A B a0 b0 a b p q r s u v z) (hb : v ≤ b) (hab : b + (s + v) ≤ a) :
    Sure A B a0 b0 b (a % b) r s u v (r + a / b * u) (s + a / b * v) (!z) ∧ s + a / b * v < 18446744073709551616 ∧ r + a / b * u < 18446744073709551616 := by
  have hv1 := h.v1
  have hbp : 0 < b := by omega
  have hq1 : 1 ≤ a / b := (Nat.le_div_iff_mul_le hbp).2 (by have := h.le; omega)
  have hdm := Nat.div_add_mod a b
  have hmod := Nat.mod_lt a hbp
  obtain ⟨Y, N, hNY, y1, y2⟩ := next_pair hA hB hal hbe h.uv h.ru hb hab z h.top
  obtain ⟨Q, hQ⟩ : ∃ Q, a / b = Q := ⟨_, rfl⟩
  obtain ⟨R, hR⟩ : ∃ R, a % b = R := ⟨_, rfl⟩
  rw [hQ] at hq1 hdm ⊢
  rw [hR] at hdm hmod ⊢
  have ga : b * (s + Q * v) + R * v = a0 := by
    have := h.ga
    rw [← this, ← hdm, Nat.add_mul, Nat.mul_add, Nat.mul_assoc]
    omega
  have gb : b * (r + Q * u) + R * u = b0 := by
    have := h.gb
    rw [← this, ← hdm, Nat.add_mul, Nat.mul_add, Nat.mul_assoc]
    omega
  have b1 : 1 * (s + Q * v) ≤ b * (s + Q * v) := Nat.mul_le_mul_right _ hbp
  have b2 : 1 * (r + Q * u) ≤ b * (r + Q * u) := Nat.mul_le_mul_right _ hbp
  obtain ⟨m, hm⟩ : ∃ m, Q = m + 1 := ⟨Q - 1, by omega⟩
  have m1 : Q * v = m * v + v := by rw [hm, Nat.succ_mul]
  have m2 : Q * u = m * u + u := by rw [hm, Nat.succ_mul]
  have m3 : m * u ≤ m * v := Nat.mul_le_mul_left _ h.uv
  have huv := h.uv
  have hru := h.ru
  refine ⟨⟨by omega, ga, gb, by omega, by omega, by omega, by omega, ?_, ?_⟩, by omega, by omega⟩
  · have d : ∀ k c d : Nat, (c + Q * d) * k = c * k + Q * (d * k) := by intro k c d; rw [Nat.add_mul, Nat.mul_assoc]
    constructor
    · intro hz
      have hz' : z = false := by cases z <;> simp_all
      obtain ⟨t1, t2⟩ := h.top.2 hz'
      refine ⟨t2, ?_⟩
      have t3 : Q * b + Q * (v * b0) = Q * (u * a0) := by rw [← Nat.mul_add, t2]
      rw [d, d]
      have e : b * Q = Q * b := Nat.mul_comm _ _
      omega
    · intro hz
      have hz' : z = true := by cases z <;> simp_all
      obtain ⟨t1, t2⟩ := h.top.1 hz'
      refine ⟨t2, ?_⟩
      have t3 : Q * b + Q * (u * a0) = Q * (v * b0) := by rw [← Nat.mul_add, t2]
      rw [d, d]
      have e : b * Q = Q * b := Nat.mul_comm _ _
      omega
  · right
    refine ⟨Y, N, Q, hq1, rfl, rfl, hNY, ?_⟩
    rcases h.big with ⟨rfl, rfl, rfl, rfl, rfl, rfl, rfl⟩ | ⟨X, Y', t, ht, rfl, rfl, hYX, hXA, hg, hp, hs⟩
    · obtain ⟨e1, e2⟩ := y1 rfl
      have eY : Y = A := by omega
      have eN : N = B := by omega
      subst eY eN
      exact ⟨Nat.le_refl _, rfl, ⟨fun h => (by cases h), fun _ => ⟨e1, e2⟩⟩, .inl rfl⟩
    · have d : ∀ k c d : Nat, (c + t * d) * k = c * k + t * (d * k) := by intro k c d; rw [Nat.add_mul, Nat.mul_assoc]
      have eY : Y = Y' := by
        cases z with
        | true =>
          have h1 := (y1 rfl).1
          have h2 := (hp.1 rfl).2
          omega
        | false =>
          have h1 := (y2 rfl).1
          have h2 := (hp.2 rfl).2
          omega
      subst eY
      have eN : N + t * Y = X := by
        cases z with
        | true =>
          have h1 := (y1 rfl).2
          obtain ⟨h2, h3⟩ := hp.1 rfl
          have h4 : t * Y + t * (s * B) = t * (r * A) := by rw [← Nat.mul_add, h3]
          rw [d, d] at h1
          omega
        | false =>
          have h1 := (y2 rfl).2
          obtain ⟨h2, h3⟩ := hp.2 rfl
          have h4 : t * Y + t * (r * A) = t * (s * B) := by rw [← Nat.mul_add, h3]
          rw [d, d] at h1
          omega
      have hty : 1 * Y ≤ t * Y := Nat.mul_le_mul_right _ ht
      refine ⟨by omega, ?_, ?_, .inr (by omega)⟩
      · rw [← hg, ← eN, Nat.gcd_add_mul_right_left, Nat.gcd_comm]
      · constructor
        · intro hz
          have hz' : z = false := by cases z <;> simp_all
          exact y2 hz'
        · intro hz
          have hz' : z = true := by cases z <;> simp_all
          exact y1 hz'

/-- What the steps answer. -/
def Steps (A B p q r s : Nat) : Prop :=
  q = 0 ∨ ∃ X Y z, Y ≤ X ∧ X ≤ A ∧ Nat.gcd X Y = Nat.gcd A B ∧ Pair A B p q r s X Y z ∧ X + Y ≤ A
theorem sure_end {A B a0 b0 a b p q r s u v : Nat} {z : Bool} (h : Sure A B a0 b0 a b p q r s u v z) : Steps A B p q r s := by
  rcases h.big with ⟨_, rfl, _⟩ | ⟨X, Y, t, ht, _, _, hYX, hXA, hg, hp, hs⟩
  · exact .inl rfl
  · rcases hs with h | h
    · exact .inl h
    · exact .inr ⟨X, Y, z, hYX, hXA, hg, hp, h⟩

/-- How far two numbers are from each other. -/
def dist (x y : Nat) : Nat := (x - y) + (y - x)
theorem dist_ge {x y : Nat} (h : y ≤ x) : dist x y = x - y := by unfold dist; omega
theorem dist_lt {x y : Nat} (h : x < y) : dist x y = y - x := by unfold dist; omega
theorem pair_dist {A B p q r s X Y : Nat} {z : Bool} (h : Pair A B p q r s X Y z) : dist (p * A) (q * B) = X ∧ dist (r * A) (s * B) = Y := by
  unfold dist
  cases z with
  | true => have := h.1 rfl; omega
  | false => have := h.2 rfl; omega

/-! ### By halves and differences -/
theorem odd_cop {n : Nat} (h : n % 2 = 1) (k : Nat) : Nat.Coprime (2 ^ k) n := by
  apply Nat.Coprime.pow_left
  unfold Nat.Coprime
  rw [Nat.gcd_rec, h]
  decide
theorem gcd_odd_left {m n k : Nat} (h : n % 2 = 1) : Nat.gcd (m * 2 ^ k) n = Nat.gcd m n := by
  rw [Nat.mul_comm]
  exact Nat.Coprime.gcd_mul_left_cancel m (odd_cop h k)
theorem gcd_odd_right {m n k : Nat} (h : m % 2 = 1) : Nat.gcd m (n * 2 ^ k) = Nat.gcd m n := by
  rw [Nat.gcd_comm, gcd_odd_left h, Nat.gcd_comm]
/-- A number is its odd part times a power of 2. -/
theorem odd_part {x k : Nat} (h0 : x % 2 ^ k = 0) : x / 2 ^ k * 2 ^ k = x := Nat.div_mul_cancel (Nat.dvd_of_mod_eq_zero h0)
theorem gcd_twos {x y k i j : Nat} (hx : x % 2 ^ i = 0) (hy : y % 2 ^ j = 0) (hi : k ≤ i) (hj : k ≤ j) (hk : i = k ∨ j = k) (ox : x / 2 ^ i % 2 = 1) (oy : y / 2 ^ j % 2 = 1) :
    Nat.gcd x y = Nat.gcd (x / 2 ^ i) (y / 2 ^ j) * 2 ^ k := by
  have e1 := odd_part hx
  have e2 := odd_part hy
  have f1 : x = 2 ^ k * (x / 2 ^ i * 2 ^ (i - k)) := by
    rw [Nat.mul_left_comm, ← Nat.pow_add, show k + (i - k) = i by omega, e1]
  have f2 : y = 2 ^ k * (y / 2 ^ j * 2 ^ (j - k)) := by
    rw [Nat.mul_left_comm, ← Nat.pow_add, show k + (j - k) = j by omega, e2]
  generalize x / 2 ^ i = m at *
  generalize y / 2 ^ j = n at *
  rw [f1, f2, Nat.gcd_mul_left, Nat.mul_comm]
  congr 1
  rcases hk with h | h
  · rw [h, Nat.sub_self, Nat.pow_zero, Nat.mul_one, gcd_odd_right ox]
  · rw [h, Nat.sub_self, Nat.pow_zero, Nat.mul_one, gcd_odd_left oy]
theorem gcd_less {x y k : Nat} (h : y ≤ x) (oy : y % 2 = 1) (hk : (x - y) % 2 ^ k = 0) : Nat.gcd ((x - y) / 2 ^ k) y = Nat.gcd x y := by
  have e := odd_part hk
  rw [← gcd_odd_left (k := k) oy, e, Nat.gcd_sub_self_left h]
/-- One nought more at the low end. -/
theorem mod_two_succ {x i : Nat} (h : x % 2 ^ i = 0) (hb : x / 2 ^ i % 2 = 0) : x % 2 ^ (i + 1) = 0 := by
  rw [Nat.pow_succ, Nat.mod_mul, h, hb, Nat.mul_zero]
theorem low_bound {x i : Nat} (h : x % 2 ^ i = 0) (h0 : x ≠ 0) : 2 ^ i ≤ x := Nat.le_of_dvd (by omega) (Nat.dvd_of_mod_eq_zero h)
end Go.Proofs.Yteghiinbafbokaa
namespace Go.Proofs.Yteghiinbafbokaa
open Go.RowKit
set_option linter.unusedVariables false
set_option linter.unusedSimpArgs false

theorem window_math {y r d0 d1 d2 : Nat} (hr : r < 32) (h0 : d0 = y % 4294967296) (h1 : d1 = y / 4294967296 % 4294967296) (h2 : d2 = y / 18446744073709551616 % 4294967296) (hy : y / 2 ^ r < 18446744073709551616) :
    d2 * 2 ^ (64 - r) < 18446744073709551616 ∧ ((d1 * 4294967296 + d0) / 2 ^ r ||| d2 * 2 ^ (64 - r)) = y / 2 ^ r := by
  have p : 0 < 2 ^ r := Nat.pow_pos (by omega)
  have e64 : 2 ^ (64 - r) * 2 ^ r = 18446744073709551616 := by rw [← Nat.pow_add, show 64 - r + r = 64 by omega]
  have hr32 : 2 ^ r ≤ 2147483648 := by
    have : 2 ^ r ≤ 2 ^ 31 := Nat.pow_le_pow_right (by omega) (by omega)
    exact this
  have hy2 : y < 18446744073709551616 * 2 ^ r := (Nat.div_lt_iff_lt_mul p).1 hy
  have hq : y / 18446744073709551616 < 2 ^ r := by
    rw [Nat.div_lt_iff_lt_mul (by omega), Nat.mul_comm]
    exact hy2
  have e2 : d2 = y / 18446744073709551616 := by rw [h2]; omega
  have hlow : d1 * 4294967296 + d0 = y % 18446744073709551616 := by omega
  have hsplit : y = d2 * 18446744073709551616 + (d1 * 4294967296 + d0) := by rw [e2, hlow]; omega
  obtain ⟨low, hl⟩ : ∃ low, d1 * 4294967296 + d0 = low := ⟨_, rfl⟩
  rw [hl] at hsplit hlow ⊢
  have hl64 : low < 18446744073709551616 := by omega
  have e3 : y / 2 ^ r = d2 * 2 ^ (64 - r) + low / 2 ^ r := by
    rw [hsplit, ← e64, ← Nat.mul_assoc, Nat.add_comm, Nat.add_mul_div_right _ _ p, Nat.add_comm]
  have hl2 : low / 2 ^ r < 2 ^ (64 - r) := by
    rw [Nat.div_lt_iff_lt_mul p, e64]
    exact hl64
  have hlt : d2 * 2 ^ (64 - r) < 18446744073709551616 := by
    rw [e3] at hy
    exact Nat.lt_of_le_of_lt (Nat.le_add_right _ _) hy
  refine ⟨hlt, ?_⟩
  rw [Nat.or_comm, or_add d2 _ (64 - r) hl2, e3]

set_option maxHeartbeats 1000000 in
set_option maxRecDepth 1000000 in
theorem window_any {w : World} {ao : Option Addr} {x : Nat} (ca k : Nat) (ha : Rd w ao (words x)) (hx : (words x).length ≤ 100000) (hk : k ≤ 10000000) (hw : x / 2 ^ k < 18446744073709551616) :
    Calls Try.prog 108 #[.slice ao (words x).length ca, .int .i64 (k : Int)] w fun e w' => e = .returned (.int .u64 ((x / 2 ^ k : Nat) : Int)) ∧ Below w.heap.size w w' := by
  obtain ⟨W, hW⟩ : ∃ W, k / 32 = W := ⟨_, rfl⟩
  obtain ⟨r, hr⟩ : ∃ r, k % 32 = r := ⟨_, rfl⟩
  have hr32 : r < 32 := by omega
  have hWk : W ≤ 1000000 := by omega
  have e1 : (k : Int) / 32 = (W : Int) := by omega
  have e2 : (k : Int) % 32 = (r : Int) := by omega
  have hxk : x / 2 ^ k = x / pw W / 2 ^ r := by
    rw [Nat.div_div_eq_div_mul, pw_two, ← Nat.pow_add]
    congr 2
    omega
  have c0 := wordAt_any ca W ha
  have c1 := wordAt_any ca (W + 1) ha
  have c2 := wordAt_any ca (W + 2) ha
  have d0 := (words_dig x).getD W
  have d1 := (words_dig x).getD (W + 1)
  have d2 := (words_dig x).getD (W + 2)
  rw [words_getD] at c0 c1 c2 d0 d1 d2
  rw [pw_succ, Nat.mul_comm, ← Nat.div_div_eq_div_mul] at c1 d1
  rw [pw_succ, pw_succ, Nat.mul_comm 4294967296 (pw W), Nat.mul_comm, ← Nat.div_div_eq_div_mul, ← Nat.div_div_eq_div_mul, Nat.div_div_eq_div_mul _ 4294967296 4294967296] at c2 d2
  rw [hxk] at hw ⊢
  generalize x / pw W = y at *
  obtain ⟨p0, q0⟩ : ∃ p, p = y % 4294967296 := ⟨_, rfl⟩
  obtain ⟨p1, q1⟩ : ∃ p, p = y / 4294967296 % 4294967296 := ⟨_, rfl⟩
  obtain ⟨p2, q2⟩ : ∃ p, p = y / (4294967296 * 4294967296) % 4294967296 := ⟨_, rfl⟩
  rw [← q0] at c0 d0
  rw [← q1] at c1 d1
  rw [← q2] at c2 d2
  obtain ⟨m1, m2⟩ := window_math hr32 q0 q1 q2 hw
  rw [← m2]
  simp only [Int.natCast_add, Int.cast_ofNat_Int] at c1 c2
  obtain ⟨n, HN⟩ : ∃ n, Hid ((words x).length = n) := ⟨_, rfl⟩
  rw [HN.out] at c0 c1 c2 ⊢
  have hor := or_u64 (p1 * 4294967296) p0 (by omega) (by omega)
  rw [or_two p1 p0 d0] at hor
  simp only [Int.natCast_mul, Int.cast_ofNat_Int] at hor
  obtain ⟨low, hl⟩ : ∃ low, p1 * 4294967296 + p0 = low := ⟨_, rfl⟩
  rw [hl] at hor ⊢
  have hlow : low < 18446744073709551616 := by omega
  have HC0 : Hid _ := c0
  have HC1 : Hid _ := c1
  have HC2 : Hid _ := c2
  have HF : Hid (bits BinOp.or IntKind.u64 ((low : Int) / 2 ^ r) (IntKind.u64.wrap ((p2 : Int) * 2 ^ (64 - r))) = ((low / 2 ^ r ||| p2 * 2 ^ (64 - r) : Nat) : Int)) := by
    show bits BinOp.or IntKind.u64 ((low : Int) / 2 ^ r) (IntKind.u64.wrap ((p2 : Int) * 2 ^ (64 - r))) = ((low / 2 ^ r ||| p2 * 2 ^ (64 - r) : Nat) : Int)
    have f1 : (low : Int) / 2 ^ r = ((low / 2 ^ r : Nat) : Int) := by rw [Int.natCast_ediv, Int.natCast_pow]; rfl
    have f2 : (p2 : Int) * 2 ^ (64 - r) = ((p2 * 2 ^ (64 - r) : Nat) : Int) := by rw [Int.natCast_mul, Int.natCast_pow]; rfl
    rw [f1, f2, wrap_u64 _ m1, or_u64 _ _ (Nat.lt_of_le_of_lt (Nat.div_le_self _ _) hlow) m1]
  clear c0 c1 c2 q0 q1 q2 m2 hw hxk ha hW hr hl
  go_enter Try.func108, Try.ntmps108
  go_wp2_with fail
  refine Calls.mono HC1.out ?_
  rintro e w' ⟨rfl, hw'⟩
  have hw' := hw'.symm
  subst hw'
  go_wp2_with fail
  refine Calls.mono HC0.out ?_
  rintro e w' ⟨rfl, hw'⟩
  have hw' := hw'.symm
  subst hw'
  go_wp2_with fail
  refine Calls.mono HC2.out ?_
  rintro e w' ⟨rfl, hw'⟩
  have hw' := hw'.symm
  subst hw'
  clear HC0 HC1 HC2
  go_wp2
  go_region
  all_goals go_wp2
  all_goals go_ret
  all_goals (refine ⟨?_, by (repeat apply Below.drew); exact Below.refl _ _⟩; rw [← HF.out]; rfl)

set_option maxHeartbeats 1000000 in
set_option maxRecDepth 1000000 in
theorem short_any {w : World} {ao : Option Addr} {x : Nat} (ca : Nat) (ha : Rd w ao (words x)) (hx : (words x).length ≤ 2) :
    Calls Try.prog 106 #[.slice ao (words x).length ca] w fun e w' => e = .returned (.int .u64 (x : Int)) ∧ w' = w := by
  have c0 := wordAt_any ca 0 ha
  have c1 := wordAt_any ca 1 ha
  have d0 := (words_dig x).getD 0
  have d1 := (words_dig x).getD 1
  have hxl := words_length_iff.1 hx
  rw [words_getD] at c0 c1 d0 d1
  rw [pw_zero, Nat.div_one] at c0 d0
  rw [show pw 1 = 4294967296 from rfl] at c1 d1
  rw [show pw 2 = 18446744073709551616 from rfl] at hxl
  have e : x = x / 4294967296 % 4294967296 * 4294967296 + x % 4294967296 := by omega
  obtain ⟨p0, q0⟩ : ∃ p, x % 4294967296 = p := ⟨_, rfl⟩
  obtain ⟨p1, q1⟩ : ∃ p, x / 4294967296 % 4294967296 = p := ⟨_, rfl⟩
  rw [q0] at c0 d0 e
  rw [q1] at c1 d1 e
  obtain ⟨n, HN⟩ : ∃ n, Hid ((words x).length = n) := ⟨_, rfl⟩
  rw [HN.out] at c0 c1 ⊢
  have hor := or_u64 (p1 * 4294967296) p0 (by omega) (by omega)
  rw [or_two p1 p0 d0, ← e] at hor
  simp only [Int.natCast_mul, Int.cast_ofNat_Int] at hor
  simp only [Int.cast_ofNat_Int] at c0 c1
  have HC0 : Hid _ := c0
  have HC1 : Hid _ := c1
  clear c0 c1 q0 q1 e ha hx
  go_enter Try.func106, Try.ntmps106
  go_wp2_with fail
  refine Calls.mono HC1.out ?_
  rintro e w' ⟨rfl, hw'⟩
  have hw' := hw'.symm
  subst hw'
  go_wp2_with fail
  refine Calls.mono HC0.out ?_
  rintro e w' ⟨rfl, hw'⟩
  have hw' := hw'.symm
  subst hw'
  clear HC0 HC1
  go_wp2
  go_ret
  exact ⟨rfl, rfl⟩
end Go.Proofs.Yteghiinbafbokaa
namespace Go.Proofs.Yteghiinbafbokaa
open Go.RowKit
set_option linter.unusedVariables false
set_option linter.unusedSimpArgs false

theorem results_cell1 {fn : Func} {p : Tmp} {ty : TypeId} (h : fn.results = #[.cell p ty]) (tmps : Array Value) (P : Program) (w : World) :
    (results fn tmps).run P w = ((asAddr (tmps.getD p undef)).run P w).andThen fun a w₁ => (loadVar ty a).run P w₁ := by
  simp only [results, h]
  simp [Sem.run_bind, Result.andThen]

/-- Four numbers in a block of the call's own. -/
structure Four (w : World) (g p q r s : Nat) : Prop where
  c0 : w.cell? ⟨g, 0, none⟩ = some (.int .u64 (p : Int))
  c1 : w.cell? ⟨g, 1, none⟩ = some (.int .u64 (q : Int))
  c2 : w.cell? ⟨g, 2, none⟩ = some (.int .u64 (r : Int))
  c3 : w.cell? ⟨g, 3, none⟩ = some (.int .u64 (s : Int))
  f0 : w.frozen? ⟨g, 0, none⟩ = false
  f1 : w.frozen? ⟨g, 1, none⟩ = false
  f2 : w.frozen? ⟨g, 2, none⟩ = false
  f3 : w.frozen? ⟨g, 3, none⟩ = false

theorem Four.step {w : World} {g p q r s : Nat} (h : Four w g p q r s) (u v : Nat) :
    Four ((((w.setCell ⟨g, 0, none⟩ (.int .u64 (r : Int))).setCell ⟨g, 2, none⟩ (.int .u64 (u : Int))).setCell ⟨g, 1, none⟩ (.int .u64 (s : Int))).setCell ⟨g, 3, none⟩ (.int .u64 (v : Int))).drew g r s u v := by
  obtain ⟨k0, k1, k2, k3, g0, g1, g2, g3⟩ := h
  exact ⟨by go_cell, by go_cell, by go_cell, by go_cell, by go_cell, by go_cell, by go_cell, by go_cell⟩
theorem Four.far {w : World} {g p q r s g' : Nat} (h : Four w g p q r s) (hne : g' ≠ g) (j : Nat) (x : Value) : Four (w.setCell ⟨g', j, none⟩ x) g p q r s := by
  have e : ∀ i, (w.setCell ⟨g', j, none⟩ x).cell? ⟨g, i, none⟩ = w.cell? ⟨g, i, none⟩ := fun i => World.cell?_setCell_other _ _ _ _ (by intro e; cases e; exact hne rfl)
  have e2 : ∀ i, (w.setCell ⟨g', j, none⟩ x).frozen? ⟨g, i, none⟩ = w.frozen? ⟨g, i, none⟩ := fun i => by go_cell
  exact ⟨(e 0).trans h.c0, (e 1).trans h.c1, (e 2).trans h.c2, (e 3).trans h.c3, (e2 0).trans h.f0, (e2 1).trans h.f1, (e2 2).trans h.f2, (e2 3).trans h.f3⟩
theorem Four.drew {w : World} {g p q r s : Nat} (h : Four w g p q r s) : Four w.drew g p q r s := ⟨h.c0, h.c1, h.c2, h.c3, h.f0, h.f1, h.f2, h.f3⟩
theorem Four.new (w : World) (p q r s : Nat) (t : TypeId) : Four (w.alloc (.cells #[.int .u64 (p : Int), .int .u64 (q : Int), .int .u64 (r : Int), .int .u64 (s : Int)] t)) w.heap.size p q r s := by
  exact ⟨by go_cell, by go_cell, by go_cell, by go_cell, by go_cell, by go_cell, by go_cell, by go_cell⟩
theorem Four.alloc {w : World} {g p q r s : Nat} (h : Four w g p q r s) (o : Obj) : Four (w.alloc o) g p q r s := by
  have hg : g < w.heap.size := cell_lt h.c0
  exact ⟨(World.cell?_alloc_past o g 0 hg).trans h.c0, (World.cell?_alloc_past o g 1 hg).trans h.c1, (World.cell?_alloc_past o g 2 hg).trans h.c2, (World.cell?_alloc_past o g 3 hg).trans h.c3, (World.frozen?_alloc_past o g 0 hg).trans h.f0, (World.frozen?_alloc_past o g 1 hg).trans h.f1, (World.frozen?_alloc_past o g 2 hg).trans h.f2, (World.frozen?_alloc_past o g 3 hg).trans h.f3⟩

set_option maxHeartbeats 1000000 in
set_option maxRecDepth 1000000 in
theorem sureSteps_any {A B T a0 b0 al be : Nat} (w : World) (hA : A = a0 * T + al) (hB : B = b0 * T + be) (hal : al < T) (hbe : be < T) (hBA : B ≤ A) (ha : a0 < 18446744073709551616) (hb0 : b0 ≤ a0) :
    Calls Try.prog 107 #[.int .u64 (a0 : Int), .int .u64 (b0 : Int)] w fun e w' => ∃ p q r s : Nat, e = .returned (.agg #[.int .u64 (p : Int), .int .u64 (q : Int), .int .u64 (r : Int), .int .u64 (s : Int)]) ∧ (p < 18446744073709551616 ∧ q < 18446744073709551616 ∧ r < 18446744073709551616 ∧ s < 18446744073709551616) ∧ Steps A B p q r s ∧ Below w.heap.size w w' := by
  have HA : Hid _ := hA
  have HB : Hid _ := hB
  have HAL : Hid _ := hal
  have HBE : Hid _ := hbe
  have HBA : Hid _ := hBA
  clear hA hB hal hbe hBA
  go_enter Try.func107, Try.ntmps107
  go_wp2
  go_loopw [0, 1, 6, 7] (fun v0 v1 v6 v7 wr => ∃ (a b p q r s u v : Nat) (z : Bool), v0 = .int .u64 (a : Int) ∧ v1 = .int .u64 (b : Int) ∧ v6 = .int .u64 (u : Int) ∧ v7 = .int .u64 (v : Int) ∧ (a < 18446744073709551616 ∧ p < 18446744073709551616 ∧ q < 18446744073709551616 ∧ r < 18446744073709551616 ∧ s < 18446744073709551616 ∧ u < 18446744073709551616 ∧ v < 18446744073709551616) ∧ Sure A B a0 b0 a b p q r s u v z ∧ Four wr (w.heap.size + 1) p q r s ∧ (∃ p q r s, Four wr w.heap.size p q r s) ∧ Below w.heap.size w wr) (fun _ v1 _ _ _ => (intOf v1).toNat)
  case atStart =>
    refine ⟨a0, b0, 0, 0, 1, 0, 0, 1, true, rfl, rfl, rfl, rfl, by omega, sure_start hb0, ?_, ?_, ?_⟩
    · have h := Four.new (w.alloc (.cells #[.int .u64 0, .int .u64 0, .int .u64 0, .int .u64 0] 97)) 0 0 1 0 97
      simpa using h
    · exact ⟨0, 0, 0, 0, (Four.new w 0 0 0 0 97).alloc _⟩
    · have h1 : Below w.heap.size w (w.alloc (.cells #[.int .u64 0, .int .u64 0, .int .u64 0, .int .u64 0] 97)) := (Below.refl _ _).alloc (Nat.le_refl _) _
      exact h1.alloc h1.size _
  case round =>
    obtain ⟨a, b, p, q, r, s, u, v, z, rfl, rfl, rfl, rfl, ⟨la, lp, lq, lr, ls, lu, lv⟩, hS, hF, hF2, hbw⟩ := hrel
    have hle := hS.le
    by_cases hc1 : v ≤ b
    · obtain ⟨bv, bs⟩ := sure_bounds hS hc1 ha
      by_cases hc2 : b + (s + v) ≤ a
      · have hst := sure_step HA.out HB.out HAL.out HBE.out HBA.out ha hb0 hS hc1 hc2
        have hv1 := hS.v1
        have hdm : a / b ≤ a := Nat.div_le_self _ _
        obtain ⟨Q, hQ⟩ : ∃ Q, a / b = Q := ⟨_, rfl⟩
        obtain ⟨R, hR⟩ : ∃ R, a % b = R := ⟨_, rfl⟩
        have hmod : a % b < b := Nat.mod_lt _ (by omega)
        rw [hQ, hR] at hst
        rw [hQ] at hdm
        rw [hR] at hmod
        obtain ⟨hS', hb1, hb2⟩ := hst
        have HS' : Hid _ := hS'
        have m1 : (Q : Int) * (v : Int) = ((Q * v : Nat) : Int) := by rw [Int.natCast_mul]
        have m2 : (Q : Int) * (u : Int) = ((Q * u : Nat) : Int) := by rw [Int.natCast_mul]
        obtain ⟨qv, hqv⟩ : ∃ x, Q * v = x := ⟨_, rfl⟩
        obtain ⟨qu, hqu⟩ : ∃ x, Q * u = x := ⟨_, rfl⟩
        rw [hqv] at m1 hb1
        rw [hqu] at m2 hb2
        have t1 : (a : Int) / (b : Int) = (Q : Int) := by rw [← hQ, Int.natCast_ediv]
        have t2 : (a : Int) % (b : Int) = (R : Int) := by rw [← hR, Int.natCast_emod]
        have t3 : ((b : Int) == 0) = false := by simp; omega
        rw [hqv, hqu] at HS'
        have HFS : Hid _ := hF.step u v
        obtain ⟨k0, k1, k2, k3, g0, g1, g2, g3⟩ := hF
        have HF2 : Hid _ := hF2
        have HBW : Hid _ := hbw
        have hsz : w.heap.size ≤ wr.heap.size := hbw.size
        clear hF2 hbw hS hS' hqv hqu hQ hR
        go_wp2
        go_region
        all_goals go_wp2
        all_goals go_roundw
        case rel =>
          obtain ⟨p', q', r', s', hf2⟩ := HF2.out
          refine ⟨b, R, r, s, u, v, r + qu, s + qv, !z, rfl, by go_num, by go_num, by go_num, by omega, HS'.out, HFS.out, ⟨p', q', r', s', ((((hf2.far (by omega) _ _).far (by omega) _ _).far (by omega) _ _).far (by omega) _ _).drew⟩, ?_⟩
          exact ((((HBW.out.setCell (by show w.heap.size ≤ w.heap.size + 1; omega) _).setCell (by show w.heap.size ≤ w.heap.size + 1; omega) _).setCell (by show w.heap.size ≤ w.heap.size + 1; omega) _).setCell (by show w.heap.size ≤ w.heap.size + 1; omega) _).drew
        case measure => simp only [intOf]; omega
      · have HEnd : Hid _ := sure_end hS
        obtain ⟨k0, k1, k2, k3, g0, g1, g2, g3⟩ := hF
        obtain ⟨p', q', r', s', hf2⟩ := hF2
        obtain ⟨k0', k1', k2', k3', g0', g1', g2', g3'⟩ := hf2
        have HBW : Hid _ := hbw
        have hne : w.heap.size + 1 ≠ w.heap.size := by omega
        have HL : Hid (p < 18446744073709551616 ∧ q < 18446744073709551616 ∧ r < 18446744073709551616 ∧ s < 18446744073709551616) := ⟨lp, lq, lr, ls⟩
        clear hbw hS
        go_wp2
        try simp only [Exit.inBlock, Exit.then]
        refine bodyPost_ret (v := .agg #[.int .u64 (p : Int), .int .u64 (q : Int), .int .u64 (r : Int), .int .u64 (s : Int)]) ?_ rfl ⟨p, q, r, s, rfl, HL.out, HEnd.out, ?_⟩
        · rw [results_cell1 rfl]
          go_simp
        · exact (((HBW.out.setCell (Nat.le_refl _) _).setCell (Nat.le_refl _) _).setCell (Nat.le_refl _) _).setCell (Nat.le_refl _) _
    · have HEnd : Hid _ := sure_end hS
      obtain ⟨k0, k1, k2, k3, g0, g1, g2, g3⟩ := hF
      obtain ⟨p', q', r', s', hf2⟩ := hF2
      obtain ⟨k0', k1', k2', k3', g0', g1', g2', g3'⟩ := hf2
      have HBW : Hid _ := hbw
      have hne : w.heap.size + 1 ≠ w.heap.size := by omega
      have HL : Hid (p < 18446744073709551616 ∧ q < 18446744073709551616 ∧ r < 18446744073709551616 ∧ s < 18446744073709551616) := ⟨lp, lq, lr, ls⟩
      clear hbw hS
      go_wp2
      try simp only [Exit.inBlock, Exit.then]
      refine bodyPost_ret (v := .agg #[.int .u64 (p : Int), .int .u64 (q : Int), .int .u64 (r : Int), .int .u64 (s : Int)]) ?_ rfl ⟨p, q, r, s, rfl, HL.out, HEnd.out, ?_⟩
      · rw [results_cell1 rfl]
        go_simp
      · exact (((HBW.out.setCell (Nat.le_refl _) _).setCell (Nat.le_refl _) _).setCell (Nat.le_refl _) _).setCell (Nat.le_refl _) _
end Go.Proofs.Yteghiinbafbokaa
namespace Go.Proofs.Yteghiinbafbokaa
open Go.RowKit
set_option linter.unusedVariables false
set_option linter.unusedSimpArgs false

def bor (x y c : Nat) : Nat := if x < y + c then 1 else 0
def dif (x y c : Nat) : Nat := (x + 8589934592 - y - c) % 4294967296
theorem dif_eq {x y c : Nat} (hx : x < 4294967296) (hy : y < 4294967296) (hc : c ≤ 1) : dif x y c + y + c = x + 4294967296 * bor x y c := by
  unfold dif bor
  split <;> omega
theorem dif_lt (x y c : Nat) : dif x y c < 4294967296 := Nat.mod_lt _ (by omega)
theorem bor_le (x y c : Nat) : bor x y c ≤ 1 := by unfold bor; split <;> omega

set_option maxHeartbeats 1000000 in
set_option maxRecDepth 1000000 in
theorem sub32_any (x y c : Nat) (w : World) (hx : x < 4294967296) (hy : y < 4294967296) (hc : c ≤ 1) :
    Calls Try.prog 95 #[.int .u32 (x : Int), .int .u32 (y : Int), .int .u32 (c : Int)] w fun e w' => e = .returned (.tuple #[.int .u32 ((dif x y c : Nat) : Int), .int .u32 ((bor x y c : Nat) : Int)]) ∧ w' = w := by
  have e1 : ((x : Int) - y - c) % 4294967296 = ((dif x y c : Nat) : Int) := by unfold dif; omega
  have hd := dif_lt x y c
  have e2 : bits .or .u32 (bits .and .u32 (bits .xor .u32 IntKind.u32.max (x : Int)) (y : Int)) (bits .and .u32 (bits .xor .u32 IntKind.u32.max (bits .xor .u32 (x : Int) (y : Int))) (((x : Int) - y - c) % 4294967296)) / 2147483648 = ((bor x y c : Nat) : Int) := by
    have em : IntKind.u32.max = ((4294967295 : Nat) : Int) := rfl
    have l1 : 4294967295 ^^^ x < 4294967296 := Nat.xor_lt_two_pow (n := 32) (by omega) hx
    have l2 : x ^^^ y < 4294967296 := Nat.xor_lt_two_pow (n := 32) hx hy
    have l3 : 4294967295 ^^^ (x ^^^ y) < 4294967296 := Nat.xor_lt_two_pow (n := 32) (by omega) l2
    have l4 : (4294967295 ^^^ x) &&& y < 4294967296 := Nat.lt_of_le_of_lt Nat.and_le_right hy
    have l5 : (4294967295 ^^^ (x ^^^ y)) &&& dif x y c < 4294967296 := Nat.lt_of_le_of_lt Nat.and_le_right hd
    rw [e1, em, xor_u32 _ _ (by omega) hx, xor_u32 _ _ hx hy, xor_u32 _ _ (by omega) l2, and_u32 _ _ l1 hy, and_u32 _ _ l3 hd, or_u32 _ _ l4 l5]
    have := sub_borrow x y c (dif x y c) hx hy hc rfl
    unfold bor
    rw [← this]
    rfl
  have HE1 : Hid _ := e1
  have HE2 : Hid _ := e2
  clear e1 e2 hd
  go_enter Try.func95, Try.ntmps95
  go_wp2
  go_ret2
  refine ⟨?_, rfl⟩
  rw [← HE1.out, ← HE2.out]
  rfl

theorem diff_step (L a b : List Nat) (i c : Nat) (hi : i < L.length) (ha : Dig a) (hb : Dig b) (hc : c ≤ 1) (h : val (L.take i) + val (b.take i) = val (a.take i) + pw i * c) :
    val ((L.set i (dif (a.getD i 0) (b.getD i 0) c)).take (i + 1)) + val (b.take (i + 1)) = val (a.take (i + 1)) + pw (i + 1) * bor (a.getD i 0) (b.getD i 0) c := by
  rw [val_set_take L i _ hi, val_take_succ a, val_take_succ b, pw_succ]
  have e := dif_eq (ha.getD i) (hb.getD i) hc
  have e2 := congrArg (fun z => pw i * z) e
  simp only [Nat.mul_add] at e2
  have e3 : 4294967296 * pw i * bor (a.getD i 0) (b.getD i 0) c = pw i * (4294967296 * bor (a.getD i 0) (b.getD i 0) c) := by
    rw [Nat.mul_comm 4294967296 (pw i), Nat.mul_assoc]
  rw [e3]
  omega
theorem diff_end {v y x P c : Nat} (h : v + y = x + P * c) (hv : v < P) (hy : y ≤ x) : v = x - y := by
  have h3 : c = 0 := by
    apply Classical.byContradiction
    intro hc
    have : P * 1 ≤ P * c := Nat.mul_le_mul_left _ (by omega)
    omega
  subst h3
  omega

set_option maxHeartbeats 2000000 in
set_option maxRecDepth 1000000 in
theorem difference_any {w : World} {ao bo : Option Addr} {x y : Nat} (ca cb : Nat) (ha : Rd w ao (words x)) (hb : Rd w bo (words y)) (hx : (words x).length ≤ 100000) (hxy : y ≤ x) :
    Calls Try.prog 78 #[.slice ao (words x).length ca, .slice bo (words y).length cb] w (Row1 w (words (x - y))) := by
  have c0 := order_any ca cb ha hb (by omega) (by have := words_mono hxy; omega)
  obtain ⟨n, HX⟩ : ∃ n, Hid ((words x).length = n) := ⟨_, rfl⟩
  obtain ⟨m, HY⟩ : ∃ m, Hid ((words y).length = m) := ⟨_, rfl⟩
  have hmn : m ≤ n := by rw [← HX.out, ← HY.out]; exact words_mono hxy
  have HXY : Hid (y ≤ x) := hxy
  have hge : ¬ cmpN x y < 0 := by unfold cmpN; rw [if_neg (by omega)]; split <;> omega
  obtain ⟨kc, hkc⟩ : ∃ k, cmpN x y = k := ⟨_, rfl⟩
  rw [hkc] at c0 hge
  clear hkc
  rw [HX.out, HY.out] at c0
  rw [HX.out] at hx
  rw [HX.out, HY.out]
  have HA : Hid _ := ha
  have HRB : Hid _ := hb
  have HC0 : Hid _ := c0
  clear hxy ha hb c0
  have hmk := run_make_row' (P := Try.prog) 22 41 (.int .u32 0) 4 Try.underlying22 infoU rfl .i64 .i64 n (by omega) (by omega)
  go_enter Try.func78, Try.ntmps78
  go_wp2_with fail
  refine Calls.mono HC0.out ?_
  rintro e w1 ⟨rfl, b1⟩
  have HRA1 : Hid _ := HA.out.below b1
  have HRB1 : Hid _ := HRB.out.below b1
  have HB1 : Hid _ := b1
  clear b1 HC0
  go_wp2
  go_loopw [6, 19] (fun v6 v13 wr => ∃ (i c : Nat) (L : List Nat), i ≤ n ∧ v13 = .int .i64 (i : Int) ∧ v6 = .int .u32 (c : Int) ∧ c ≤ 1 ∧ L.length = n ∧ Own w1.heap.size wr (some ⟨w1.heap.size, 0, none⟩) n L ∧ Below w1.heap.size w1 wr ∧ val (L.take i) + val ((words y).take i) = val ((words x).take i) + pw i * c) (fun _ v13 _ => n - (intOf v13).toNat)
  case atStart => exact ⟨0, 0, List.replicate n 0, Nat.zero_le _, rfl, rfl, by omega, by simp, Own.made w1 n (by omega), (Below.refl _ w1).alloc (Nat.le_refl _) _, by simp [val]⟩
  case round =>
    obtain ⟨i, c, L, hi, rfl, rfl, hc, hL, hown, hbw, hv⟩ := hrel
    have HV : Hid _ := hv
    have HL : Hid _ := hL
    clear hv hL
    by_cases hin : i < n
    · have ha' := HRA1.out.below hbw
      have hb' := HRB1.out.below hbw
      obtain ⟨b1, o1, rfl, _, hc1⟩ := ha'.pos (by intro e; have := HX.out; rw [e] at this; simp at this; omega)
      have k0 := hc1 i (by rw [HX.out]; omega)
      have k1 := hown.cell i (by rw [HL.out]; omega)
      have k2 := hown.frozen i
      have c1 := wordAt_any cb i hb'.drew
      rw [HY.out] at c1
      have d1 := (words_dig x).getD i
      have d2 := (words_dig y).getD i
      have HS : Hid _ := diff_step L (words x) (words y) i c (by rw [HL.out]; omega) (words_dig x) (words_dig y) hc HV.out
      obtain ⟨s, hs⟩ : ∃ s, (words x).getD i 0 = s := ⟨_, rfl⟩
      obtain ⟨t, ht⟩ : ∃ t, (words y).getD i 0 = t := ⟨_, rfl⟩
      rw [hs] at k0 d1 HS
      rw [ht] at c1 d2 HS
      clear hs ht hc1 ha' hb'
      have c2 := sub32_any s t c wr.drew d1 d2 hc
      have hset := hown.set i (dif s t c) (dif_lt _ _ _)
      have hbw' := hbw.setCell (p := ⟨w1.heap.size, i, none⟩) (Nat.le_refl _) (.int .u32 ((dif s t c : Nat) : Int))
      have HC1 : Hid _ := c1
      have HC2 : Hid _ := c2
      have HSet : Hid _ := hset
      have HB : Hid _ := hbw'
      clear hset hbw' hown hbw c1 c2
      go_wp2_with fail
      go_region_with (first | (go_at_call 87; refine Calls.mono HC1.out ?_; rintro e w' ⟨rfl, rfl⟩) | (go_at_call 95; refine Calls.mono HC2.out ?_; rintro e w' ⟨rfl, rfl⟩))
      all_goals
        go_wp2
        go_roundw
        case rel => exact ⟨i + 1, bor s t c, L.set i (dif s t c), by omega, by go_num, rfl, bor_le _ _ _, by rw [List.length_set]; exact HL.out, HSet.out.drew, HB.out.drew, HS.out⟩
        case measure => simp [intOf]; omega
    · have e : i = n := by omega
      subst e
      have hval : val L = x - y := by
        have h1 := HV.out
        rw [List.take_of_length_le (by rw [HL.out]; omega), List.take_of_length_le (by rw [HY.out]; omega), List.take_of_length_le (by rw [HX.out]; omega), val_words, val_words] at h1
        have h2 := val_lt hown.dig
        rw [HL.out] at h2
        exact diff_end h1 h2 HXY.out
      have c1 := trim_any hown (by rw [HL.out]; omega)
      rw [hval, HL.out] at c1
      have HC : Hid _ := c1
      have HB : Hid _ := HB1.out.trans (hbw.mono HB1.out.size)
      clear hval c1 hown hbw
      go_wp2_with fail
      refine Calls.mono HC.out ?_
      rintro e w' ⟨rfl, ho, rfl⟩
      have HO : Hid _ := ho.lower HB1.out.size
      clear ho
      go_wp2
      go_ret
      exact ⟨_, _, rfl, HO.out, HB.out⟩

set_option maxHeartbeats 2000000 in
set_option maxRecDepth 1000000 in
theorem difference_lt {w : World} {ao bo : Option Addr} {x y : Nat} (ca cb : Nat) (ha : Rd w ao (words x)) (hb : Rd w bo (words y)) (hx : (words x).length ≤ 100000) (hxy : y < x) :
    Calls Try.prog 78 #[.slice bo (words y).length cb, .slice ao (words x).length ca] w (Row1 w (words (x - y))) := by
  have c0 := order_any cb ca hb ha (by have := words_mono (Nat.le_of_lt hxy); omega) (by omega)
  obtain ⟨n, HX⟩ : ∃ n, Hid ((words x).length = n) := ⟨_, rfl⟩
  obtain ⟨m, HY⟩ : ∃ m, Hid ((words y).length = m) := ⟨_, rfl⟩
  have hmn : m ≤ n := by rw [← HX.out, ← HY.out]; exact words_mono (Nat.le_of_lt hxy)
  have HXY : Hid (y ≤ x) := (Nat.le_of_lt hxy)
  have hlt : cmpN y x = -1 := by unfold cmpN; rw [if_pos hxy]
  rw [hlt] at c0
  clear hlt
  rw [HX.out, HY.out] at c0
  rw [HX.out] at hx
  rw [HX.out, HY.out]
  have HA : Hid _ := ha
  have HRB : Hid _ := hb
  have HC0 : Hid _ := c0
  clear hxy ha hb c0
  have hmk := run_make_row' (P := Try.prog) 22 41 (.int .u32 0) 4 Try.underlying22 infoU rfl .i64 .i64 n (by omega) (by omega)
  go_enter Try.func78, Try.ntmps78
  go_wp2_with fail
  refine Calls.mono HC0.out ?_
  rintro e w1 ⟨rfl, b1⟩
  have HRA1 : Hid _ := HA.out.below b1
  have HRB1 : Hid _ := HRB.out.below b1
  have HB1 : Hid _ := b1
  clear b1 HC0
  go_wp2
  go_loopw [6, 19] (fun v6 v13 wr => ∃ (i c : Nat) (L : List Nat), i ≤ n ∧ v13 = .int .i64 (i : Int) ∧ v6 = .int .u32 (c : Int) ∧ c ≤ 1 ∧ L.length = n ∧ Own w1.heap.size wr (some ⟨w1.heap.size, 0, none⟩) n L ∧ Below w1.heap.size w1 wr ∧ val (L.take i) + val ((words y).take i) = val ((words x).take i) + pw i * c) (fun _ v13 _ => n - (intOf v13).toNat)
  case atStart => exact ⟨0, 0, List.replicate n 0, Nat.zero_le _, rfl, rfl, by omega, by simp, Own.made w1 n (by omega), (Below.refl _ w1).alloc (Nat.le_refl _) _, by simp [val]⟩
  case round =>
    obtain ⟨i, c, L, hi, rfl, rfl, hc, hL, hown, hbw, hv⟩ := hrel
    have HV : Hid _ := hv
    have HL : Hid _ := hL
    clear hv hL
    by_cases hin : i < n
    · have ha' := HRA1.out.below hbw
      have hb' := HRB1.out.below hbw
      obtain ⟨b1, o1, rfl, _, hc1⟩ := ha'.pos (by intro e; have := HX.out; rw [e] at this; simp at this; omega)
      have k0 := hc1 i (by rw [HX.out]; omega)
      have k1 := hown.cell i (by rw [HL.out]; omega)
      have k2 := hown.frozen i
      have c1 := wordAt_any cb i hb'.drew
      rw [HY.out] at c1
      have d1 := (words_dig x).getD i
      have d2 := (words_dig y).getD i
      have HS : Hid _ := diff_step L (words x) (words y) i c (by rw [HL.out]; omega) (words_dig x) (words_dig y) hc HV.out
      obtain ⟨s, hs⟩ : ∃ s, (words x).getD i 0 = s := ⟨_, rfl⟩
      obtain ⟨t, ht⟩ : ∃ t, (words y).getD i 0 = t := ⟨_, rfl⟩
      rw [hs] at k0 d1 HS
      rw [ht] at c1 d2 HS
      clear hs ht hc1 ha' hb'
      have c2 := sub32_any s t c wr.drew d1 d2 hc
      have hset := hown.set i (dif s t c) (dif_lt _ _ _)
      have hbw' := hbw.setCell (p := ⟨w1.heap.size, i, none⟩) (Nat.le_refl _) (.int .u32 ((dif s t c : Nat) : Int))
      have HC1 : Hid _ := c1
      have HC2 : Hid _ := c2
      have HSet : Hid _ := hset
      have HB : Hid _ := hbw'
      clear hset hbw' hown hbw c1 c2
      go_wp2_with fail
      go_region_with (first | (go_at_call 87; refine Calls.mono HC1.out ?_; rintro e w' ⟨rfl, rfl⟩) | (go_at_call 95; refine Calls.mono HC2.out ?_; rintro e w' ⟨rfl, rfl⟩))
      all_goals
        go_wp2
        go_roundw
        case rel => exact ⟨i + 1, bor s t c, L.set i (dif s t c), by omega, by go_num, rfl, bor_le _ _ _, by rw [List.length_set]; exact HL.out, HSet.out.drew, HB.out.drew, HS.out⟩
        case measure => simp [intOf]; omega
    · have e : i = n := by omega
      subst e
      have hval : val L = x - y := by
        have h1 := HV.out
        rw [List.take_of_length_le (by rw [HL.out]; omega), List.take_of_length_le (by rw [HY.out]; omega), List.take_of_length_le (by rw [HX.out]; omega), val_words, val_words] at h1
        have h2 := val_lt hown.dig
        rw [HL.out] at h2
        exact diff_end h1 h2 HXY.out
      have c1 := trim_any hown (by rw [HL.out]; omega)
      rw [hval, HL.out] at c1
      have HC : Hid _ := c1
      have HB : Hid _ := HB1.out.trans (hbw.mono HB1.out.size)
      clear hval c1 hown hbw
      go_wp2_with fail
      refine Calls.mono HC.out ?_
      rintro e w' ⟨rfl, ho, rfl⟩
      have HO : Hid _ := ho.lower HB1.out.size
      clear ho
      go_wp2
      go_ret
      exact ⟨_, _, rfl, HO.out, HB.out⟩

/-- How far two numbers are from each other. -/
theorem distance_any {w : World} {ao bo : Option Addr} {x y : Nat} (ca cb : Nat) (ha : Rd w ao (words x)) (hb : Rd w bo (words y)) (hx : (words x).length ≤ 100000) (hy : (words y).length ≤ 100000) :
    Calls Try.prog 78 #[.slice ao (words x).length ca, .slice bo (words y).length cb] w (Row1 w (words (dist x y))) := by
  by_cases h : y ≤ x
  · rw [dist_ge h]
    exact difference_any ca cb ha hb hx h
  · rw [dist_lt (by omega)]
    exact difference_lt cb ca hb ha hy (by omega)
end Go.Proofs.Yteghiinbafbokaa
namespace Go.Proofs.Yteghiinbafbokaa
open Go.RowKit
set_option linter.unusedVariables false
set_option linter.unusedSimpArgs false

theorem Four.below {w w' : World} {g p q r s : Nat} (h : Four w g p q r s) (hb : Below w.heap.size w w') : Four w' g p q r s := by
  have hg : g < w.heap.size := cell_lt h.c0
  have e : ∀ i, w'.cell? ⟨g, i, none⟩ = w.cell? ⟨g, i, none⟩ := fun i => hb.cell (p := ⟨g, i, none⟩) hg
  have e2 : ∀ i, w'.frozen? ⟨g, i, none⟩ = w.frozen? ⟨g, i, none⟩ := fun i => by
    have := hb.block g hg
    simp only [World.frozen?, this]
  exact ⟨(e 0).trans h.c0, (e 1).trans h.c1, (e 2).trans h.c2, (e 3).trans h.c3, (e2 0).trans h.f0, (e2 1).trans h.f1, (e2 2).trans h.f2, (e2 3).trans h.f3⟩

/-- A later pair: the same common divisor, in order, and smaller. -/
def Later (A B X Y : Nat) : Prop := Nat.gcd X Y = Nat.gcd A B ∧ Y ≤ X ∧ X ≤ A ∧ X + Y < A + B

theorem bits_big {x : Nat} (h : 2 < (words x).length) : 64 < bl x := by
  apply Classical.byContradiction
  intro h1
  have h2 := bl_le.1 (Nat.le_of_not_lt h1)
  have h3 : (words x).length ≤ 2 := words_length_iff.2 (by rw [pw_two]; exact h2)
  omega
theorem top64 {A : Nat} (h : 64 < bl A) : A / 2 ^ (bl A - 64) < 18446744073709551616 := by
  have h1 := lt_bl A
  rw [Nat.div_lt_iff_lt_mul (Nat.pow_pos (by omega))]
  have : (18446744073709551616 : Nat) = 2 ^ 64 := rfl
  rw [this, ← Nat.pow_add, show 64 + (bl A - 64) = bl A by omega]
  exact h1

theorem word2 {p : Nat} (h : p < 18446744073709551616) : (words p).length ≤ 2 := words_length_le (by rw [show pw 2 = 18446744073709551616 from rfl]; exact h)

set_option maxHeartbeats 8000000 in
set_option maxRecDepth 1000000 in
theorem laterPair_any {w : World} {ao bo : Option Addr} {A B : Nat} (ca cb : Nat) (ha : Rd w ao (words A)) (hb : Rd w bo (words B)) (hx : (words A).length ≤ 80000) (hBA : B ≤ A) (h2 : 2 < (words B).length) (hna : ao = none → ca = 0) (hnb : bo = none → cb = 0) :
    Calls Try.prog 103 #[.slice ao (words A).length ca, .slice bo (words B).length cb] w fun e w' => ∃ X Y xo xc yo yc, e = .returned (.tuple #[.slice xo (words X).length xc, .slice yo (words Y).length yc]) ∧ Later A B X Y ∧ Rd w' xo (words X) ∧ Rd w' yo (words Y) ∧ (xo = none → xc = 0) ∧ (yo = none → yc = 0) ∧ Below w.heap.size w w' := by
  have hAB := words_mono hBA
  have hB0 : B ≠ 0 := fun e => by rw [e, words_zero] at h2; simp at h2
  have hbA := bits_big (show 2 < (words A).length by omega)
  have hblA := bl_len hx
  have c1 := wbits_any ca ha (by omega)
  obtain ⟨k, hk⟩ : ∃ k, bl A - 64 = k := ⟨_, rfl⟩
  have hwA := top64 hbA
  rw [hk] at hwA
  have hwB : B / 2 ^ k ≤ A / 2 ^ k := Nat.div_le_div_right hBA
  have c2 := window_any ca k ha (by omega) (by omega) hwA
  have hkI : (bl A : Int) - 64 = (k : Int) := by omega
  obtain ⟨n, HN⟩ : ∃ n, Hid ((words A).length = n) := ⟨_, rfl⟩
  obtain ⟨m, HM⟩ : ∃ n, Hid ((words B).length = n) := ⟨_, rfl⟩
  obtain ⟨bx, hbx⟩ : ∃ b, bl A = b := ⟨_, rfl⟩
  rw [HN.out] at c1 c2
  rw [hbx] at c1 hkI hblA
  have HEA : Hid (A = A / 2 ^ k * 2 ^ k + A % 2 ^ k) := by
    show A = A / 2 ^ k * 2 ^ k + A % 2 ^ k
    have := Nat.div_add_mod A (2 ^ k)
    rw [Nat.mul_comm] at this
    omega
  have HEB : Hid (B = B / 2 ^ k * 2 ^ k + B % 2 ^ k) := by
    show B = B / 2 ^ k * 2 ^ k + B % 2 ^ k
    have := Nat.div_add_mod B (2 ^ k)
    rw [Nat.mul_comm] at this
    omega
  have HPK : Hid (A % 2 ^ k < 2 ^ k ∧ B % 2 ^ k < 2 ^ k) := ⟨Nat.mod_lt _ (Nat.pow_pos (by omega)), Nat.mod_lt _ (Nat.pow_pos (by omega))⟩
  obtain ⟨a0, ha0⟩ : ∃ a, A / 2 ^ k = a := ⟨_, rfl⟩
  obtain ⟨b0, hb0⟩ : ∃ b, B / 2 ^ k = b := ⟨_, rfl⟩
  have HB0 : Hid (B / 2 ^ k = b0) := hb0
  rw [ha0] at c2 hwA hwB HEA
  rw [hb0] at hwB HEB
  have HA : Hid _ := ha
  have HRB : Hid _ := hb
  have HBA : Hid _ := hBA
  have HX : Hid _ := hx
  have HBN : Hid _ := hB0
  have HNA : Hid _ := hna
  have HNB : Hid _ := hnb
  have HC1 : Hid _ := c1
  have HC2 : Hid _ := c2
  have hk1 : k ≤ 10000000 := by omega
  rw [HN.out] at hx
  rw [HN.out, HM.out] at hAB
  rw [HM.out] at h2
  rw [HN.out, HM.out]
  clear ha hb hBA hB0 hna hnb c1 c2 ha0 hb0 hbx hbA hk
  go_enter Try.func103, Try.ntmps103
  go_wp2_with fail
  refine Calls.mono HC1.out ?_
  rintro e w' ⟨rfl, hw'⟩
  have hw' := hw'.symm
  subst hw'
  clear HC1
  go_wp2_with fail
  refine Calls.mono HC2.out ?_
  rintro e w1 ⟨rfl, b1⟩
  have c3 := window_any cb k (HRB.out.below b1) (by rw [HM.out]; omega) hk1 (by rw [HB0.out]; omega)
  rw [HB0.out, HM.out] at c3
  have HC3 : Hid _ := c3
  have HB1 : Hid _ := b1
  clear c3 b1 HC2
  go_wp2_with fail
  refine Calls.mono HC3.out ?_
  rintro e w2 ⟨rfl, b2⟩
  have HB2 : Hid _ := chain2 HB1.out b2
  have HC4 : Hid _ := sureSteps_any w2 HEA.out HEB.out HPK.out.1 HPK.out.2 HBA.out hwA hwB
  clear b2 HC3
  go_wp2_with fail
  refine Calls.mono HC4.out ?_
  rintro e w3 ⟨p, q, r, s, rfl, ⟨lp, lq, lr, ls⟩, hst, b3⟩
  have HB3 : Hid _ := chain2 HB2.out b3
  have HST : Hid _ := hst
  clear b3 hst HC4
  by_cases hq : q = 0
  · subst hq
    have hb4 : Below w.heap.size w (w3.alloc (.cells #[.int .u64 (p : Int), .int .u64 (0 : Int), .int .u64 (r : Int), .int .u64 (s : Int)] 97)) := HB3.out.alloc HB3.out.size _
    have c5 := divide_any ca cb (HA.out.below hb4) (HRB.out.below hb4) (by rw [HN.out]; omega) (by rw [HM.out]; omega) HNA.out HBN.out
    rw [HN.out, HM.out] at c5
    have HC5 : Hid _ := c5
    have HB4 : Hid _ := hb4
    clear c5 hb4
    go_wp2_with fail
    refine Calls.mono HC5.out ?_
    rintro e w5 ⟨qo, qc, ro, rc, rfl, oq, or, b5⟩
    have HOR : Hid _ := or
    have HB5 : Hid _ := chain2 HB4.out b5
    clear oq or b5 HC5
    go_wp2
    go_ret2
    refine ⟨B, A % B, bo, cb, ro, rc, by rw [HM.out]; rfl, ⟨?_, ?_, HBA.out, ?_⟩, HRB.out.below HB5.out, HOR.out.rd, HNB.out, fun e => by have h := HOR.out; rw [e] at h; exact h.none_cap, HB5.out⟩
    · rw [Nat.gcd_comm A B, Nat.gcd_rec B A, Nat.gcd_comm]
    · exact Nat.le_of_lt (Nat.mod_lt _ (Nat.pos_of_ne_zero HBN.out))
    · have h1 := Nat.mod_lt A (Nat.pos_of_ne_zero HBN.out)
      have h2 := HBA.out
      omega
  · have hq' : ((q : Int) == 0) = false := by simp; omega
    have HQ : Hid _ := hq
    clear hq
    have hF := Four.new w3 p q r s 97
    have hb4 : Below w.heap.size w (w3.alloc (.cells #[.int .u64 (p : Int), .int .u64 (q : Int), .int .u64 (r : Int), .int .u64 (s : Int)] 97)) := HB3.out.alloc HB3.out.size _
    have HRA4 : Hid _ := HA.out.below hb4
    have HRB4 : Hid _ := HRB.out.below hb4
    have HB4 : Hid _ := hb4
    have HF4 : Hid _ := hF
    have HSF : Hid (∀ w', Four w' w3.heap.size p q r s → (fun w' => w'.cell? ⟨w3.heap.size, 0, none⟩ = some (.int .u64 (p : Int)) ∧ w'.cell? ⟨w3.heap.size, 1, none⟩ = some (.int .u64 (q : Int)) ∧ w'.cell? ⟨w3.heap.size, 2, none⟩ = some (.int .u64 (r : Int)) ∧ w'.cell? ⟨w3.heap.size, 3, none⟩ = some (.int .u64 (s : Int))) w') := fun w' h => ⟨h.c0, h.c1, h.c2, h.c3⟩
    dsimp only at HSF
    have hS4 := HSF.out _ hF.drew
    clear hF hb4
    go_wp2_with fail
    go_cut [4] (fun v4 wx => ∃ xo xc, v4 = .slice xo (words (dist (p * A) (q * B))).length xc ∧ Own w.heap.size wx xo xc (words (dist (p * A) (q * B))) ∧ Four wx w3.heap.size p q r s ∧ Below w.heap.size w wx)
    case first =>
      go_region_held (fun w' => w'.cell? ⟨w3.heap.size, 0, none⟩ = some (.int .u64 (p : Int)) ∧ w'.cell? ⟨w3.heap.size, 1, none⟩ = some (.int .u64 (q : Int)) ∧ w'.cell? ⟨w3.heap.size, 2, none⟩ = some (.int .u64 (r : Int)) ∧ w'.cell? ⟨w3.heap.size, 3, none⟩ = some (.int .u64 (s : Int))) (first | assumption | go_keep) (first
        | (go_at_call_of 85 (Value.int IntKind.u64 (p : Int)); refine Calls.mono (wof_any p _ lp) ?_; rintro e wax ⟨xo, xc, rfl, o1, b1⟩; have HO1x : Hid _ := o1; have HBax : Hid _ := b1; have HFax : Hid _ := HF4.out.drew.below b1; have hSax := HSF.out _ HFax.out; clear o1 b1)
        | (go_at_call_of 109 (Value.slice xo (words p).length xc); refine Calls.mono (by have h := product_any xc ca HO1x.out.rd (HRA4.out.drew.below HBax.out) (by have := word2 lp; omega) (by rw [HN.out]; omega); rw [HN.out] at h; exact h) ?_; rintro e wbx ⟨po, pc, rfl, o1, b1⟩; have HO2x : Hid _ := o1; have HBbx : Hid _ := b1; have HFbx : Hid _ := HFax.out.below b1; have hSbx := HSF.out _ HFbx.out; clear o1 b1)
        | (go_at_call_of 85 (Value.int IntKind.u64 (q : Int)); refine Calls.mono (wof_any q _ lq) ?_; rintro e wcx ⟨yo, yc, rfl, o1, b1⟩; have HO3x : Hid _ := o1; have HBcx : Hid _ := b1; have HFcx : Hid _ := HFbx.out.below b1; have hScx := HSF.out _ HFcx.out; clear o1 b1)
        | (go_at_call_of 109 (Value.slice yo (words q).length yc); refine Calls.mono (by have h := product_any yc cb HO3x.out.rd (((HRB4.out.drew.below HBax.out).below HBbx.out).below HBcx.out) (by have := word2 lq; omega) (by rw [HM.out]; omega); rw [HM.out] at h; exact h) ?_; rintro e wdx ⟨qo, qc, rfl, o1, b1⟩; have HO4x : Hid _ := o1; have HBdx : Hid _ := b1; have HFdx : Hid _ := HFcx.out.below b1; have hSdx := HSF.out _ HFdx.out; clear o1 b1)
        | (go_at_call 78; refine Calls.mono (distance_any pc qc ((HO2x.out.rd.below HBcx.out).below HBdx.out) HO4x.out.rd (by have := words_mul_length (word2 lp) HX.out; omega) (by have := words_mul_length (word2 lq) (Nat.le_of_eq HM.out); omega)) ?_; rintro e wex ⟨dox, dcx, rfl, o1, b1⟩; have HO5x : Hid _ := o1; have HBlx : Hid _ := b1; have HFex : Hid _ := HFdx.out.below b1; have hSex := HSF.out _ HFex.out; have HBex : Hid (Below w.heap.size w wex) := chain2 (chain2 (chain2 (chain2 (chain2 HB4.out.drew HBax.out) HBbx.out) HBcx.out) HBdx.out) b1; clear o1 b1))
      all_goals (go_wp2_with fail; go_meet; exact ⟨dox, dcx, rfl, HO5x.out.lower (Nat.le_trans HB4.out.drew.size (chain4 HBax.out HBbx.out HBcx.out HBdx.out).size), HFex.out, HBex.out⟩)
    case rest =>
      obtain ⟨dox, dcx, rfl, hox, hfx, hbx⟩ := hcut
      have HRA5 : Hid _ := HA.out.below hbx
      have HRB5 : Hid _ := HRB.out.below hbx
      have HFex : Hid _ := hfx
      have HBex : Hid _ := hbx
      have HOX : Hid _ := hox
      have hS5 := HSF.out _ hfx.drew
      clear hox hfx hbx
      go_wp2_with fail
      go_region_held (fun w' => w'.cell? ⟨w3.heap.size, 0, none⟩ = some (.int .u64 (p : Int)) ∧ w'.cell? ⟨w3.heap.size, 1, none⟩ = some (.int .u64 (q : Int)) ∧ w'.cell? ⟨w3.heap.size, 2, none⟩ = some (.int .u64 (r : Int)) ∧ w'.cell? ⟨w3.heap.size, 3, none⟩ = some (.int .u64 (s : Int))) (first | assumption | go_keep) (first
        | (go_at_call_of 85 (Value.int IntKind.u64 (r : Int)); refine Calls.mono (wof_any r _ lr) ?_; rintro e waz ⟨zo, zc, rfl, o1, b1⟩; have HO1z : Hid _ := o1; have HBaz : Hid _ := b1; have HFaz : Hid _ := HFex.out.drew.below b1; have hSaz := HSF.out _ HFaz.out; clear o1 b1)
        | (go_at_call_of 109 (Value.slice zo (words r).length zc); refine Calls.mono (by have h := product_any zc ca HO1z.out.rd (HRA5.out.drew.below HBaz.out) (by have := word2 lr; omega) (by rw [HN.out]; omega); rw [HN.out] at h; exact h) ?_; rintro e wbz ⟨po, pc, rfl, o1, b1⟩; have HO2z : Hid _ := o1; have HBbz : Hid _ := b1; have HFbz : Hid _ := HFaz.out.below b1; have hSbz := HSF.out _ HFbz.out; clear o1 b1)
        | (go_at_call_of 85 (Value.int IntKind.u64 (s : Int)); refine Calls.mono (wof_any s _ ls) ?_; rintro e wcz ⟨yo, yc, rfl, o1, b1⟩; have HO3z : Hid _ := o1; have HBcz : Hid _ := b1; have HFcz : Hid _ := HFbz.out.below b1; have hScz := HSF.out _ HFcz.out; clear o1 b1)
        | (go_at_call_of 109 (Value.slice yo (words s).length yc); refine Calls.mono (by have h := product_any yc cb HO3z.out.rd (((HRB5.out.drew.below HBaz.out).below HBbz.out).below HBcz.out) (by have := word2 ls; omega) (by rw [HM.out]; omega); rw [HM.out] at h; exact h) ?_; rintro e wdz ⟨qo, qc, rfl, o1, b1⟩; have HO4z : Hid _ := o1; have HBdz : Hid _ := b1; have HFdz : Hid _ := HFcz.out.below b1; have hSdz := HSF.out _ HFdz.out; clear o1 b1)
        | (go_at_call 78; refine Calls.mono (distance_any pc qc ((HO2z.out.rd.below HBcz.out).below HBdz.out) HO4z.out.rd (by have := words_mul_length (word2 lr) HX.out; omega) (by have := words_mul_length (word2 ls) (Nat.le_of_eq HM.out); omega)) ?_; rintro e wez ⟨doz, dcz, rfl, o1, b1⟩; have HO5z : Hid _ := o1; have HBlz : Hid _ := b1; have HFez : Hid _ := HFdz.out.below b1; have hSez := HSF.out _ HFez.out; have HBez : Hid (Below w.heap.size w wez) := chain2 (chain2 (chain2 (chain2 (chain2 HBex.out.drew HBaz.out) HBbz.out) HBcz.out) HBdz.out) b1; clear o1 b1))
      all_goals
        have HB9 : Hid (Below wc.heap.size wc _) := chain2 (chain4 (chain2 ((Below.refl wc.heap.size wc).drew) HBaz.out) HBbz.out HBcz.out HBdz.out) HBlz.out
        clear HBaz HBbz HBcz HBdz HBlz HFaz HFbz HFcz HFdz HFez HO1z HO2z HO3z HO4z
        go_wp2
        go_ret2
        rcases HST.out with h | ⟨X, Y, zz, hYX, hXA, hg, hp, hs⟩
        · exact absurd h HQ.out
        · obtain ⟨e1, e2⟩ := pair_dist hp
          have hX := HOX.out
          have hY := HO5z.out
          rw [e1] at hX
          rw [e2] at hY
          refine ⟨X, Y, dox, dcx, doz, dcz, by rw [e1, e2]; rfl, ⟨hg, hYX, hXA, by have := Nat.pos_of_ne_zero HBN.out; omega⟩, hX.rd.below HB9.out, hY.rd, ?_, ?_, HBez.out⟩
          · intro e
            rw [e] at hX
            exact hX.none_cap
          · intro e
            rw [e] at hY
            exact hY.none_cap
end Go.Proofs.Yteghiinbafbokaa
namespace Go.Proofs.Yteghiinbafbokaa
open Go.RowKit
set_option linter.unusedVariables false
set_option linter.unusedSimpArgs false

theorem gcd_mod_step (x y : Nat) : Nat.gcd y (x % y) = Nat.gcd x y := by rw [Nat.gcd_comm x y, Nat.gcd_rec y x, Nat.gcd_comm]

set_option maxHeartbeats 2000000 in
set_option maxRecDepth 1000000 in
theorem divisor_any {w : World} {ao bo : Option Addr} {x y : Nat} (ca cb : Nat) (ha : Rd w ao (words x)) (hb : Rd w bo (words y)) (hx : (words x).length ≤ 80000) (hy : (words y).length ≤ 80000) (hna : ao = none → ca = 0) (hnb : bo = none → cb = 0) :
    Calls Try.prog 99 #[.slice ao (words x).length ca, .slice bo (words y).length cb] w (Row1 w (words (Nat.gcd x y))) := by
  have c0 := order_any ca cb ha hb (by omega) (by omega)
  obtain ⟨n, HN⟩ : ∃ n, Hid ((words x).length = n) := ⟨_, rfl⟩
  obtain ⟨m, HM⟩ : ∃ n, Hid ((words y).length = n) := ⟨_, rfl⟩
  rw [HN.out, HM.out] at c0
  have HA : Hid _ := ha
  have HRB : Hid _ := hb
  have HX : Hid _ := hx
  have HY : Hid _ := hy
  have HNA : Hid _ := hna
  have HNB : Hid _ := hnb
  rw [HN.out, HM.out]
  clear ha hb hx hy hna hnb
  by_cases hlt : x < y
  all_goals
    first
    | (have hk : cmpN x y = -1 := cmp_lt' hlt
       rw [hk] at c0
       have HLE : Hid _ := Nat.le_of_lt hlt
       clear hk)
    | (have hge := cmp_ge' hlt
       obtain ⟨kc, hkc⟩ : ∃ k, cmpN x y = k := ⟨_, rfl⟩
       rw [hkc] at c0 hge
       have HLE : Hid _ := Nat.le_of_not_lt hlt
       clear hkc)
    have HC0 : Hid _ := c0
    clear c0 hlt
    go_enter Try.func99, Try.ntmps99
    go_wp2_with fail
    refine Calls.mono HC0.out ?_
    rintro e w1 ⟨rfl, b1⟩
    have HB1 : Hid _ := b1
    clear b1 HC0
    go_wp2
    try clear hge
    go_loopg [0, 1] (x + y) (fun g v0 v1 wr => ∃ (A B : Nat) (po qo : Option Addr) (pc qc : Nat), g = A + B ∧ v0 = .slice po (words A).length pc ∧ v1 = .slice qo (words B).length qc ∧ Rd wr po (words A) ∧ Rd wr qo (words B) ∧ B ≤ A ∧ (words A).length ≤ 80000 ∧ (po = none → pc = 0) ∧ (qo = none → qc = 0) ∧ Nat.gcd A B = Nat.gcd x y ∧ Below w.heap.size w wr)
    case atStart =>
      first
      | exact ⟨x, y, ao, bo, ca, cb, rfl, by rw [HN.out], by rw [HM.out], HA.out.below HB1.out, HRB.out.below HB1.out, HLE.out, HX.out, HNA.out, HNB.out, rfl, HB1.out⟩
      | exact ⟨y, x, bo, ao, cb, ca, Nat.add_comm _ _, by rw [HM.out], by rw [HN.out], HRB.out.below HB1.out, HA.out.below HB1.out, HLE.out, HY.out, HNB.out, HNA.out, Nat.gcd_comm _ _, HB1.out⟩
    case round =>
      obtain ⟨A, B, po, qo, pc, qc, hg, rfl, rfl, hpa, hqb, hle, la, hnp, hnq, hgcd, hbw⟩ := hrel
      have lb := Nat.le_trans (words_mono hle) la
      have HGK : Hid _ := hg
      have HGCD : Hid _ := hgcd
      have HLA : Hid _ := la
      have HLB : Hid _ := lb
      have HPA : Hid _ := hpa
      have HQB : Hid _ := hqb
      have HBW : Hid _ := hbw
      have HLE2 : Hid _ := hle
      have HNP : Hid _ := hnp
      have HNQ : Hid _ := hnq
      obtain ⟨na, HNa⟩ : ∃ n, Hid ((words A).length = n) := ⟨_, rfl⟩
      obtain ⟨nb, HNb⟩ : ∃ n, Hid ((words B).length = n) := ⟨_, rfl⟩
      rw [HNa.out] at la
      rw [HNb.out] at lb
      rw [HNa.out, HNb.out]
      clear hg hgcd hpa hqb hbw hle hnp hnq HA HRB HX HY HNA HNB HLE
      by_cases h2 : 2 < nb
      · have c1 := laterPair_any pc qc HPA.out HQB.out HLA.out HLE2.out (by rw [HNb.out]; exact h2) HNP.out HNQ.out
        rw [HNa.out, HNb.out] at c1
        have HC1 : Hid _ := c1
        clear c1
        go_wp2_with fail
        refine Calls.mono HC1.out ?_
        rintro e w2 ⟨X, Y, xo, xc, yo, yc, rfl, hl, rx, ry, nx, ny, b2⟩
        have HL : Hid _ := hl
        have HRX : Hid _ := rx
        have HRY : Hid _ := ry
        have HNX : Hid _ := nx
        have HNY : Hid _ := ny
        have HB2 : Hid _ := chain2 HBW.out b2
        clear hl rx ry nx ny b2 HC1
        go_wp2
        go_roundg (X + Y)
        case measure =>
          have h1 := HL.out.2.2.2
          have h3 := HGK.out
          omega
        case rel =>
          refine ⟨X, Y, xo, yo, xc, yc, rfl, rfl, rfl, HRX.out, HRY.out, HL.out.2.1, Nat.le_trans (words_mono HL.out.2.2.1) HLA.out, HNX.out, HNY.out, ?_, HB2.out⟩
          rw [HL.out.1]
          exact HGCD.out
      · by_cases h0 : nb = 0
        · subst h0
          have hB : B = 0 := words_eq_nil.1 (List.length_eq_zero_iff.1 HNb.out)
          have hA : A = Nat.gcd x y := by rw [← HGCD.out, hB, Nat.gcd_zero_right]
          have c1 := clone_any pc HPA.out (by have := HLA.out; omega) HNP.out
          rw [HNa.out, hA] at c1
          have HC1 : Hid _ := c1
          clear c1 hA hB
          go_wp2_with fail
          refine Calls.mono HC1.out ?_
          rintro e w2 ⟨ro, rc, rfl, ho, b2⟩
          have HO : Hid _ := ho.lower HBW.out.size
          have HB2 : Hid _ := chain2 HBW.out b2
          clear ho b2 HC1
          go_wp2
          go_ret
          exact ⟨_, _, rfl, HO.out, HB2.out⟩
        · have hB0 : B ≠ 0 := fun e => h0 (by rw [← HNb.out, e, words_zero]; rfl)
          have h0' : ((nb : Int) == 0) = false := by simp; omega
          have c1 := divide_any pc qc HPA.out HQB.out (by have := HLA.out; omega) (by have := HLB.out; omega) HNP.out hB0
          rw [HNa.out, HNb.out] at c1
          have HC1 : Hid _ := c1
          have HB0 : Hid _ := hB0
          have h2' : ¬ (2 : Int) < (nb : Int) := by omega
          clear c1 hB0
          go_wp2_with fail
          refine Calls.mono HC1.out ?_
          rintro e w2 ⟨uo, uc, ro, rc, rfl, ou, or, b2⟩
          have hR : A % B < B := Nat.mod_lt _ (Nat.pos_of_ne_zero HB0.out)
          have hBlt : B < 18446744073709551616 := by
            have := words_length_iff.1 (show (words B).length ≤ 2 by rw [HNb.out]; omega)
            rwa [show pw 2 = 18446744073709551616 from rfl] at this
          have c2 := short_any qc (HQB.out.below b2) (by rw [HNb.out]; omega)
          rw [HNb.out] at c2
          have c3 := short_any rc or.rd (word2 (show A % B < 18446744073709551616 by omega))
          have HC2 : Hid _ := c2
          have HC3 : Hid _ := c3
          have HB2 : Hid _ := chain2 HBW.out b2
          have HG : Hid (Nat.gcd B (A % B) = Nat.gcd x y) := by
            show Nat.gcd B (A % B) = Nat.gcd x y
            rw [gcd_mod_step]
            exact HGCD.out
          obtain ⟨R, hRR⟩ : ∃ R, A % B = R := ⟨_, rfl⟩
          rw [hRR] at HC3 HG hR
          rw [hRR]
          clear or ou b2 c2 c3 HC1 hRR
          go_wp2_with fail
          refine Calls.mono HC2.out ?_
          rintro e w' ⟨rfl, hw'⟩
          have hw' := hw'.symm
          subst hw'
          go_wp2_with fail
          refine Calls.mono HC3.out ?_
          rintro e w' ⟨rfl, hw'⟩
          have hw' := hw'.symm
          subst hw'
          clear HC2 HC3
          go_wp2
          go_loopw [7, 8] (fun v7 v8 wr => ∃ p q : Nat, v7 = .int .u64 (p : Int) ∧ v8 = .int .u64 (q : Int) ∧ p < 18446744073709551616 ∧ q < 18446744073709551616 ∧ Nat.gcd p q = Nat.gcd x y ∧ Below w.heap.size w wr) (fun _ v8 _ => (intOf v8).toNat)
          case atStart => exact ⟨B, R, rfl, rfl, hBlt, by omega, HG.out, HB2.out⟩
          case round =>
            obtain ⟨p, q, rfl, rfl, lp, lq, hg, hbw⟩ := hrel
            have HG2 : Hid _ := hg
            have HBw : Hid _ := hbw
            clear hg hbw
            by_cases hq : q = 0
            · subst hq
              have hp : p = Nat.gcd x y := by rw [← HG2.out, Nat.gcd_zero_right]
              have c4 := wof_any p wr lp
              rw [hp] at c4
              have HC4 : Hid _ := c4
              have HP : Hid _ := hp
              clear c4 hp
              go_wp2_with fail
              refine Calls.mono (by have h := HC4.out; rw [← HP.out] at h; exact h) ?_
              rintro e w4 ⟨ro, rc, rfl, ho, b4⟩
              have HO : Hid _ := ho.lower HBw.out.size
              have HB4 : Hid _ := chain2 HBw.out b4
              clear ho b4 HC4
              go_wp2
              go_ret
              rw [← HP.out]
              exact ⟨_, _, rfl, HO.out, HB4.out⟩
            · have hq1 : ((q : Int) == 0) = false := by simp; omega
              have hmod : p % q < q := Nat.mod_lt _ (by omega)
              have t2 : (p : Int) % (q : Int) = ((p % q : Nat) : Int) := by rw [Int.natCast_emod]
              have HT2 : Hid _ := t2
              clear t2
              go_wp2
              go_region
              all_goals go_wp2
              all_goals go_roundw
              case rel =>
                refine ⟨q, p % q, rfl, ?_, lq, by omega, ?_, HBw.out.drew⟩
                · rw [← HT2.out]
                · rw [gcd_mod_step]
                  exact HG2.out
              case measure =>
                have h := HT2.out
                simp only [intOf]
                rw [h]
                omega

def gcdS (a b : List Nat) : List Nat × Int := if sound a && sound b then (words (Nat.gcd (val a) (val b)), 0) else ([], 2)

set_option maxHeartbeats 1000000 in
set_option maxRecDepth 1000000 in
theorem gcd_any {w : World} {ao bo : Option Addr} {a b : List Nat} (ca cb : Nat) (ha : Rd w ao a) (hb : Rd w bo b) (la : a.length ≤ 9223372036854775807) (lb : b.length ≤ 9223372036854775807) (hna : ao = none → ca = 0) (hnb : bo = none → cb = 0) :
    Calls Try.prog 92 #[.slice ao a.length ca, .slice bo b.length cb] w (Ans w (gcdS a b)) := by
  have c1 := sound_any ca ha la
  have c2 := sound_any cb hb lb
  unfold gcdS
  by_cases hs : sound a = true
  · by_cases ht : sound b = true
    · obtain ⟨ea, na⟩ := sound_words ha.dig hs
      obtain ⟨eb, nb⟩ := sound_words hb.dig ht
      rw [hs] at c1 ⊢
      rw [ht] at c2 ⊢
      generalize val a = x at *
      generalize val b = y at *
      subst ea eb
      have c3 := divisor_any ca cb ha hb (by omega) (by omega) hna hnb
      clear hs ht ha hb la lb hna hnb
      simp only [Bool.and_self, if_true]
      obtain ⟨n, HN⟩ : ∃ n, Hid ((words x).length = n) := ⟨_, rfl⟩
      obtain ⟨m, HM⟩ : ∃ m, Hid ((words y).length = m) := ⟨_, rfl⟩
      rw [HN.out] at c1
      rw [HM.out] at c2
      rw [HN.out, HM.out] at c3
      rw [HN.out, HM.out]
      have HC3 : Hid _ := c3
      clear c3 na nb
      go_enter Try.func92, Try.ntmps92
      go_wp2_with fail
      refine c1.mono ?_
      rintro e w' ⟨rfl, rfl⟩
      go_wp2_with fail
      refine c2.mono ?_
      rintro e w' ⟨rfl, rfl⟩
      clear c1 c2
      go_wp2_with fail
      refine Calls.mono HC3.out ?_
      rintro e w1 ⟨ro, rc, rfl, ho, b1⟩
      have HO : Hid _ := ho
      have HB : Hid _ := b1
      clear ho b1
      go_wp2
      go_ret2
      exact ⟨_, _, rfl, HO.out, HB.out⟩
    · simp only [Bool.not_eq_true] at ht
      rw [hs] at c1
      rw [ht] at c2
      rw [hs, ht]
      clear ha hb la lb hs ht hna hnb
      generalize a.length = n at *
      generalize b.length = m at *
      go_enter Try.func92, Try.ntmps92
      go_wp2_with fail
      refine c1.mono ?_
      rintro e w' ⟨rfl, rfl⟩
      go_wp2_with fail
      refine c2.mono ?_
      rintro e w' ⟨rfl, rfl⟩
      go_wp2
      go_ret2
      exact Ans.intro (Own.nil _ _) (Below.refl _ _)
  · simp only [Bool.not_eq_true] at hs
    rw [hs] at c1 ⊢
    clear ha hb la lb hs c2 hna hnb
    generalize a.length = n at *
    generalize b.length = m at *
    go_enter Try.func92, Try.ntmps92
    go_wp2_with fail
    refine c1.mono ?_
    rintro e w' ⟨rfl, rfl⟩
    go_wp2
    go_ret2
    exact Ans.intro (Own.nil _ _) (Below.refl _ _)
end Go.Proofs.Yteghiinbafbokaa
namespace Go.Proofs.Yteghiinbafbokaa
open Go.RowKit
set_option linter.unusedVariables false
set_option linter.unusedSimpArgs false

theorem Own.nocap {B : Nat} {w : World} {ao : Option Addr} {cap : Nat} {l : List Nat} (h : Own B w ao cap l) : ao = none → cap = 0 := by
  intro e
  rw [e] at h
  exact h.none_cap
/-- Two cells in a block of the call's own. -/
structure Two (w : World) (g : Nat) (a b : Value) : Prop where
  c0 : w.cell? ⟨g, 0, none⟩ = some a
  c1 : w.cell? ⟨g, 1, none⟩ = some b
  f0 : w.frozen? ⟨g, 0, none⟩ = false
  f1 : w.frozen? ⟨g, 1, none⟩ = false
theorem Two.new (w : World) (a b : Value) (t : TypeId) : Two (w.alloc (.cells #[a, b] t)) w.heap.size a b := by
  exact ⟨by go_cell, by go_cell, by go_cell, by go_cell⟩
theorem Two.alloc {w : World} {g : Nat} {a b : Value} (h : Two w g a b) (o : Obj) : Two (w.alloc o) g a b := by
  have hg : g < w.heap.size := cell_lt h.c0
  exact ⟨(World.cell?_alloc_past o g 0 hg).trans h.c0, (World.cell?_alloc_past o g 1 hg).trans h.c1, (World.frozen?_alloc_past o g 0 hg).trans h.f0, (World.frozen?_alloc_past o g 1 hg).trans h.f1⟩
theorem Two.drew {w : World} {g : Nat} {a b : Value} (h : Two w g a b) : Two w.drew g a b := ⟨h.c0, h.c1, h.f0, h.f1⟩
theorem Two.below {w w' : World} {g : Nat} {a b : Value} (h : Two w g a b) (hb : Below w.heap.size w w') : Two w' g a b := by
  have hg : g < w.heap.size := cell_lt h.c0
  have e : ∀ i, w'.cell? ⟨g, i, none⟩ = w.cell? ⟨g, i, none⟩ := fun i => hb.cell (p := ⟨g, i, none⟩) hg
  have e2 : ∀ i, w'.frozen? ⟨g, i, none⟩ = w.frozen? ⟨g, i, none⟩ := fun i => by
    have := hb.block g hg
    simp only [World.frozen?, this]
  exact ⟨(e 0).trans h.c0, (e 1).trans h.c1, (e2 0).trans h.f0, (e2 1).trans h.f1⟩

theorem Two.far {w : World} {g g' : Nat} {a b : Value} (h : Two w g a b) (hne : g' ≠ g) (j : Nat) (x : Value) : Two (w.setCell ⟨g', j, none⟩ x) g a b := by
  have e : ∀ i, (w.setCell ⟨g', j, none⟩ x).cell? ⟨g, i, none⟩ = w.cell? ⟨g, i, none⟩ := fun i => World.cell?_setCell_other _ _ _ _ (by intro e; cases e; exact hne rfl)
  have e2 : ∀ i, (w.setCell ⟨g', j, none⟩ x).frozen? ⟨g, i, none⟩ = w.frozen? ⟨g, i, none⟩ := fun i => by simp
  exact ⟨(e 0).trans h.c0, (e 1).trans h.c1, (e2 0).trans h.f0, (e2 1).trans h.f1⟩
/-- A store into a cell that holds no word leaves what reads as words. -/
theorem Rd.setNo {w : World} {so : Option Addr} {l : List Nat} {p : Addr} {u : Value} (h : Rd w so l) (hp : w.cell? p = some u) (hu : ∀ n, u ≠ .int .u32 n) (v : Value) : Rd (w.setCell p v) so l := by
  refine ⟨h.dig, fun hne => ?_⟩
  obtain ⟨b, off, h1, h2, h3⟩ := h.pos hne
  refine ⟨b, off, h1, by simpa using h2, fun j hj => ?_⟩
  rw [World.cell?_setCell_other _ _ _ _ (by
    intro e
    have h4 := h3 j hj
    rw [← e, hp] at h4
    simp only [Option.some.injEq] at h4
    exact hu _ h4)]
  exact h3 j hj
/-- Both cells of a block of the call's own are written. -/
theorem fin2 {w w2 : World} {g : Nat} {x : Bool} {o : Option Addr} {n c : Nat} (hg : w.heap.size ≤ g) (hb : Below w.heap.size w w2) (ht : Two w2 g (.bool x) (.slice o n c)) (v0 v1 : Value) :
    Below w.heap.size w ((w2.setCell ⟨g, 0, none⟩ v0).setCell ⟨g, 1, none⟩ v1) ∧ ∀ so l, Rd w2 so l → Rd ((w2.setCell ⟨g, 0, none⟩ v0).setCell ⟨g, 1, none⟩ v1) so l := by
  refine ⟨(hb.setCell (p := ⟨g, 0, none⟩) hg v0).setCell (p := ⟨g, 1, none⟩) hg v1, fun so l h => ?_⟩
  have h1 := h.setNo ht.c0 (fun n => by simp) v0
  refine h1.setNo (p := ⟨g, 1, none⟩) (u := .slice o n c) ?_ (fun n => by simp) v1
  rw [World.cell?_setCell_other _ _ _ _ (by simp)]
  exact ht.c1

/-- The value '.agg #[.bool b, .slice so m sc]' stands for a whole number. -/
structure Wh (w : World) (b : Bool) (so : Option Addr) (m sc : Nat) (z : Int) : Prop where
  neg : b = decide (z < 0)
  len : m = (words z.natAbs).length
  rd : Rd w so (words z.natAbs)
  nil : so = none → sc = 0
theorem Wh.below {w w' : World} {b : Bool} {so : Option Addr} {m sc : Nat} {z : Int} (h : Wh w b so m sc z) (hb : Below w.heap.size w w') : Wh w' b so m sc z := ⟨h.neg, h.len, h.rd.below hb, h.nil⟩
theorem Wh.carry {w w' : World} {b : Bool} {so : Option Addr} {m sc : Nat} {z : Int} (h : Wh w b so m sc z) (hr : ∀ so l, Rd w so l → Rd w' so l) : Wh w' b so m sc z := ⟨h.neg, h.len, hr _ _ h.rd, h.nil⟩
/-- A call answers a whole number. -/
def AnsW (w : World) (z : Int) (e : Ending) (w' : World) : Prop := ∃ b so m sc, e = .returned (.agg #[.bool b, .slice so m sc]) ∧ Wh w' b so m sc z ∧ Below w.heap.size w w'
def sgn (neg : Bool) (n : Nat) : Int := if neg then -(n : Int) else n
theorem sgn_abs (neg : Bool) (n : Nat) : (sgn neg n).natAbs = n := by unfold sgn; split <;> omega
theorem sgn_neg (neg : Bool) (n : Nat) : decide (sgn neg n < 0) = (neg && decide (0 < n)) := by
  unfold sgn
  cases neg with
  | false => simp
  | true => simp
theorem words_pos_len (n : Nat) : 0 < n ↔ 0 < (words n).length := by
  constructor
  · intro h
    have : (words n).length ≠ 0 := fun e => by have := words_eq_nil.1 (List.length_eq_zero_iff.1 e); omega
    omega
  · intro h
    have : n ≠ 0 := fun e => by rw [e, words_zero] at h; simp at h
    omega

theorem sgn_self (z : Int) : sgn (decide (z < 0)) z.natAbs = z := by
  unfold sgn
  by_cases h : z < 0
  · rw [decide_eq_true h]
    simp
    omega
  · rw [decide_eq_false h]
    simp
    omega
theorem sgn_opp (z : Int) : sgn (!decide (z < 0)) z.natAbs = -z := by
  unfold sgn
  by_cases h : z < 0
  · rw [decide_eq_true h]
    simp
    omega
  · rw [decide_eq_false h]
    simp
    omega
theorem sgn_mul (x y : Int) : sgn (decide (x < 0) != decide (y < 0)) (x.natAbs * y.natAbs) = x * y := by
  unfold sgn
  have e : ((x.natAbs * y.natAbs : Nat) : Int) = (x.natAbs : Int) * (y.natAbs : Int) := by rw [Int.natCast_mul]
  rw [e]
  by_cases h : x < 0
  · have hx : (x.natAbs : Int) = -x := by omega
    by_cases k : y < 0
    · have hy : (y.natAbs : Int) = -y := by omega
      rw [decide_eq_true h, decide_eq_true k, hx, hy]
      simp [Int.neg_mul_neg]
    · have hy : (y.natAbs : Int) = y := by omega
      rw [decide_eq_true h, decide_eq_false k, hx, hy]
      simp [Int.neg_mul]
  · have hx : (x.natAbs : Int) = x := by omega
    by_cases k : y < 0
    · have hy : (y.natAbs : Int) = -y := by omega
      rw [decide_eq_false h, decide_eq_true k, hx, hy]
      simp [Int.mul_neg]
    · have hy : (y.natAbs : Int) = y := by omega
      rw [decide_eq_false h, decide_eq_false k, hx, hy]
      simp

end Go.Proofs.Yteghiinbafbokaa
namespace Go.Proofs.Yteghiinbafbokaa
open Go.RowKit
set_option linter.unusedVariables false
set_option linter.unusedSimpArgs false

end Go.Proofs.Yteghiinbafbokaa
namespace Go.Proofs.Yteghiinbafbokaa
open Go.RowKit
set_option linter.unusedVariables false
set_option linter.unusedSimpArgs false

theorem sgn_add {x y : Int} (h : decide (x < 0) = decide (y < 0)) : sgn (decide (x < 0)) (x.natAbs + y.natAbs) = x + y := by
  unfold sgn
  by_cases k : x < 0
  · have k2 : y < 0 := by rw [decide_eq_true k] at h; exact of_decide_eq_true h.symm
    rw [decide_eq_true k]
    simp
    omega
  · have k2 : ¬ y < 0 := by rw [decide_eq_false k] at h; exact of_decide_eq_false h.symm
    rw [decide_eq_false k]
    simp
    omega
theorem sgn_sub {x y : Int} (h : decide (x < 0) ≠ decide (y < 0)) (hle : y.natAbs ≤ x.natAbs) : sgn (decide (x < 0)) (x.natAbs - y.natAbs) = x + y := by
  unfold sgn
  by_cases k : x < 0
  · have k2 : ¬ y < 0 := by intro k3; rw [decide_eq_true k, decide_eq_true k3] at h; exact h rfl
    rw [decide_eq_true k]
    simp
    omega
  · have k2 : y < 0 := by
      apply Classical.byContradiction
      intro k3
      rw [decide_eq_false k, decide_eq_false k3] at h
      exact h rfl
    rw [decide_eq_false k]
    simp
    omega

end Go.Proofs.Yteghiinbafbokaa
namespace Go.Proofs.Yteghiinbafbokaa
open Go.RowKit
set_option linter.unusedVariables false
set_option linter.unusedSimpArgs false

theorem Two.put {w : World} {g : Nat} {a b : Value} (h : Two w g a b) (x y : Value) : Two ((w.setCell ⟨g, 0, none⟩ x).setCell ⟨g, 1, none⟩ y) g x y := by
  obtain ⟨k0, k1, f0, f1⟩ := h
  have e1 : (w.setCell ⟨g, 0, none⟩ x).cell? ⟨g, 0, none⟩ = some x := World.cell?_setCell_same _ _ _ k0
  have e2 : (w.setCell ⟨g, 0, none⟩ x).cell? ⟨g, 1, none⟩ = some b := by rw [World.cell?_setCell_other _ _ _ _ (by simp)]; exact k1
  refine ⟨?_, World.cell?_setCell_same _ _ _ e2, by simpa using f0, by simpa using f1⟩
  rw [World.cell?_setCell_other _ _ _ _ (by simp)]
  exact e1

end Go.Proofs.Yteghiinbafbokaa
