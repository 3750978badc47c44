/- Bytes one by one, and in pairs: their units. -/
import Derived.Test.YtbdhfooeanbnlaaCoU
namespace Go.Proofs.Ytbdhfooeanbnlaa
open Go.RowKit Go.Lib
set_option linter.unusedVariables false
set_option linter.unusedSimpArgs false

def unitsB : Nat → List UInt8 → List (Int × Int)
  | _, [] => []
  | p, b :: t => ((p : Int), ((b.toNat : Nat) : Int)) :: unitsB (p + 1) t
theorem drop_at {l : List UInt8} {p : Nat} (h : p < l.length) : l.drop p = l.getD p 0 :: l.drop (p + 1) := by
  rw [List.drop_eq_getElem_cons h]
  congr 1
  simp [List.getD, h]
theorem unitsB_step {l : List UInt8} {p : Nat} (h : p < l.length) : unitsB p (l.drop p) = ((p : Int), (((l.getD p 0).toNat : Nat) : Int)) :: unitsB (p + 1) (l.drop (p + 1)) := by
  rw [drop_at h]
  rfl
theorem unitsB_over {l : List UInt8} {p : Nat} (h : ¬ p < l.length) : unitsB p (l.drop p) = [] := by
  rw [List.drop_eq_nil_of_le (by omega)]
  rfl
/-- Two bytes as a number. -/
def hi2 (a b : Nat) : Nat := a * 256 + b
def lo2 (a b : Nat) : Nat := b * 256 + a
/-- The first unit of pairs of bytes, and how many it takes. -/
def first16 (g : Nat → Nat → Nat) (l : List UInt8) : Int × Nat :=
  if l.length < 2 then (-1, 1)
  else if g (l.getD 0 0).toNat (l.getD 1 0).toNat < 55296 ∨ 57344 ≤ g (l.getD 0 0).toNat (l.getD 1 0).toNat then ((g (l.getD 0 0).toNat (l.getD 1 0).toNat : Nat), 2)
  else if g (l.getD 0 0).toNat (l.getD 1 0).toNat < 56320 ∧ 4 ≤ l.length ∧ 56320 ≤ g (l.getD 2 0).toNat (l.getD 3 0).toNat ∧ g (l.getD 2 0).toNat (l.getD 3 0).toNat < 57344 then ((65536 + (g (l.getD 0 0).toNat (l.getD 1 0).toNat - 55296) * 1024 + (g (l.getD 2 0).toNat (l.getD 3 0).toNat - 56320) : Nat), 4)
  else (-1, 2)
theorem first16_wide (g : Nat → Nat → Nat) (l : List UInt8) (hl : l ≠ []) : 1 ≤ (first16 g l).2 ∧ (first16 g l).2 ≤ l.length := by
  have h0 : 0 < l.length := List.length_pos_iff.2 hl
  unfold first16
  split
  · simp only; omega
  · split
    · simp only; omega
    · split
      · simp only; omega
      · simp only; omega
theorem first16_ok {g : Nat → Nat → Nat} (hg : ∀ a b, a < 256 → b < 256 → g a b < 65536) (l : List UInt8) : OkU (first16 g l).1 := by
  have k1 := hg _ _ (l.getD 0 0).toNat_lt (l.getD 1 0).toNat_lt
  have k2 := hg _ _ (l.getD 2 0).toNat_lt (l.getD 3 0).toNat_lt
  unfold first16
  generalize g (l.getD 0 0).toNat (l.getD 1 0).toNat = n at *
  generalize g (l.getD 2 0).toNat (l.getD 3 0).toNat = m at *
  split
  · exact .inl rfl
  · split
    · right; simp only; omega
    · split
      · right; simp only; omega
      · exact .inl rfl
theorem byte_ok (l : List UInt8) (i : Nat) : OkU (((l.getD i 0).toNat : Nat) : Int) := by
  have := (l.getD i 0).toNat_lt
  right
  omega
def units16 (g : Nat → Nat → Nat) : Nat → Nat → List UInt8 → List (Int × Int)
  | 0, _, _ => []
  | f + 1, p, l => if l = [] then [] else ((p : Int), (first16 g l).1) :: units16 g f (p + (first16 g l).2) (l.drop (first16 g l).2)
theorem units16_more (g : Nat → Nat → Nat) : ∀ (f k p : Nat) (l : List UInt8), l.length ≤ f → l.length ≤ k → units16 g f p l = units16 g k p l
  | 0, 0, _, _, _, _ => rfl
  | 0, k + 1, p, l, h, _ => by
    have : l = [] := List.length_eq_zero_iff.1 (by omega)
    simp [units16, this]
  | f + 1, 0, p, l, _, h => by
    have : l = [] := List.length_eq_zero_iff.1 (by omega)
    simp [units16, this]
  | f + 1, k + 1, p, l, h1, h2 => by
    unfold units16
    by_cases hl : l = []
    · rw [if_pos hl, if_pos hl]
    · rw [if_neg hl, if_neg hl]
      have := first16_wide g l hl
      rw [units16_more g f k _ _ (by rw [List.length_drop]; omega) (by rw [List.length_drop]; omega)]
def rest16 (g : Nat → Nat → Nat) (s : ByteArray) (p : Nat) : List (Int × Int) := units16 g (s.size - p) p (s.data.toList.drop p)
theorem rest16_over {g : Nat → Nat → Nat} {s : ByteArray} {p : Nat} (h : ¬ p < s.size) : rest16 g s p = [] := by
  unfold rest16
  rw [show s.size - p = 0 from by omega]
  rfl
theorem rest16_step {g : Nat → Nat → Nat} {s : ByteArray} {p : Nat} {r : Int} {q : Nat} (h : p < s.size) (e : first16 g (s.data.toList.drop p) = (r, q)) : rest16 g s p = ((p : Int), r) :: rest16 g s (p + q) ∧ 1 ≤ q ∧ p + q ≤ s.size := by
  have hl := size_toList s
  have hne : s.data.toList.drop p ≠ [] := fun k => by
    have := congrArg List.length k
    rw [List.length_drop, hl] at this
    simp at this
    omega
  have hw := first16_wide g _ hne
  rw [e, List.length_drop, hl] at hw
  simp only at hw
  refine ⟨?_, hw.1, by omega⟩
  unfold rest16
  obtain ⟨m, hm⟩ : ∃ m, s.size - p = m + 1 := ⟨s.size - p - 1, by omega⟩
  rw [hm]
  show (if s.data.toList.drop p = [] then [] else ((p : Int), (first16 g (s.data.toList.drop p)).1) :: units16 g m (p + (first16 g (s.data.toList.drop p)).2) ((s.data.toList.drop p).drop (first16 g (s.data.toList.drop p)).2)) = _
  rw [if_neg hne, e, List.drop_drop]
  simp only
  rw [units16_more g m (s.size - (p + q)) _ _ (by rw [List.length_drop, hl]; omega) (by rw [List.length_drop, hl]; omega)]
/-- The units of bytes in pairs, the mark ahead told. -/
def unitsW (l : List UInt8) : List (Int × Int) :=
  if hasPrefix l [254, 255] = true then units16 hi2 (l.length - 2) 2 (l.drop 2)
  else if hasPrefix l [255, 254] = true then units16 lo2 (l.length - 2) 2 (l.drop 2)
  else units16 hi2 l.length 0 l
theorem unitsW_hi {s : ByteArray} (h : hasPrefix s.data.toList [254, 255] = true) : rest16 hi2 s 2 = unitsW s.data.toList := by
  unfold unitsW rest16
  rw [if_pos h, size_toList]
theorem unitsW_lo {s : ByteArray} (h1 : hasPrefix s.data.toList [254, 255] = false) (h : hasPrefix s.data.toList [255, 254] = true) : rest16 lo2 s 2 = unitsW s.data.toList := by
  unfold unitsW rest16
  rw [if_neg (by rw [h1]; decide), if_pos h, size_toList]
theorem unitsW_no {s : ByteArray} (h1 : hasPrefix s.data.toList [254, 255] = false) (h : hasPrefix s.data.toList [255, 254] = false) : rest16 hi2 s 0 = unitsW s.data.toList := by
  unfold unitsW rest16
  rw [if_neg (by rw [h1]; decide), if_neg (by rw [h]; decide), size_toList, List.drop_zero, Nat.sub_zero]
theorem prefix_len {l p : List UInt8} (h : hasPrefix l p = true) : p.length ≤ l.length := by
  unfold hasPrefix at h
  exact (List.isPrefixOf_iff_prefix.1 h).length_le
/-- The units that a codec takes of bytes. -/
def unitsC (c : Int) (l : List UInt8) : List (Int × Int) := if c = 1 then unitsU l else if c = 2 then unitsB 0 l else if c = 3 then unitsW l else []
theorem or_i32 (x y : Nat) (hx : x < 2147483648) (hy : y < 2147483648) : bits .or .i32 (x : Int) (y : Int) = ((x ||| y : Nat) : Int) := by
  have h1 : x ||| y < 2 ^ 31 := Nat.or_lt_two_pow (n := 31) hx hy
  have h2 : (2 : Nat) ^ 31 = 2147483648 := rfl
  have e : (BitVec.ofInt IntKind.i32.bits (x : Int) ||| BitVec.ofInt IntKind.i32.bits (y : Int)).toNat = x ||| y := by
    rw [BitVec.ofInt_natCast, BitVec.ofInt_natCast, BitVec.toNat_or, BitVec.toNat_ofNat, BitVec.toNat_ofNat]
    show x % 4294967296 ||| y % 4294967296 = _
    rw [Nat.mod_eq_of_lt (by omega), Nat.mod_eq_of_lt (by omega)]
  show IntKind.i32.wrap ((BitVec.ofInt IntKind.i32.bits (x : Int) ||| BitVec.ofInt IntKind.i32.bits (y : Int)).toNat : Int) = _
  rw [e]
  exact in_i32 (by omega) (by omega)
theorem or_256 {a b z : Nat} (ha : a < 256) (hb : b < 256) (hz : a * 256 + b = z) : bits .or .i32 ((a * 256 : Nat) : Int) ((b : Nat) : Int) = ((z : Nat) : Int) := by
  subst hz
  rw [or_i32 (a * 256) b (by omega) (by omega)]
  have := Nat.two_pow_add_eq_or_of_lt (i := 8) (b := b) hb a
  rw [show (2 : Nat) ^ 8 = 256 from rfl] at this
  rw [Nat.mul_comm a 256, ← this]
/-- A function that makes a number of two bytes. -/
structure NumF (P : Program) (f : FuncId) (g : Nat → Nat → Nat) : Prop where
  inv : ∀ (b : ByteArray) (w : World), (invoke (.fn (.func f) #[]) #[.string b]).run P w = .ok (.enter f #[.string b]) w
  run : ∀ (b : ByteArray) (w : World), 2 ≤ b.size → Calls P f #[.string b] w (fun e w' => e = .returned (.int .i32 ((g (b.data.toList.getD 0 0).toNat (b.data.toList.getD 1 0).toNat : Nat) : Int)) ∧ Below w.heap.size w w')
  lt : ∀ a b, a < 256 → b < 256 → g a b < 65536
theorem byte_lt (l : List UInt8) (i : Nat) : (l.getD i 0).toNat < 256 := (l.getD i 0).toNat_lt
theorem getD_drop2 (l : List UInt8) (p i : Nat) : (l.drop p).getD i 0 = l.getD (p + i) 0 := getD_dropU l p i
end Go.Proofs.Ytbdhfooeanbnlaa
