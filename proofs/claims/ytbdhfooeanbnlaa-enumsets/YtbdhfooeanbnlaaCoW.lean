/- Bytes that were there, texts made of them, and builders. -/
import Derived.Test.YtbdhfooeanbnlaaCoV
import Derived.Lib.RuneBytes
import Derived.Laws.BytesArg
namespace Go.Proofs.Ytbdhfooeanbnlaa
open Go.RowKit Go.Lib
set_option linter.unusedVariables false
set_option linter.unusedSimpArgs false

/-- A slice of bytes reads as these. -/
structure Rb (w : World) (so : Option Addr) (l : List UInt8) : Prop where
  pos : l ≠ [] → ∃ b off, so = some ⟨b, off, none⟩ ∧ b < w.heap.size ∧ ∀ j, j < l.length → w.cell? ⟨b, off + j, none⟩ = some (.int .u8 (((l.getD j 0).toNat : Nat) : Int))
theorem Rb.below {w w' : World} {so : Option Addr} {l : List UInt8} (h : Rb w so l) (hb : Below w.heap.size w w') : Rb w' so l := by
  refine ⟨fun hne => ?_⟩
  obtain ⟨b, off, h1, h2, h3⟩ := h.pos hne
  exact ⟨b, off, h1, Nat.lt_of_lt_of_le h2 hb.size, fun j hj => (hb.cell (by exact h2)).trans (h3 j hj)⟩
theorem strOf_bytes (l : List UInt8) : strOfNums (l.map fun b => ((b.toNat : Nat) : Int)) = ⟨l.toArray⟩ := by
  unfold strOfNums
  congr 1
  simp
  induction l with
  | nil => rfl
  | cons a t ih => rw [List.map_cons, ih]; simp
theorem conv_bytes {P : Program} {w : World} {src dst e : TypeId} (hs : P.underlying src = some (.slice e)) (he : P.underlying e = some (.int .u8)) (hd : P.underlying dst = some .string) {so : Option Addr} {l : List UInt8} (h : Rb w so l) (cap : Nat) : (convert src dst (.slice so l.length cap)).run P w = .ok (.string ⟨l.toArray⟩) w := by
  by_cases hl : l = []
  · subst hl
    cases so with
    | none => exact run_convert_bytes_nil w src e hs he 0 cap dst hd
    | some a =>
      rw [run_convert_bytes_string w src dst e _ _ cap hs he hd]
      simp [Conv.bytesToString, loadCells]
      rfl
  · obtain ⟨b, off, rfl, _, hc⟩ := h.pos hl
    have := run_convert_bytes_arg (P := P) w src e hs he b off l.length cap (l.map fun b => ((b.toNat : Nat) : Int)) (by simp) (fun i hi => by
      rw [hc i hi]
      simp [List.getD, hi]) dst hd
    rw [strOf_bytes] at this
    exact this
section
variable {P : Program} {w : World} {l : List (Nat × Value)} {dst : Option Tmp} {ty : TypeId} {pos : String} {after : Array Edge} {guard : Option (Nat × Bool)} {v : Value}
theorem does_convW {s d : TypeId} {x : Operand} {u : Value} (hx : ev l x = some u) (hr : (convert s d u).run P w = .ok v w) : Does P l ⟨dst, .convert s d x, ty, pos, after, guard⟩ w v w := fun ρ h => by
  simp only [execOp, h x _ hx, Sem.run_bind, hr, Result.andThen_ok, Sem.run_pure]
end
/-- A block that holds a builder without anything is one. -/
theorem toBld {w0 w : World} {g : Nat} {L : List Ck} (h : Mg w0 w (.obj g (.cells #[.pointer none, .slice none 0 0] BT) :: L)) (hq : ∀ d ∈ L, quietC d) : Mg w0 w (.bld g [] :: L) := by
  have h0 := h.has 0 (c := .obj g (.cells #[.pointer none, .slice none 0 0] BT)) rfl
  obtain ⟨hp, hd⟩ := List.pairwise_cons.1 h.dis
  refine ⟨h.bel, fun c hc => ?_, List.pairwise_cons.2 ⟨fun c hc => ?_, hd⟩⟩
  · rcases List.mem_cons.1 hc with rfl | hc
    · exact .inl ⟨h0.1, .slice none 0 0, h0.2, ⟨by simp, .inl ⟨rfl, rfl⟩⟩, by simp [Value.ownBlock]⟩
    · exact h.all c (List.mem_cons_of_mem _ hc)
  · have k := hp c hc
    have q := hq c hc
    cases c with
    | obj g' o' => exact ⟨fun e => k e.symm, q⟩
    | row e' sz' v' n' xs' => exact ⟨q, k⟩
    | bld b' bs' => exact q.elim
theorem encode_le (r : Int) : (encodeRune r).length ≤ 4 := by
  unfold encodeRune encodeRuneZ
  rw [List.length_map]
  repeat' split
  all_goals simp
/-- A character behind bytes. -/
def putB (bs : List UInt8) (r : Int) : List UInt8 × Bool := (bs ++ encodeRune r, true)
/-- A builder that so many more may be written on. -/
def Ab (gb : Nat) (n : Nat) (bs : List UInt8) (T : List Ck) : Prop := T = [.bld gb (byteCells bs)] ∧ bs.length + 4 * n ≤ 1000000
theorem perm_end (X : List Ck) (c : Ck) : (X ++ [c]).Perm (c :: X) := (List.perm_append_comm : (X ++ [c]).Perm ([c] ++ X))
theorem wrote_rune {w0 w w' : World} {gb : Nat} {bs : List UInt8} {r : Int} {X : List Ck} (hM : Mg w0 w (.bld gb (byteCells bs) :: X)) (hB : Lib.BuilderAtF BT BY w0.heap.size gb (.pointer (some ⟨gb, 0, none⟩)) (byteCells bs ++ runeCells r) w') (hb : Below w0.heap.size w w') (ho : Lib.OthersKept BY (some gb) w w') : Mg w0 w' (.bld gb (byteCells (bs ++ encodeRune r)) :: X) := by
  have h7 := hM.wrote 0 rfl hb ho (.inr hB)
  rw [byteCells_append, byteCells_encodeRune]
  exact h7
theorem wrote_runeK {w0 w w' : World} {gb : Nat} {bs : List UInt8} {r : Int} {L : List Ck} (hM : Mg w0 w L) (k : Nat) (hk : L[k]? = some (.bld gb (byteCells bs))) (hB : Lib.BuilderAtF BT BY w0.heap.size gb (.pointer (some ⟨gb, 0, none⟩)) (byteCells bs ++ runeCells r) w') (hb : Below w0.heap.size w w') (ho : Lib.OthersKept BY (some gb) w w') : Mg w0 w' (L.set k (.bld gb (byteCells (bs ++ encodeRune r)))) := by
  have h7 := hM.wrote k hk hb ho (.inr hB)
  rw [byteCells_append, byteCells_encodeRune]
  exact h7
/-! ### Line ends -/
def endsF : Nat → Int → List UInt8 → List UInt8
  | 0, _, _ => []
  | f + 1, a, l => if l = [] then [] else
      (if a = 13 ∧ ((decodeL l).1 = 10 ∨ (decodeL l).1 = 133) then [] else if endLB ((decodeL l).1 : Int) = true then encodeRune 10 else encodeRune ((decodeL l).1 : Int)) ++ endsF f ((decodeL l).1 : Int) (l.drop (decodeL l).2)
where endLB (r : Int) : Bool := decide (r = 10 ∨ r = 13 ∨ r = 133 ∨ r = 8232)
/-- A text with plain line ends. -/
def plainE (l : List UInt8) : List UInt8 := endsF l.length 0 l
theorem endsF_more : ∀ (f g : Nat) (a : Int) (l : List UInt8), l.length ≤ f → l.length ≤ g → endsF f a l = endsF g a l
  | 0, 0, _, _, _, _ => rfl
  | 0, g + 1, a, l, h, _ => by
    have : l = [] := List.length_eq_zero_iff.1 (by omega)
    simp [endsF, this]
  | f + 1, 0, a, l, _, h => by
    have : l = [] := List.length_eq_zero_iff.1 (by omega)
    simp [endsF, this]
  | f + 1, g + 1, a, l, h1, h2 => by
    unfold endsF
    by_cases hl : l = []
    · rw [if_pos hl, if_pos hl]
    · rw [if_neg hl, if_neg hl]
      have := decode_wide l hl
      rw [endsF_more f g _ _ (by rw [List.length_drop]; omega) (by rw [List.length_drop]; omega)]
def endsR (s : ByteArray) (a : Int) (p : Nat) : List UInt8 := endsF (s.size - p) a (s.data.toList.drop p)
theorem endsR_over {s : ByteArray} {a : Int} {p : Nat} (h : ¬ p < s.size) : endsR s a p = [] := by
  unfold endsR
  rw [show s.size - p = 0 from by omega]
  rfl
theorem endsR_zero (s : ByteArray) : endsR s 0 0 = plainE s.data.toList := by
  unfold endsR plainE
  rw [List.drop_zero, size_toList, Nat.sub_zero]
theorem endsR_step {s : ByteArray} {a : Int} {p r q : Nat} (h : p < s.size) (e : Utf8.decode s p = (r, q)) : endsR s a p = (if a = 13 ∧ (r = 10 ∨ r = 133) then [] else if endsF.endLB (r : Int) = true then encodeRune 10 else encodeRune (r : Int)) ++ endsR s (r : Int) (p + q) := by
  have hl := size_toList s
  have hne : s.data.toList.drop p ≠ [] := fun k => by
    have := congrArg List.length k
    rw [List.length_drop, hl] at this
    simp at this
    omega
  have hd := decodeL_drop s p
  rw [e] at hd
  have hw := decode_wide _ hne
  rw [hd, List.length_drop, hl] at hw
  simp only at hw
  unfold endsR
  obtain ⟨m, hm⟩ : ∃ m, s.size - p = m + 1 := ⟨s.size - p - 1, by omega⟩
  rw [hm]
  conv => lhs; unfold endsF
  rw [if_neg hne, hd, List.drop_drop]
  simp only
  rw [endsF_more m (s.size - (p + q)) _ _ (by rw [List.length_drop, hl]; omega) (by rw [List.length_drop, hl]; omega)]
end Go.Proofs.Ytbdhfooeanbnlaa
