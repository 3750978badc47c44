/- Walks of Downcase and Titlecase, character by character with what stands ahead and behind. -/
import Derived.Test.YtmoakjonlfilgaaFoldsMath
import Derived.Test.YtmoakjonlfilgaaOwn
namespace Go.Proofs.Ytmoakjonlfilgaa
open Go.RowKit
set_option linter.unusedSimpArgs false
set_option linter.unusedVariables false

def headLetter : List Int → Bool
  | [] => false
  | r :: _ => letterB r
def downAt (ahead : Bool) (r : Int) (rest : List Int) : Int := if r = 931 ∧ ahead = true ∧ headLetter rest = false then 962 else downZ r
def downL : Bool → List Int → List Int
  | _, [] => []
  | a, r :: l => downAt a r l :: downL (letterB r) l
def downcase (l : List UInt8) : List UInt8 := encs (downL false (runes l))
def titleC (ahead : Bool) (r : Int) (rest : List Int) : List Int :=
  if letterB r = false then [r] else if ahead = true then [downAt ahead r rest] else if r = 223 then [83, 115] else [upZ r]
def titleL : Bool → List Int → List Int
  | _, [] => []
  | a, r :: l => titleC a r l ++ titleL (letterB r) l
def titlecase (l : List UInt8) : List UInt8 := encs (titleL false (runes l))

theorem decode_sigma (s : ByteArray) (pos : Nat) (h : (Utf8.decode s pos).1 = 931) : (Utf8.decode s pos).2 = 2 := by
  rw [Lib.decode_N] at h ⊢
  generalize (s.data.toList.getD pos 0).toNat = b0 at *
  generalize (s.data.toList.getD (pos + 1) 0).toNat = b1 at *
  generalize (s.data.toList.getD (pos + 2) 0).toNat = b2 at *
  generalize (s.data.toList.getD (pos + 3) 0).toNat = b3 at *
  unfold Lib.decodeN at h ⊢
  repeat' split at h
  all_goals (simp only at h)
  all_goals first
    | omega
    | (rw [if_neg (by omega), if_pos (by assumption), if_pos (by omega)])
theorem decode_room (s : ByteArray) (pos : Nat) (hp : pos < s.size) : pos + (Utf8.decode s pos).2 ≤ s.size := by
  have hne : s.data.toList.drop pos ≠ [] := by
    intro h
    have := congrArg List.length h
    rw [List.length_drop, ← Lib.size_eq] at this
    simp at this
    omega
  have := (decodeL_wd _ hne).2
  rw [Lib.decodeL_drop, List.length_drop, ← Lib.size_eq] at this
  omega
theorem extract_list (s : ByteArray) (k : Nat) : (s.extract k s.size).data.toList = s.data.toList.drop k := by
  rw [ByteArray.data_extract, Array.toList_extract]
  have : s.size = s.data.toList.length := Lib.size_eq s
  rw [List.extract_eq_take_drop, this]
  rw [List.take_of_length_le (by rw [List.length_drop]; omega)]

set_option maxHeartbeats 1000000 in
theorem begins_any (s : ByteArray) (w : World) :
    Calls Try.prog 42 #[.string s] w fun e w' => e = .returned (.bool (headLetter (runes s.data.toList))) ∧ Below w.heap.size w w' := by
  go_enter Try.func42, Try.ntmps42
  go_wp2
  go_loopw [] (fun wr => wr = w.alloc (.stringIter s 0)) (fun wr => s.size - wr.iterPos (w.heap.size))
  case atStart => rfl
  case round =>
    subst hrel
    have hit : (w.alloc (.stringIter s 0)).heap[w.heap.size]? = some (.stringIter s 0) := heap_alloc_new w _
    by_cases hp : 0 < s.size
    · have hnx : ∀ ty, (Instr.next (.pointer (some ⟨w.heap.size, 0, none⟩)) true ty).run Try.prog (w.alloc (.stringIter s 0)) = _ := fun ty => Lib.run_next_any_at _ (w.heap.size) s 0 ty hit hp
      have HR : Hid _ := runes_at s 0 hp
      have hbw := Lib.below_iterAt ((Below.refl _ w).alloc (Nat.le_refl _) (.stringIter s 0)) (k := w.heap.size) (by omega) s (0 + (Utf8.decode s 0).2)
      go_wp2_with (go_at_call 13; refine (letter_any _ _).mono ?_; rintro e w' ⟨rfl, rfl⟩)
      go_ret
      refine ⟨ret_bool ?_, by simpa using hbw⟩
      have h := HR.out
      rw [List.drop_zero] at h
      rw [h]
      rfl
    · have hnx : ∀ ty, (Instr.next (.pointer (some ⟨w.heap.size, 0, none⟩)) true ty).run Try.prog (w.alloc (.stringIter s 0)) = _ := fun ty => Lib.run_next_end_at _ (w.heap.size) s 0 ty hit hp
      have HR : Hid _ := runes_over s 0 hp
      go_wp2
      go_ret
      refine ⟨ret_bool ?_, (Below.refl _ w).alloc (Nat.le_refl _) _⟩
      have h := HR.out
      rw [List.drop_zero] at h
      rw [h]
      rfl

set_option maxHeartbeats 1000000 in
theorem downIn_any (s : ByteArray) (pos : Nat) (hp : pos < s.size) (hs : s.size ≤ 35184372088832) (ahead : Bool) (w : World) :
    Calls Try.prog 36 #[.string s, .int .i64 pos, .int .i32 (Utf8.decode s pos).1, .bool ahead] w fun e w' =>
      e = .returned (.int .i32 (downAt ahead (Utf8.decode s pos).1 (runes (s.data.toList.drop (pos + (Utf8.decode s pos).2))))) ∧ Below w.heap.size w w' := by
  have hd1 := decode_le s pos
  have hrm := decode_room s pos hp
  by_cases h931 : (Utf8.decode s pos).1 = 931
  · have hw2 := decode_sigma s pos h931
    have hrm2 : pos + 2 ≤ s.size := by omega
    rw [h931, hw2]
    clear hrm hd1 h931 hw2
    cases ahead with
    | false =>
      go_enter Try.func36, Try.ntmps36
      go_wp2_with (go_at_call 11; refine (down_any _ (by omega) (by omega) _).mono ?_; rintro e w' ⟨rfl, rfl⟩)
      go_ret
      exact ⟨ret_int (by simp [downAt]), Below.refl _ _⟩
    | true =>
      have hx : (s.extract (pos + 2) s.size).data.toList = s.data.toList.drop (pos + 2) := extract_list s (pos + 2)
      have hb := begins_any (s.extract (pos + 2) s.size)
      rw [hx] at hb
      clear hx
      have HB : Hid _ := hb
      clear hb
      obtain ⟨b, hb⟩ : ∃ b, b = headLetter (runes (List.drop (pos + 2) s.data.toList)) := ⟨_, rfl⟩
      rw [← hb] at HB
      have HE : Hid _ := hb
      clear hb
      cases b with
      | true =>
        go_enter Try.func36, Try.ntmps36
        go_wp2_with (first | (go_at_call 42; refine (HB.out _).mono ?_; rintro e w' ⟨rfl, hb1⟩) | (go_at_call 11; refine (down_any _ (by omega) (by omega) _).mono ?_; rintro e w' ⟨rfl, rfl⟩))
        go_ret
        exact ⟨ret_int (by simp [downAt, ← HE.out]), hb1⟩
      | false =>
        go_enter Try.func36, Try.ntmps36
        go_wp2_with (first | (go_at_call 42; refine (HB.out _).mono ?_; rintro e w' ⟨rfl, hb1⟩))
        go_ret
        exact ⟨ret_int (by simp [downAt, ← HE.out]), hb1⟩
  · have q : (((Utf8.decode s pos).1 : Int) == 931) = false := by simp; omega
    have h931' : ¬ ((Utf8.decode s pos).1 : Int) = 931 := by omega
    have HE : Hid (downAt ahead (Utf8.decode s pos).1 (runes (s.data.toList.drop (pos + (Utf8.decode s pos).2))) = downZ (Utf8.decode s pos).1) := by
      show _ = _
      simp [downAt, h931']
    clear h931 h931'
    go_enter Try.func36, Try.ntmps36
    go_wp2_with (go_at_call 11; refine (down_any _ (by omega) (by omega) _).mono ?_; rintro e w' ⟨rfl, rfl⟩)
    go_ret
    exact ⟨ret_int HE.out.symm, Below.refl _ _⟩

theorem downAt_bd (a : Bool) (r : Int) (l : List Int) (h0 : -2147483648 ≤ r) (h1 : r ≤ 2147483647) : -2147483648 ≤ downAt a r l ∧ downAt a r l ≤ 2147483647 := by
  unfold downAt
  split
  · omega
  · exact downZ_bd r h0 h1
theorem downL_step (a : Bool) (s : ByteArray) (pos : Nat) (hp : pos < s.size) : downL a (runes (s.data.toList.drop pos)) = downAt a (Utf8.decode s pos).1 (runes (s.data.toList.drop (pos + (Utf8.decode s pos).2))) :: downL (letterB (Utf8.decode s pos).1) (runes (s.data.toList.drop (pos + (Utf8.decode s pos).2))) := by
  rw [runes_at s pos hp]
  rfl
theorem encs_cons (r : Int) (l : List Int) : encs (r :: l) = Lib.encodeRune r ++ encs l := rfl

set_option maxHeartbeats 4000000 in
set_option maxRecDepth 1000000 in
theorem downcase_any (s : ByteArray) (w : World) (hs : s.size ≤ 35184372088832) :
    Calls Try.prog 21 #[.string s] w fun e w' => e = .returned (.string ⟨(downcase s.data.toList).toArray⟩) ∧ Below w.heap.size w w' := by
  go_enter Try.func21, Try.ntmps21
  go_wp2
  go_loopw [4] (fun a wr => ∃ (pos : Nat) (acc : List UInt8) (ah : Bool), a = .bool ah ∧ Lib.IsBuilderF 34 5 w.heap.size w.heap.size (Lib.byteCells acc) wr ∧ wr.heap[w.heap.size + 1]? = some (.stringIter s pos) ∧ Below w.heap.size w wr ∧ acc ++ encs (downL ah (runes (s.data.toList.drop pos))) = downcase s.data.toList ∧ acc.length ≤ 4 * pos) (fun _ wr => s.size - wr.iterPos (w.heap.size + 1))
  case atStart =>
    refine ⟨0, [], false, rfl, (Lib.IsBuilderF.of (Lib.fresh_isBuilder 34 5 w)).alloc _, ?_, ((Below.refl _ w).alloc (Nat.le_refl _) _).alloc (by simp) _, rfl, by simp⟩
    have := World.iter_heap (w.alloc (.cells #[.pointer none, .slice none 0 0] 34)) s 0
    simpa using this
  case round =>
    obtain ⟨pos, acc, ah, rfl, hI, hit, hbw, hacc, hal⟩ := hrel
    have hsz : w.heap.size + 1 < wr.heap.size := (Array.getElem?_eq_some_iff.1 hit).1
    by_cases hp : pos < s.size
    · obtain ⟨W2, hW2⟩ : ∃ W2, W2 = wr.iterAt (w.heap.size + 1) s (pos + (Utf8.decode s pos).2) := ⟨_, rfl⟩
      have hnx : ∀ ty, (Instr.next (.pointer (some ⟨w.heap.size + 1, 0, none⟩)) true ty).run Try.prog wr = .ok (.tuple #[.bool true, .int .i64 pos, .int .i32 (Utf8.decode s pos).1]) W2 := fun ty => by
        rw [hW2]
        exact Lib.run_next_any_at wr (w.heap.size + 1) s pos ty hit hp
      have hwd := width_pos s pos hp
      have hd1 := decode_le s pos
      have hI2 := hI.iterAt hit (pos + (Utf8.decode s pos).2)
      have hit2 := Lib.iterAt_heap wr (w.heap.size + 1) s pos (pos + (Utf8.decode s pos).2) hit
      have hbw2 := Lib.below_iterAt hbw (k := w.heap.size + 1) (by omega) s (pos + (Utf8.decode s pos).2)
      have hsz2 : w.heap.size + 1 < W2.heap.size := by rw [hW2, Lib.iterAt_size]; omega
      rw [← hW2] at hI2 hit2 hbw2
      clear hW2
      have HS : Hid _ := downL_step ah s pos hp
      have HA : Hid _ := hacc
      clear hacc
      obtain ⟨d, hd⟩ : ∃ d, d = downAt ah (Utf8.decode s pos).1 (runes (s.data.toList.drop (pos + (Utf8.decode s pos).2))) := ⟨_, rfl⟩
      have hdb := downAt_bd ah (Utf8.decode s pos).1 (runes (s.data.toList.drop (pos + (Utf8.decode s pos).2))) (by omega) (by omega)
      have hdi := downIn_any s pos hp hs ah W2
      rw [← hd] at HS hdb hdi
      have HD : Hid _ := hdi
      clear hd hdi
      go_wp2_with fail
      refine Calls.mono HD.out ?_
      rintro e W3 ⟨rfl, b3⟩
      have hI3 := builder_below hI2 b3
      have hit3 := heap_below hit2 b3
      have hbw3 := hbw2.trans (b3.mono (by omega))
      have hsz3 := b3.size
      go_wp2_with fail
      refine (Try.Builder_WriteRune_k w.heap.size w.heap.size _ _ (by omega) (by omega) _ hI3 (by rw [Lib.byteCells_length]; omega) (by omega)).mono ?_
      rintro e W1 ⟨rfl, h1, b1, k1⟩
      go_wp2_with (go_at_call 13; refine (letter_any _ _).mono ?_; rintro e w' ⟨rfl, hw⟩; have hw := hw.symm; subst hw)
      go_roundw
      case rel =>
        have hl4 := encodeRune_len d
        refine ⟨pos + (Utf8.decode s pos).2, acc ++ Lib.encodeRune d, _, rfl, ?_, k1.iter hit3 (by omega), hbw3.trans b1, ?_, by simp; omega⟩
        · rw [Lib.byteCells_append, Lib.byteCells_encodeRune]; exact Or.inr h1
        · rw [← HA.out, HS.out, encs_cons]; simp
      case measure =>
        simp only [World.iterPos, k1.iter hit3 (by omega), hit]
        omega
    · have hnx : ∀ ty, (Instr.next (.pointer (some ⟨w.heap.size + 1, 0, none⟩)) true ty).run Try.prog wr = _ := fun ty => Lib.run_next_end_at wr (w.heap.size + 1) s pos ty hit hp
      have e0 : downL ah [] = [] := rfl
      have e1 : encs [] = [] := rfl
      rw [runes_over s pos hp, e0, e1, List.append_nil] at hacc
      clear e0 e1
      go_wp2_with (go_at_call 35; refine (Try.Builder_String_any_k w.heap.size w.heap.size acc _ hI (by omega)).mono ?_)
      rintro e W1 ⟨rfl, _, b1, _⟩
      go_wp2
      go_ret
      subst hacc
      exact ⟨rfl, hbw.trans b1⟩
end Go.Proofs.Ytmoakjonlfilgaa
