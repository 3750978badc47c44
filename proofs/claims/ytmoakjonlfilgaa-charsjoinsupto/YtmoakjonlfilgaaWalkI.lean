/- The walk of Titlecase. -/
import Derived.Test.YtmoakjonlfilgaaWalkH
namespace Go.Proofs.Ytmoakjonlfilgaa
open Go.RowKit
set_option linter.unusedSimpArgs false
set_option linter.unusedVariables false

theorem titleL_step (a : Bool) (s : ByteArray) (pos : Nat) (hp : pos < s.size) : titleL a (runes (s.data.toList.drop pos)) = titleC a (Utf8.decode s pos).1 (runes (s.data.toList.drop (pos + (Utf8.decode s pos).2))) ++ titleL (letterB (Utf8.decode s pos).1) (runes (s.data.toList.drop (pos + (Utf8.decode s pos).2))) := by
  rw [runes_at s pos hp]
  rfl

set_option maxHeartbeats 4000000 in
set_option maxRecDepth 1000000 in
theorem titlecase_any (s : ByteArray) (w : World) (hs : s.size ≤ 35184372088832) :
    Calls Try.prog 25 #[.string s] w fun e w' => e = .returned (.string ⟨(titlecase s.data.toList).toArray⟩) ∧ Below w.heap.size w w' := by
  go_enter Try.func25, Try.ntmps25
  go_wp2
  go_loopw [4] (fun a wr => ∃ (pos : Nat) (acc : List UInt8) (ah : Bool), a = .bool ah ∧ Lib.IsBuilderF 34 5 w.heap.size w.heap.size (Lib.byteCells acc) wr ∧ wr.heap[w.heap.size + 1]? = some (.stringIter s pos) ∧ Below w.heap.size w wr ∧ acc ++ encs (titleL ah (runes (s.data.toList.drop pos))) = titlecase s.data.toList ∧ acc.length ≤ 4 * pos) (fun _ wr => s.size - wr.iterPos (w.heap.size + 1))
  case atStart =>
    refine ⟨0, [], false, rfl, (Lib.IsBuilderF.of (Lib.fresh_isBuilder 34 5 w)).alloc _, ?_, ((Below.refl _ w).alloc (Nat.le_refl _) _).alloc (by simp) _, rfl, by simp⟩
    have := World.iter_heap (w.alloc (.cells #[.pointer none, .slice none 0 0] 34)) s 0
    simpa using this
  case round =>
    obtain ⟨pos, acc, ah, rfl, hI, hit, hbw, hacc, hal⟩ := hrel
    have hsz : w.heap.size + 1 < wr.heap.size := (Array.getElem?_eq_some_iff.1 hit).1
    by_cases hp : pos < s.size
    · obtain ⟨W2, hW2⟩ : ∃ W2, W2 = wr.iterAt (w.heap.size + 1) s (pos + (Utf8.decode s pos).2) := ⟨_, rfl⟩
      have hnx : ∀ ty, (Instr.next (.pointer (some ⟨w.heap.size + 1, 0, none⟩)) true ty).run Try.prog wr = .ok (.tuple #[.bool true, .int .i64 pos, .int .i32 (Utf8.decode s pos).1]) W2 := fun ty => by
        rw [hW2]
        exact Lib.run_next_any_at wr (w.heap.size + 1) s pos ty hit hp
      have hwd := width_pos s pos hp
      have hd1 := decode_le s pos
      have hI2 := hI.iterAt hit (pos + (Utf8.decode s pos).2)
      have hit2 := Lib.iterAt_heap wr (w.heap.size + 1) s pos (pos + (Utf8.decode s pos).2) hit
      have hbw2 := Lib.below_iterAt hbw (k := w.heap.size + 1) (by omega) s (pos + (Utf8.decode s pos).2)
      have hsz2 : w.heap.size + 1 < W2.heap.size := by rw [hW2, Lib.iterAt_size]; omega
      rw [← hW2] at hI2 hit2 hbw2
      clear hW2
      have HS : Hid _ := titleL_step ah s pos hp
      have HA : Hid _ := hacc
      clear hacc
      obtain ⟨rest, hrest⟩ : ∃ rest, rest = runes (s.data.toList.drop (pos + (Utf8.decode s pos).2)) := ⟨_, rfl⟩
      have hdi := downIn_any s pos hp hs ah W2
      rw [← hrest] at HS hdi
      have HD : Hid _ := hdi
      have HR : Hid _ := hrest
      clear hdi hrest
      by_cases hl : letterB (Utf8.decode s pos).1 = true
      · by_cases hah : ah = true
        · obtain ⟨d, hd⟩ : ∃ d, d = downAt ah (Utf8.decode s pos).1 rest := ⟨_, rfl⟩
          have hdb := downAt_bd ah (Utf8.decode s pos).1 rest (by omega) (by omega)
          have HC : Hid (titleC ah (Utf8.decode s pos).1 rest = [d]) := by
            show _ = _
            simp [titleC, hl, hah, hd]
          have HD2 := HD
          rw [← hd] at hdb HD2
          clear hd HD
          subst hah
          go_wp2_with (go_at_call 13; refine (letter_any _ _).mono ?_; rintro e w' ⟨rfl, hw⟩; have hw := hw.symm; subst hw)
          refine Calls.mono HD2.out ?_
          rintro e W3 ⟨rfl, b3⟩
          have hI3 := builder_below hI2 b3
          have hit3 := heap_below hit2 b3
          have hbw3 := hbw2.trans (b3.mono (by omega))
          have hsz3 := b3.size
          go_wp2_with fail
          refine (Try.Builder_WriteRune_k w.heap.size w.heap.size _ _ (by omega) (by omega) _ hI3 (by rw [Lib.byteCells_length]; omega) (by omega)).mono ?_
          rintro e W1 ⟨rfl, h1, b1, k1⟩
          go_wp2_with (go_at_call 13; refine (letter_any _ _).mono ?_; rintro e w' ⟨rfl, hw⟩; have hw := hw.symm; subst hw)
          go_roundw
          case rel =>
            have hl4 := encodeRune_len d
            refine ⟨pos + (Utf8.decode s pos).2, acc ++ Lib.encodeRune d, _, rfl, ?_, k1.iter hit3 (by omega), hbw3.trans b1, ?_, by simp; omega⟩
            · rw [Lib.byteCells_append, Lib.byteCells_encodeRune]; exact Or.inr h1
            · have h1 := HC.out
              rw [← HA.out, HS.out, ← HR.out, h1]; simp [encs, hl]
          case measure =>
            simp only [World.iterPos, k1.iter hit3 (by omega), hit]
            omega
        · have hah' : ah = false := by simpa using hah
          subst hah'
          clear hah HD
          by_cases h223 : (Utf8.decode s pos).1 = 223
          · have hl223 : letterB 223 = true := by decide +kernel
            have HC : Hid (titleC false (Utf8.decode s pos).1 rest = [83, 115]) := by
              show _ = _
              have e : ((Utf8.decode s pos).1 : Int) = 223 := by omega
              rw [e] at hl ⊢
              simp [titleC, hl]
            go_wp2_with (go_at_call 13; refine (letter_any _ _).mono ?_; rintro e w' ⟨rfl, hw⟩; have hw := hw.symm; subst hw)
            refine (Try.Builder_WriteString_k w.heap.size w.heap.size _ ⟨#[83, 115]⟩ _ hI2 (by rw [Lib.byteCells_length]; show acc.length + 2 ≤ _; omega) (by omega)).mono ?_
            rintro e W1 ⟨rfl, h1, b1, k1⟩
            go_wp2_with (go_at_call 13; refine (letter_any _ _).mono ?_; rintro e w' ⟨rfl, hw⟩; have hw := hw.symm; subst hw)
            go_roundw
            case rel =>
              have hl4 : True := trivial
              refine ⟨pos + (Utf8.decode s pos).2, acc ++ [83, 115], _, rfl, ?_, k1.iter hit2 (by omega), hbw2.trans b1, ?_, by simp; omega⟩
              · rw [Lib.byteCells_append]; exact Or.inr h1
              · have h1 := HC.out
                rw [← HA.out, HS.out, ← HR.out, h1]; simp [encs, hl]; rfl
            case measure =>
              simp only [World.iterPos, k1.iter hit2 (by omega), hit]
              omega
          · have hub := upZ_bd ((Utf8.decode s pos).1 : Int) (by omega) (by omega)
            have h223' : ¬ ((Utf8.decode s pos).1 : Int) = 223 := by omega
            have HC : Hid (titleC false (Utf8.decode s pos).1 rest = [upZ (Utf8.decode s pos).1]) := by
              show _ = _
              simp [titleC, hl, h223']
            clear h223'
            go_wp2_with (first | (go_at_call 13; refine (letter_any _ _).mono ?_; rintro e w' ⟨rfl, hw⟩; have hw := hw.symm; subst hw) | (go_at_call 9; refine (up_any _ (by omega) (by omega) _).mono ?_; rintro e w' ⟨rfl, hw⟩; have hw := hw.symm; subst hw))
            refine (Try.Builder_WriteRune_k w.heap.size w.heap.size _ _ (by omega) (by omega) _ hI2 (by rw [Lib.byteCells_length]; omega) (by omega)).mono ?_
            rintro e W1 ⟨rfl, h1, b1, k1⟩
            go_wp2_with (go_at_call 13; refine (letter_any _ _).mono ?_; rintro e w' ⟨rfl, hw⟩; have hw := hw.symm; subst hw)
            go_roundw
            case rel =>
              have hl4 := encodeRune_len (upZ (Utf8.decode s pos).1)
              refine ⟨pos + (Utf8.decode s pos).2, acc ++ Lib.encodeRune (upZ (Utf8.decode s pos).1), _, rfl, ?_, k1.iter hit2 (by omega), hbw2.trans b1, ?_, by simp; omega⟩
              · rw [Lib.byteCells_append, Lib.byteCells_encodeRune]; exact Or.inr h1
              · have h1 := HC.out
                rw [← HA.out, HS.out, ← HR.out, h1]; simp [encs, hl]
            case measure =>
              simp only [World.iterPos, k1.iter hit2 (by omega), hit]
              omega
      · have hl' : letterB (Utf8.decode s pos).1 = false := by simpa using hl
        have HC : Hid (titleC ah (Utf8.decode s pos).1 rest = [((Utf8.decode s pos).1 : Int)]) := by
          show _ = _
          simp [titleC, hl']
        clear hl HD
        go_wp2_with (go_at_call 13; refine (letter_any _ _).mono ?_; rintro e w' ⟨rfl, hw⟩; have hw := hw.symm; subst hw)
        refine (Try.Builder_WriteRune_k w.heap.size w.heap.size _ _ (by omega) (by omega) _ hI2 (by rw [Lib.byteCells_length]; omega) (by omega)).mono ?_
        rintro e W1 ⟨rfl, h1, b1, k1⟩
        go_wp2_with (go_at_call 13; refine (letter_any _ _).mono ?_; rintro e w' ⟨rfl, hw⟩; have hw := hw.symm; subst hw)
        go_roundw
        case rel =>
          have hl4 := encodeRune_len ((Utf8.decode s pos).1 : Int)
          refine ⟨pos + (Utf8.decode s pos).2, acc ++ Lib.encodeRune ((Utf8.decode s pos).1 : Int), _, rfl, ?_, k1.iter hit2 (by omega), hbw2.trans b1, ?_, by simp; omega⟩
          · rw [Lib.byteCells_append, Lib.byteCells_encodeRune]; exact Or.inr h1
          · have h1 := HC.out
            rw [← HA.out, HS.out, ← HR.out, h1]; simp [encs, hl']
        case measure =>
          simp only [World.iterPos, k1.iter hit2 (by omega), hit]
          omega
    · have hnx : ∀ ty, (Instr.next (.pointer (some ⟨w.heap.size + 1, 0, none⟩)) true ty).run Try.prog wr = _ := fun ty => Lib.run_next_end_at wr (w.heap.size + 1) s pos ty hit hp
      have e0 : titleL ah [] = [] := rfl
      have e1 : encs [] = [] := rfl
      rw [runes_over s pos hp, e0, e1, List.append_nil] at hacc
      clear e0 e1
      go_wp2_with (go_at_call 35; refine (Try.Builder_String_any_k w.heap.size w.heap.size acc _ hI (by omega)).mono ?_)
      rintro e W1 ⟨rfl, _, b1, _⟩
      go_wp2
      go_ret
      subst hacc
      exact ⟨rfl, hbw.trans b1⟩
end Go.Proofs.Ytmoakjonlfilgaa
