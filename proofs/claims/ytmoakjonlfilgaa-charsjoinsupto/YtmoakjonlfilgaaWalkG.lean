/- Walks of the document's Runes, Upcase and Fold. -/
import Derived.Test.YtmoakjonlfilgaaFoldsMath
import Derived.Test.YtmoakjonlfilgaaWalkE
import Derived.Test.YtmoakjonlfilgaaOwn
namespace Go.Proofs.Ytmoakjonlfilgaa
open Go.RowKit
set_option linter.unusedSimpArgs false
set_option linter.unusedVariables false

theorem info21 : (Try.prog.info? 21).map (fun i => (i.zero, i.size, i.bytes)) = some (some (.int .i32 0), 1, 4) := by kernel_rfl
abbrev I32 (l : List Int) : List Value := l.map (Value.int .i32)
theorem oneCells (l : List Int) : ∀ u ∈ I32 l, u.oneCell' = true := by
  intro u hu
  obtain ⟨x, _, rfl⟩ := List.mem_map.1 hu
  rfl

set_option maxHeartbeats 4000000 in
set_option maxRecDepth 1000000 in
theorem runes_any (s : ByteArray) (w : World) (hs : s.size ≤ 35184372088832) :
    Calls Try.prog 27 #[.string s] w fun e w' => ∃ v, e = .returned v ∧ v ≠ .slice none 0 0 ∧ w'.ownsRow w.heap.size 21 1 v (runes s.data.toList).length (I32 (runes s.data.toList)) ∧ Below w.heap.size w w' := by
  obtain ⟨i0, hi, hz0, hz1, hz2⟩ := info_parts info21
  go_enter Try.func27, Try.ntmps27
  go_wp2
  go_loopw [3] (fun v wr => ∃ (pos : Nat) (acc : List Int), v ≠ .slice none 0 0 ∧ wr.ownsRow w.heap.size 21 1 v acc.length (I32 acc) ∧ wr.heap[w.heap.size + 1]? = some (.stringIter s pos) ∧ Below w.heap.size w wr ∧ acc ++ runes (s.data.toList.drop pos) = runes s.data.toList ∧ acc.length ≤ pos) (fun _ wr => s.size - wr.iterPos (w.heap.size + 1))
  case atStart =>
    refine ⟨0, [], by simp, (World.ownsRow_made w #[] 0 (Nat.le_refl _) (by decide) rfl).alloc _, ?_, ((Below.refl _ w).alloc (Nat.le_refl _) _).alloc (by simp) _, rfl, by simp⟩
    have := World.iter_heap (w.alloc (.cells #[] 21)) s 0
    simpa using this
  case round =>
    obtain ⟨pos, acc, hne, hown, hit, hbw, hacc, hal⟩ := hrel
    have hsz : w.heap.size + 1 < wr.heap.size := (Array.getElem?_eq_some_iff.1 hit).1
    by_cases hp : pos < s.size
    · obtain ⟨W2, hW2⟩ : ∃ W2, W2 = wr.iterAt (w.heap.size + 1) s (pos + (Utf8.decode s pos).2) := ⟨_, rfl⟩
      have hnx : ∀ ty, (Instr.next (.pointer (some ⟨w.heap.size + 1, 0, none⟩)) true ty).run Try.prog wr = .ok (.tuple #[.bool true, .int .i64 pos, .int .i32 (Utf8.decode s pos).1]) W2 := fun ty => by
        rw [hW2]
        exact Lib.run_next_any_at wr (w.heap.size + 1) s pos ty hit hp
      have hwd := width_pos s pos hp
      have hd1 := decode_le s pos
      have hown2 := owns_iterAt hown hit (pos + (Utf8.decode s pos).2)
      have hit2 := Lib.iterAt_heap wr (w.heap.size + 1) s pos (pos + (Utf8.decode s pos).2) hit
      have hbw2 := Lib.below_iterAt hbw (k := w.heap.size + 1) (by omega) s (pos + (Utf8.decode s pos).2)
      have hsz2 : w.heap.size + 1 < W2.heap.size := by rw [hW2, Lib.iterAt_size]; omega
      rw [← hW2] at hown2 hit2 hbw2
      clear hW2 hown
      have HS : Hid _ := runes_at s pos hp
      have HA : Hid _ := hacc
      clear hacc
      go_wp2_with (first
        | (at_builtin; refine wpList_append_own _ rfl _ _ 28 rfl w.heap.size 21 i0 (.int .i32 0) 1 4 Try.underlying28 hi hz0 hz1 hz2 rfl (by decide) _ _ _ rfl (hown2.alloc _) ⟨W2.heap.size, 0, none⟩ 1 1 [.int .i32 (Utf8.decode s pos).1] rfl rfl ?c1 ?c2 ?c3 ?c4 ?c5 ?_)
        | go_in)
      case c1 => exact cell_one W2 _ 21
      case c2 => intro u hu; simp at hu; subst hu; rfl
      case c3 => unfold maxLen; omega
      case c4 => omega
      case c5 => simp; omega
      · intro v' w1 hown' hgrow hiff
        have hne' : v' ≠ .slice none 0 0 := hiff
        have hit3 := iter_grown (hown2.alloc _) hgrow (heap_alloc hit2 _)
        have hbw3 := below_grown (hbw2.alloc (by omega) _) (hown2.alloc _) hgrow (by simp; omega) (Nat.le_refl _)
        clear hiff
        go_wp2
        go_roundw
        case rel =>
          refine ⟨pos + (Utf8.decode s pos).2, acc ++ [((Utf8.decode s pos).1 : Int)], hne', ?_, hit3, hbw3, ?_, by simp; omega⟩
          · have e1 : (acc ++ [((Utf8.decode s pos).1 : Int)]).length = acc.length + 1 := by simp
            rw [e1]
            have e2 : I32 (acc ++ [((Utf8.decode s pos).1 : Int)]) = I32 acc ++ [.int .i32 (Utf8.decode s pos).1] := by simp [I32]
            rw [e2]
            exact hown'
          · rw [← HA.out, HS.out]; simp
        case measure =>
          simp only [World.iterPos, hit3, hit]
          omega
    · have hnx : ∀ ty, (Instr.next (.pointer (some ⟨w.heap.size + 1, 0, none⟩)) true ty).run Try.prog wr = _ := fun ty => Lib.run_next_end_at wr (w.heap.size + 1) s pos ty hit hp
      rw [runes_over s pos hp, List.append_nil] at hacc
      subst hacc
      go_wp2
      go_ret
      exact ⟨_, rfl, hne, hown, hbw⟩

/-- A list of characters in a row of the call's own is turned into their text. -/
theorem convert_row {w : World} {base : Nat} {v : Value} {l : List Int} (h : w.ownsRow base 21 1 v l.length (I32 l)) (hv : ∀ r ∈ l, ValidR r) :
    (convert 28 9 v).run Try.prog w = .ok (.string ⟨(encs l).toArray⟩) w := by
  by_cases hn : v = .slice none 0 0
  · subst hn
    have hl : l.length = 0 := by
      rcases h.2 with ⟨_, h2⟩ | ⟨g, cap, cur, h2, _⟩
      · exact h2
      · cases h2
    have : l = [] := List.length_eq_zero_iff.1 hl
    subst this
    rw [run_convert_runes_nil w 28 9 21 0 0 Try.underlying28 Try.underlying21 Try.underlying9]
    rfl
  · obtain ⟨g, cap, rfl, _, _, hc⟩ := owns_form h hn
    rw [run_convert_runes w 28 9 21 ⟨g, 0, none⟩ l.length cap l (Nat.le_refl _) Try.underlying28 Try.underlying21 Try.underlying9 (by
      intro j hj
      rw [Addr.add_lit, Nat.zero_add, hc j hj]
      simp [I32, hj])]
    rw [List.take_length, runesBytes_eq l hv]

set_option maxHeartbeats 4000000 in
set_option maxRecDepth 1000000 in
theorem rupcase_any (s : ByteArray) (w : World) (hs : s.size ≤ 17592186044416) :
    Calls Try.prog 20 #[.string s] w fun e w' => e = .returned (.string ⟨(upcase s.data.toList).toArray⟩) ∧ Below w.heap.size w w' := by
  obtain ⟨i0, hi, hz0, hz1, hz2⟩ := info_parts info21
  go_enter Try.func20, Try.ntmps20
  go_wp2
  go_loopw [3] (fun v wr => ∃ (pos : Nat) (acc : List Int), wr.ownsRow w.heap.size 21 1 v acc.length (I32 acc) ∧ wr.heap[w.heap.size + 1]? = some (.stringIter s pos) ∧ Below w.heap.size w wr ∧ acc ++ (runes (s.data.toList.drop pos)).flatMap upC = (runes s.data.toList).flatMap upC ∧ acc.length ≤ 2 * pos) (fun _ wr => s.size - wr.iterPos (w.heap.size + 1))
  case atStart =>
    refine ⟨0, [], (World.ownsRow_made w #[] 0 (Nat.le_refl _) (by decide) rfl).alloc _, ?_, ((Below.refl _ w).alloc (Nat.le_refl _) _).alloc (by simp) _, rfl, by simp⟩
    have := World.iter_heap (w.alloc (.cells #[] 21)) s 0
    simpa using this
  case round =>
    obtain ⟨pos, acc, hown, hit, hbw, hacc, hal⟩ := hrel
    have hsz : w.heap.size + 1 < wr.heap.size := (Array.getElem?_eq_some_iff.1 hit).1
    by_cases hp : pos < s.size
    · obtain ⟨W2, hW2⟩ : ∃ W2, W2 = wr.iterAt (w.heap.size + 1) s (pos + (Utf8.decode s pos).2) := ⟨_, rfl⟩
      have hnx : ∀ ty, (Instr.next (.pointer (some ⟨w.heap.size + 1, 0, none⟩)) true ty).run Try.prog wr = .ok (.tuple #[.bool true, .int .i64 pos, .int .i32 (Utf8.decode s pos).1]) W2 := fun ty => by
        rw [hW2]
        exact Lib.run_next_any_at wr (w.heap.size + 1) s pos ty hit hp
      have hwd := width_pos s pos hp
      have hd1 := decode_le s pos
      have hown2 := owns_iterAt hown hit (pos + (Utf8.decode s pos).2)
      have hit2 := Lib.iterAt_heap wr (w.heap.size + 1) s pos (pos + (Utf8.decode s pos).2) hit
      have hbw2 := Lib.below_iterAt hbw (k := w.heap.size + 1) (by omega) s (pos + (Utf8.decode s pos).2)
      have hsz2 : w.heap.size + 1 < W2.heap.size := by rw [hW2, Lib.iterAt_size]; omega
      rw [← hW2] at hown2 hit2 hbw2
      clear hW2 hown
      have HS : Hid _ := runes_at s pos hp
      have HA : Hid _ := hacc
      clear hacc
      by_cases h223 : (Utf8.decode s pos).1 = 223
      · go_wp2_with (first
          | (at_builtin; refine wpList_append_own _ rfl _ _ 28 rfl w.heap.size 21 i0 (.int .i32 0) 1 4 Try.underlying28 hi hz0 hz1 hz2 rfl (by decide) _ _ _ rfl (hown2.alloc _) ⟨W2.heap.size, 0, none⟩ 2 2 [.int .i32 83, .int .i32 83] rfl rfl ?c1 ?c2 ?c3 ?c4 ?c5 ?_)
          | go_in)
        case c1 => exact cell_two_new W2 _ _ 21
        case c2 => intro u hu; simp at hu; subst hu; rfl
        case c3 => unfold maxLen; omega
        case c4 => omega
        case c5 => simp; omega
        · intro v' w1 hown' hgrow hiff
          have hit3 := iter_grown (hown2.alloc _) hgrow (heap_alloc hit2 _)
          have hbw3 := below_grown (hbw2.alloc (by omega) _) (hown2.alloc _) hgrow (by simp; omega) (Nat.le_refl _)
          clear hiff
          go_wp2
          go_roundw
          case rel =>
            refine ⟨pos + (Utf8.decode s pos).2, acc ++ [83, 83], ?_, hit3, hbw3, ?_, by simp; omega⟩
            · have e1 : (acc ++ [(83 : Int), 83]).length = acc.length + 2 := by simp
              rw [e1]
              have e2 : I32 (acc ++ [83, 83]) = I32 acc ++ [.int .i32 83, .int .i32 83] := by simp [I32]
              rw [e2]
              exact hown'
            · rw [← HA.out, HS.out, List.flatMap_cons, h223]; simp [upC]
          case measure =>
            simp only [World.iterPos, hit3, hit]
            omega
      · go_wp2_with (first
          | (at_builtin; refine wpList_append_own _ rfl _ _ 28 rfl w.heap.size 21 i0 (.int .i32 0) 1 4 Try.underlying28 hi hz0 hz1 hz2 rfl (by decide) _ _ _ rfl (hown2.alloc _) ⟨W2.heap.size, 0, none⟩ 1 1 [.int .i32 (upZ (Utf8.decode s pos).1)] rfl rfl ?c1 ?c2 ?c3 ?c4 ?c5 ?_)
          | (go_at_call 10; refine (rup_any _ _).mono ?_; rintro e w' ⟨rfl, hw⟩; have hw := hw.symm; subst hw)
          | go_in)
        case c1 => exact cell_one W2 _ 21
        case c2 => intro u hu; simp at hu; subst hu; rfl
        case c3 => unfold maxLen; omega
        case c4 => omega
        case c5 => simp; omega
        · intro v' w1 hown' hgrow hiff
          have hit3 := iter_grown (hown2.alloc _) hgrow (heap_alloc hit2 _)
          have hbw3 := below_grown (hbw2.alloc (by omega) _) (hown2.alloc _) hgrow (by simp; omega) (Nat.le_refl _)
          clear hiff
          go_wp2
          go_roundw
          case rel =>
            refine ⟨pos + (Utf8.decode s pos).2, acc ++ [upZ (Utf8.decode s pos).1], ?_, hit3, hbw3, ?_, by simp; omega⟩
            · have e1 : (acc ++ [upZ (Utf8.decode s pos).1]).length = acc.length + 1 := by simp
              rw [e1]
              have e2 : I32 (acc ++ [upZ (Utf8.decode s pos).1]) = I32 acc ++ [.int .i32 (upZ (Utf8.decode s pos).1)] := by simp [I32]
              rw [e2]
              exact hown'
            · rw [← HA.out, HS.out, List.flatMap_cons]
              have : ¬ ((Utf8.decode s pos).1 : Int) = 223 := by omega
              simp [upC, this]
          case measure =>
            simp only [World.iterPos, hit3, hit]
            omega
    · have hnx : ∀ ty, (Instr.next (.pointer (some ⟨w.heap.size + 1, 0, none⟩)) true ty).run Try.prog wr = _ := fun ty => Lib.run_next_end_at wr (w.heap.size + 1) s pos ty hit hp
      rw [runes_over s pos hp, List.flatMap_nil, List.append_nil] at hacc
      have hcv := convert_row hown (by rw [hacc]; exact flat_valid upC upC_valid _ (runes_valid _))
      subst hacc
      go_wp2
      go_ret
      exact ⟨rfl, hbw⟩
end Go.Proofs.Ytmoakjonlfilgaa
