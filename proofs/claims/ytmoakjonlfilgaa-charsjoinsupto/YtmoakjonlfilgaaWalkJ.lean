/- Walks of the document's Fold, downs, Downcase and Titlecase. -/
import Derived.Test.YtmoakjonlfilgaaWalkF
import Derived.Test.YtmoakjonlfilgaaWalkG
import Derived.Test.YtmoakjonlfilgaaWalkH
namespace Go.Proofs.Ytmoakjonlfilgaa
open Go.RowKit
set_option linter.unusedSimpArgs false
set_option linter.unusedVariables false

set_option maxHeartbeats 4000000 in
set_option maxRecDepth 1000000 in
theorem rfold_any (s : ByteArray) (w : World) (hs : s.size ≤ 17592186044416) :
    Calls Try.prog 24 #[.string s] w fun e w' => e = .returned (.string ⟨(fold s.data.toList).toArray⟩) ∧ Below w.heap.size w w' := by
  obtain ⟨i0, hi, hz0, hz1, hz2⟩ := info_parts info21
  go_enter Try.func24, Try.ntmps24
  go_wp2
  go_loopw [3] (fun v wr => ∃ (pos : Nat) (acc : List Int), wr.ownsRow w.heap.size 21 1 v acc.length (I32 acc) ∧ wr.heap[w.heap.size + 1]? = some (.stringIter s pos) ∧ Below w.heap.size w wr ∧ acc ++ (runes (s.data.toList.drop pos)).flatMap foldC = (runes s.data.toList).flatMap foldC ∧ acc.length ≤ 2 * pos) (fun _ wr => s.size - wr.iterPos (w.heap.size + 1))
  case atStart =>
    refine ⟨0, [], (World.ownsRow_made w #[] 0 (Nat.le_refl _) (by decide) rfl).alloc _, ?_, ((Below.refl _ w).alloc (Nat.le_refl _) _).alloc (by simp) _, rfl, by simp⟩
    have := World.iter_heap (w.alloc (.cells #[] 21)) s 0
    simpa using this
  case round =>
    obtain ⟨pos, acc, hown, hit, hbw, hacc, hal⟩ := hrel
    have hsz : w.heap.size + 1 < wr.heap.size := (Array.getElem?_eq_some_iff.1 hit).1
    by_cases hp : pos < s.size
    · obtain ⟨W2, hW2⟩ : ∃ W2, W2 = wr.iterAt (w.heap.size + 1) s (pos + (Utf8.decode s pos).2) := ⟨_, rfl⟩
      have hnx : ∀ ty, (Instr.next (.pointer (some ⟨w.heap.size + 1, 0, none⟩)) true ty).run Try.prog wr = .ok (.tuple #[.bool true, .int .i64 pos, .int .i32 (Utf8.decode s pos).1]) W2 := fun ty => by
        rw [hW2]
        exact Lib.run_next_any_at wr (w.heap.size + 1) s pos ty hit hp
      have hwd := width_pos s pos hp
      have hd1 := decode_le s pos
      have hown2 := owns_iterAt hown hit (pos + (Utf8.decode s pos).2)
      have hit2 := Lib.iterAt_heap wr (w.heap.size + 1) s pos (pos + (Utf8.decode s pos).2) hit
      have hbw2 := Lib.below_iterAt hbw (k := w.heap.size + 1) (by omega) s (pos + (Utf8.decode s pos).2)
      have hsz2 : w.heap.size + 1 < W2.heap.size := by rw [hW2, Lib.iterAt_size]; omega
      rw [← hW2] at hown2 hit2 hbw2
      clear hW2 hown
      have HS : Hid _ := runes_at s pos hp
      have HA : Hid _ := hacc
      clear hacc
      by_cases h223 : (Utf8.decode s pos).1 = 223
      · go_wp2_with (first
          | (at_builtin; refine wpList_append_own _ rfl _ _ 28 rfl w.heap.size 21 i0 (.int .i32 0) 1 4 Try.underlying28 hi hz0 hz1 hz2 rfl (by decide) _ _ _ rfl (hown2.alloc _) ⟨W2.heap.size, 0, none⟩ 2 2 [.int .i32 115, .int .i32 115] rfl rfl ?c1 ?c2 ?c3 ?c4 ?c5 ?_)
          | go_in)
        case c1 => exact cell_two_new W2 _ _ 21
        case c2 => intro u hu; simp at hu; subst hu; rfl
        case c3 => unfold maxLen; omega
        case c4 => omega
        case c5 => simp; omega
        · intro v' w1 hown' hgrow hiff
          have hit3 := iter_grown (hown2.alloc _) hgrow (heap_alloc hit2 _)
          have hbw3 := below_grown (hbw2.alloc (by omega) _) (hown2.alloc _) hgrow (by simp; omega) (Nat.le_refl _)
          clear hiff
          go_wp2
          go_roundw
          case rel =>
            refine ⟨pos + (Utf8.decode s pos).2, acc ++ [115, 115], ?_, hit3, hbw3, ?_, by simp; omega⟩
            · have e1 : (acc ++ [(115 : Int), 115]).length = acc.length + 2 := by simp
              rw [e1]
              have e2 : I32 (acc ++ [115, 115]) = I32 acc ++ [.int .i32 115, .int .i32 115] := by simp [I32]
              rw [e2]
              exact hown'
            · rw [← HA.out, HS.out, List.flatMap_cons, h223]; simp [foldC]
          case measure =>
            simp only [World.iterPos, hit3, hit]
            omega
      · have hub := upZ_bd ((Utf8.decode s pos).1 : Int) (by omega) (by omega)
        go_wp2_with (go_at_call 10; refine (rup_any _ _).mono ?_; rintro e w' ⟨rfl, hw⟩; have hw := hw.symm; subst hw)
        refine (rdown_any _ (by omega) (by omega) _).mono ?_
        rintro e W3 ⟨rfl, b3⟩
        have hown3 := owns_below hown2 b3
        have hit3 := heap_below hit2 b3
        have hbw3 := hbw2.trans (b3.mono (by omega))
        have hsz3 : w.heap.size + 1 < W3.heap.size := Nat.lt_of_lt_of_le hsz2 b3.size
        clear b3 hown2 hit2 hbw2 hsz2 hnx
        go_wp2_with (first
          | (at_builtin; refine wpList_append_own _ rfl _ _ 28 rfl w.heap.size 21 i0 (.int .i32 0) 1 4 Try.underlying28 hi hz0 hz1 hz2 rfl (by decide) _ _ _ rfl (hown3.alloc _) ⟨W3.heap.size, 0, none⟩ 1 1 [.int .i32 (downZ (upZ (Utf8.decode s pos).1))] rfl rfl (by exact cell_one W3 _ 21) (by intro u hu; simp at hu; subst hu; rfl) (by unfold maxLen; omega) (by omega) (by simp; omega) ?_)
          | go_in)
        · intro v' w1 hown' hgrow hiff
          have hit4 := iter_grown (hown3.alloc _) hgrow (heap_alloc hit3 _)
          have hbw4 := below_grown (hbw3.alloc (by omega) _) (hown3.alloc _) hgrow (by simp; omega) (Nat.le_refl _)
          clear hiff
          go_wp2
          go_roundw
          case rel =>
            refine ⟨pos + (Utf8.decode s pos).2, acc ++ [downZ (upZ (Utf8.decode s pos).1)], ?_, hit4, hbw4, ?_, by simp; omega⟩
            · have e1 : (acc ++ [downZ (upZ (Utf8.decode s pos).1)]).length = acc.length + 1 := by simp
              rw [e1]
              have e2 : I32 (acc ++ [downZ (upZ (Utf8.decode s pos).1)]) = I32 acc ++ [.int .i32 (downZ (upZ (Utf8.decode s pos).1))] := by simp [I32]
              rw [e2]
              exact hown'
            · rw [← HA.out, HS.out, List.flatMap_cons]
              have : ¬ ((Utf8.decode s pos).1 : Int) = 223 := by omega
              simp [foldC, this]
          case measure =>
            simp only [World.iterPos, hit4, hit]
            omega
    · have hnx : ∀ ty, (Instr.next (.pointer (some ⟨w.heap.size + 1, 0, none⟩)) true ty).run Try.prog wr = _ := fun ty => Lib.run_next_end_at wr (w.heap.size + 1) s pos ty hit hp
      rw [runes_over s pos hp, List.flatMap_nil, List.append_nil] at hacc
      have hcv := convert_row hown (by rw [hacc]; exact flat_valid foldC foldC_valid _ (runes_valid _))
      subst hacc
      go_wp2
      go_ret
      exact ⟨rfl, hbw⟩

theorem downL_len : ∀ (l : List Int) (a : Bool), (downL a l).length = l.length
  | [], _ => rfl
  | r :: l, a => by simp [downL, downL_len l]
/-- What stands ahead of place k. -/
def aheadAt (a : Bool) (l : List Int) : Nat → Bool
  | 0 => a
  | k + 1 => letterB (l.getD k 0)
theorem downL_get : ∀ (l : List Int) (a : Bool) (k : Nat), k < l.length → (downL a l)[k]? = some (downAt (aheadAt a l k) (l.getD k 0) (l.drop (k + 1)))
  | [], _, _, h => by simp at h
  | r :: l, a, 0, _ => by simp [downL, aheadAt]
  | r :: l, a, k + 1, h => by
    have ih := downL_get l (letterB r) k (by simpa using h)
    simp only [downL, List.getElem?_cons_succ, List.drop_succ_cons, List.getD_cons_succ]
    rw [ih]
    cases k with
    | zero => simp [aheadAt]
    | succ k => simp [aheadAt]
theorem headLetter_drop (l : List Int) (k : Nat) : headLetter (l.drop k) = if k < l.length then letterB (l.getD k 0) else false := by
  split
  · rename_i h
    rw [List.drop_eq_getElem_cons h]
    simp [headLetter, List.getD, h]
  · rename_i h
    rw [List.drop_eq_nil_of_le (by omega)]
    rfl

/-- A row of characters in memory. -/
def RowAt (w : World) (g : Nat) (l : List Int) : Prop := g < w.heap.size ∧ ∀ j, j < l.length → w.cell? ⟨g, j, none⟩ = some (.int .i32 (l.getD j 0))
theorem RowAt.keep {w w' : World} {g : Nat} {l : List Int} {B : Nat} (h : RowAt w g l) (hB : g < B) (hb : Below B w w') : RowAt w' g l :=
  ⟨Nat.lt_of_lt_of_le h.1 hb.size, fun j hj => (hb.cell (p := ⟨g, j, none⟩) hB).trans (h.2 j hj)⟩

theorem row_cell {w : World} {g : Nat} {l : List Int} (h : RowAt w g l) {j : Nat} {x : Int} (hj : j < l.length) (hx : x = l.getD j 0) : w.cell? ⟨g, j, none⟩ = some (.int .i32 x) := by
  rw [hx]
  exact h.2 j hj
theorem valid_getD {l : List Int} (hv : ∀ r ∈ l, ValidR r) {j : Nat} (hj : j < l.length) : ValidR (l.getD j 0) := by
  apply hv
  simp [List.getD, hj]
theorem down931 : downZ 931 = 963 := by decide +kernel
theorem downs_rel {w1 : World} {B k : Nat} {v : Value} {D : List Int} {y : Int} (hy : D[k]? = some y) (h : w1.ownsRow B 21 1 v (k + 1) ((I32 D).take k ++ [.int .i32 y])) : w1.ownsRow B 21 1 v (k + 1) ((I32 D).take (k + 1)) := by
  have e : (I32 D).take (k + 1) = (I32 D).take k ++ [.int .i32 y] := by
    rw [List.take_add_one]
    simp [I32, hy]
  rw [e]
  exact h

set_option maxHeartbeats 8000000 in
set_option maxRecDepth 1000000 in
theorem rdowns_any (g cap : Nat) (l : List Int) (hl : l.length ≤ 17592186044416) (hv : ∀ r ∈ l, ValidR r) (w : World) (hrow : RowAt w g l) :
    Calls Try.prog 37 #[.slice (some ⟨g, 0, none⟩) l.length cap] w fun e w' => ∃ v, e = .returned v ∧ v ≠ .slice none 0 0 ∧ w'.ownsRow w.heap.size 21 1 v l.length (I32 (downL false l)) ∧ Below w.heap.size w w' := by
  obtain ⟨i0, hi, hz0, hz1, hz2⟩ := info_parts info21
  go_enter Try.func37, Try.ntmps37
  go_wp2
  go_loopw [3, 4] (fun v i wr => ∃ k : Nat, k ≤ l.length ∧ i = .int .i64 k ∧ v ≠ .slice none 0 0 ∧ wr.ownsRow w.heap.size 21 1 v k ((I32 (downL false l)).take k) ∧ Below w.heap.size w wr) (fun _ i _ => l.length - (intOf i).toNat)
  case atStart =>
    exact ⟨0, Nat.zero_le _, rfl, by simp, World.ownsRow_made w #[] 0 (Nat.le_refl _) (by decide) rfl, (Below.refl _ w).alloc (Nat.le_refl _) _⟩
  case round =>
    obtain ⟨k, hk, rfl, hne, hown2, hbw2⟩ := hrel
    by_cases hlt : k < l.length
    · have hsz2 := hbw2.size
      have HG : Hid _ := downL_get l false k hlt
      have HN : Hid _ := headLetter_drop l (k + 1)
      obtain ⟨x, hx⟩ : ∃ x, x = l.getD (k) 0 := ⟨_, rfl⟩
      have hxb := valid_bd (valid_getD hv (j := k) (by omega))
      rw [← hx] at hxb
      have HX : Hid _ := hx
      clear hx
      rw [← HX.out] at HG
      have hcx2 := row_cell (hrow.keep hrow.1 hbw2) (j := k) (by omega) HX.out
      by_cases h931 : x = 931
      · subst h931
        by_cases hn : k + 1 < l.length
        · rw [if_pos hn] at HN
          obtain ⟨y, hy⟩ : ∃ y, y = l.getD (k + 1) 0 := ⟨_, rfl⟩
          have hyb := valid_bd (valid_getD hv (j := k + 1) (by omega))
          rw [← hy] at hyb
          have HY : Hid _ := hy
          clear hy
          rw [← HY.out] at HN
          cases k with
          | zero =>
            go_wp2_with fail
            refine (rdown_any _ (by omega) (by omega) _).mono ?_
            rintro e W3 ⟨rfl, b3⟩
            have hown3 := owns_below hown2 b3
            have hbw3 := hbw2.trans (b3.mono hsz2)
            have hsz3 := hbw3.size
            have hcx3 := row_cell (hrow.keep hrow.1 hbw3) (j := 0) (by omega) HX.out
            have hcy3 := row_cell (hrow.keep hrow.1 hbw3) (j := 0 + 1) (by omega) HY.out
            go_wp2_with fail
            refine (rletter_any y (by omega) (by omega) _).mono ?_
            rintro e W4 ⟨rfl, b4⟩
            have hown4 := owns_below hown3 b4
            have hbw4 := hbw3.trans (b4.mono hsz3)
            have hsz4 := hbw4.size
            go_wp2_with (first
              | (at_builtin; refine wpList_append_own _ rfl _ _ 28 rfl w.heap.size 21 i0 (.int .i32 0) 1 4 Try.underlying28 hi hz0 hz1 hz2 rfl (by decide) _ _ _ rfl (hown4.alloc _) ⟨W4.heap.size, 0, none⟩ 1 1 [.int .i32 (963)] rfl rfl (by exact cell_one W4 _ 21) (by intro u hu; simp at hu; subst hu; rfl) (by unfold maxLen; omega) (by omega) (by simp; omega) ?_)
              | go_in)
            intro v' w1 hown' hgrow hiff
            have hbw9 := below_grown (hbw4.alloc hsz4 _) (hown4.alloc _) hgrow (by simp; omega) (Nat.le_refl _)
            have hne' : v' ≠ .slice none 0 0 := hiff
            have R := downs_rel (y := 963) (HG.out.trans (congrArg some (by simp [downAt, aheadAt, down931]))) hown'
            clear hiff hown' hgrow
            go_wp2
            go_roundw
            case rel => exact ⟨_, by omega, by go_num, hne', R, hbw9⟩
            case measure => simp [intOf]; omega
          | succ m =>
            obtain ⟨p, hp⟩ : ∃ p, p = l.getD (m) 0 := ⟨_, rfl⟩
            have hpb := valid_bd (valid_getD hv (j := m) (by omega))
            rw [← hp] at hpb
            have HP : Hid _ := hp
            clear hp
            have HA : Hid (aheadAt false l (m + 1) = letterB p) := by
              show _ = _
              rw [HP.out]
              rfl
            by_cases hlp : letterB p = true
            · by_cases hly : letterB y = true
              · go_wp2_with fail
                refine (rdown_any _ (by omega) (by omega) _).mono ?_
                rintro e W3 ⟨rfl, b3⟩
                have hown3 := owns_below hown2 b3
                have hbw3 := hbw2.trans (b3.mono hsz2)
                have hsz3 := hbw3.size
                have hcx3 := row_cell (hrow.keep hrow.1 hbw3) (j := m + 1) (by omega) HX.out
                have hcy3 := row_cell (hrow.keep hrow.1 hbw3) (j := m + 1 + 1) (by omega) HY.out
                have hcp3 := row_cell (hrow.keep hrow.1 hbw3) (j := m) (by omega) HP.out
                go_wp2_with fail
                refine (rletter_any p (by omega) (by omega) _).mono ?_
                rintro e W4 ⟨rfl, b4⟩
                have hown4 := owns_below hown3 b4
                have hbw4 := hbw3.trans (b4.mono hsz3)
                have hsz4 := hbw4.size
                have hcy4 := row_cell (hrow.keep hrow.1 hbw4) (j := m + 1 + 1) (by omega) HY.out
                go_wp2_with fail
                refine (rletter_any y (by omega) (by omega) _).mono ?_
                rintro e W5 ⟨rfl, b5⟩
                have hown5 := owns_below hown4 b5
                have hbw5 := hbw4.trans (b5.mono hsz4)
                have hsz5 := hbw5.size
                go_wp2_with (first
                  | (at_builtin; refine wpList_append_own _ rfl _ _ 28 rfl w.heap.size 21 i0 (.int .i32 0) 1 4 Try.underlying28 hi hz0 hz1 hz2 rfl (by decide) _ _ _ rfl (hown5.alloc _) ⟨W5.heap.size, 0, none⟩ 1 1 [.int .i32 (963)] rfl rfl (by exact cell_one W5 _ 21) (by intro u hu; simp at hu; subst hu; rfl) (by unfold maxLen; omega) (by omega) (by simp; omega) ?_)
                  | go_in)
                intro v' w1 hown' hgrow hiff
                have hbw9 := below_grown (hbw5.alloc hsz5 _) (hown5.alloc _) hgrow (by simp; omega) (Nat.le_refl _)
                have hne' : v' ≠ .slice none 0 0 := hiff
                have R := downs_rel (y := 963) (HG.out.trans (congrArg some (by simp [downAt, HN.out, hly, down931]))) hown'
                clear hiff hown' hgrow
                go_wp2
                go_roundw
                case rel => exact ⟨_, by omega, by go_num, hne', R, hbw9⟩
                case measure => simp [intOf]; omega
              · have hly0 : letterB y = false := by simpa using hly
                clear hly
                go_wp2_with fail
                refine (rdown_any _ (by omega) (by omega) _).mono ?_
                rintro e W3 ⟨rfl, b3⟩
                have hown3 := owns_below hown2 b3
                have hbw3 := hbw2.trans (b3.mono hsz2)
                have hsz3 := hbw3.size
                have hcx3 := row_cell (hrow.keep hrow.1 hbw3) (j := m + 1) (by omega) HX.out
                have hcy3 := row_cell (hrow.keep hrow.1 hbw3) (j := m + 1 + 1) (by omega) HY.out
                have hcp3 := row_cell (hrow.keep hrow.1 hbw3) (j := m) (by omega) HP.out
                go_wp2_with fail
                refine (rletter_any p (by omega) (by omega) _).mono ?_
                rintro e W4 ⟨rfl, b4⟩
                have hown4 := owns_below hown3 b4
                have hbw4 := hbw3.trans (b4.mono hsz3)
                have hsz4 := hbw4.size
                have hcy4 := row_cell (hrow.keep hrow.1 hbw4) (j := m + 1 + 1) (by omega) HY.out
                go_wp2_with fail
                refine (rletter_any y (by omega) (by omega) _).mono ?_
                rintro e W5 ⟨rfl, b5⟩
                have hown5 := owns_below hown4 b5
                have hbw5 := hbw4.trans (b5.mono hsz4)
                have hsz5 := hbw5.size
                go_wp2_with (first
                  | (at_builtin; refine wpList_append_own _ rfl _ _ 28 rfl w.heap.size 21 i0 (.int .i32 0) 1 4 Try.underlying28 hi hz0 hz1 hz2 rfl (by decide) _ _ _ rfl (hown5.alloc _) ⟨W5.heap.size, 0, none⟩ 1 1 [.int .i32 (962)] rfl rfl (by exact cell_one W5 _ 21) (by intro u hu; simp at hu; subst hu; rfl) (by unfold maxLen; omega) (by omega) (by simp; omega) ?_)
                  | go_in)
                intro v' w1 hown' hgrow hiff
                have hbw9 := below_grown (hbw5.alloc hsz5 _) (hown5.alloc _) hgrow (by simp; omega) (Nat.le_refl _)
                have hne' : v' ≠ .slice none 0 0 := hiff
                have R := downs_rel (y := 962) (HG.out.trans (congrArg some (by simp [downAt, HA.out, HN.out, hlp, hly0]))) hown'
                clear hiff hown' hgrow
                go_wp2
                go_roundw
                case rel => exact ⟨_, by omega, by go_num, hne', R, hbw9⟩
                case measure => simp [intOf]; omega
            · have hlp0 : letterB p = false := by simpa using hlp
              clear hlp
              go_wp2_with fail
              refine (rdown_any _ (by omega) (by omega) _).mono ?_
              rintro e W3 ⟨rfl, b3⟩
              have hown3 := owns_below hown2 b3
              have hbw3 := hbw2.trans (b3.mono hsz2)
              have hsz3 := hbw3.size
              have hcx3 := row_cell (hrow.keep hrow.1 hbw3) (j := m + 1) (by omega) HX.out
              have hcy3 := row_cell (hrow.keep hrow.1 hbw3) (j := m + 1 + 1) (by omega) HY.out
              have hcp3 := row_cell (hrow.keep hrow.1 hbw3) (j := m) (by omega) HP.out
              go_wp2_with fail
              refine (rletter_any p (by omega) (by omega) _).mono ?_
              rintro e W4 ⟨rfl, b4⟩
              have hown4 := owns_below hown3 b4
              have hbw4 := hbw3.trans (b4.mono hsz3)
              have hsz4 := hbw4.size
              have hcy4 := row_cell (hrow.keep hrow.1 hbw4) (j := m + 1 + 1) (by omega) HY.out
              go_wp2_with fail
              refine (rletter_any y (by omega) (by omega) _).mono ?_
              rintro e W5 ⟨rfl, b5⟩
              have hown5 := owns_below hown4 b5
              have hbw5 := hbw4.trans (b5.mono hsz4)
              have hsz5 := hbw5.size
              go_wp2_with (first
                | (at_builtin; refine wpList_append_own _ rfl _ _ 28 rfl w.heap.size 21 i0 (.int .i32 0) 1 4 Try.underlying28 hi hz0 hz1 hz2 rfl (by decide) _ _ _ rfl (hown5.alloc _) ⟨W5.heap.size, 0, none⟩ 1 1 [.int .i32 (963)] rfl rfl (by exact cell_one W5 _ 21) (by intro u hu; simp at hu; subst hu; rfl) (by unfold maxLen; omega) (by omega) (by simp; omega) ?_)
                | go_in)
              intro v' w1 hown' hgrow hiff
              have hbw9 := below_grown (hbw5.alloc hsz5 _) (hown5.alloc _) hgrow (by simp; omega) (Nat.le_refl _)
              have hne' : v' ≠ .slice none 0 0 := hiff
              have R := downs_rel (y := 963) (HG.out.trans (congrArg some (by simp [downAt, HA.out, hlp0, down931]))) hown'
              clear hiff hown' hgrow
              go_wp2
              go_roundw
              case rel => exact ⟨_, by omega, by go_num, hne', R, hbw9⟩
              case measure => simp [intOf]; omega
        · rw [if_neg hn] at HN
          cases k with
          | zero =>
            go_wp2_with fail
            refine (rdown_any _ (by omega) (by omega) _).mono ?_
            rintro e W3 ⟨rfl, b3⟩
            have hown3 := owns_below hown2 b3
            have hbw3 := hbw2.trans (b3.mono hsz2)
            have hsz3 := hbw3.size
            have hcx3 := row_cell (hrow.keep hrow.1 hbw3) (j := 0) (by omega) HX.out
            go_wp2_with (first
              | (at_builtin; refine wpList_append_own _ rfl _ _ 28 rfl w.heap.size 21 i0 (.int .i32 0) 1 4 Try.underlying28 hi hz0 hz1 hz2 rfl (by decide) _ _ _ rfl (hown3.alloc _) ⟨W3.heap.size, 0, none⟩ 1 1 [.int .i32 (963)] rfl rfl (by exact cell_one W3 _ 21) (by intro u hu; simp at hu; subst hu; rfl) (by unfold maxLen; omega) (by omega) (by simp; omega) ?_)
              | go_in)
            intro v' w1 hown' hgrow hiff
            have hbw9 := below_grown (hbw3.alloc hsz3 _) (hown3.alloc _) hgrow (by simp; omega) (Nat.le_refl _)
            have hne' : v' ≠ .slice none 0 0 := hiff
            have R := downs_rel (y := 963) (HG.out.trans (congrArg some (by simp [downAt, aheadAt, down931]))) hown'
            clear hiff hown' hgrow
            go_wp2
            go_roundw
            case rel => exact ⟨_, by omega, by go_num, hne', R, hbw9⟩
            case measure => simp [intOf]; omega
          | succ m =>
            obtain ⟨p, hp⟩ : ∃ p, p = l.getD (m) 0 := ⟨_, rfl⟩
            have hpb := valid_bd (valid_getD hv (j := m) (by omega))
            rw [← hp] at hpb
            have HP : Hid _ := hp
            clear hp
            have HA : Hid (aheadAt false l (m + 1) = letterB p) := by
              show _ = _
              rw [HP.out]
              rfl
            by_cases hlp : letterB p = true
            · go_wp2_with fail
              refine (rdown_any _ (by omega) (by omega) _).mono ?_
              rintro e W3 ⟨rfl, b3⟩
              have hown3 := owns_below hown2 b3
              have hbw3 := hbw2.trans (b3.mono hsz2)
              have hsz3 := hbw3.size
              have hcx3 := row_cell (hrow.keep hrow.1 hbw3) (j := m + 1) (by omega) HX.out
              have hcp3 := row_cell (hrow.keep hrow.1 hbw3) (j := m) (by omega) HP.out
              go_wp2_with fail
              refine (rletter_any p (by omega) (by omega) _).mono ?_
              rintro e W4 ⟨rfl, b4⟩
              have hown4 := owns_below hown3 b4
              have hbw4 := hbw3.trans (b4.mono hsz3)
              have hsz4 := hbw4.size
              go_wp2_with (first
                | (at_builtin; refine wpList_append_own _ rfl _ _ 28 rfl w.heap.size 21 i0 (.int .i32 0) 1 4 Try.underlying28 hi hz0 hz1 hz2 rfl (by decide) _ _ _ rfl (hown4.alloc _) ⟨W4.heap.size, 0, none⟩ 1 1 [.int .i32 (962)] rfl rfl (by exact cell_one W4 _ 21) (by intro u hu; simp at hu; subst hu; rfl) (by unfold maxLen; omega) (by omega) (by simp; omega) ?_)
                | go_in)
              intro v' w1 hown' hgrow hiff
              have hbw9 := below_grown (hbw4.alloc hsz4 _) (hown4.alloc _) hgrow (by simp; omega) (Nat.le_refl _)
              have hne' : v' ≠ .slice none 0 0 := hiff
              have R := downs_rel (y := 962) (HG.out.trans (congrArg some (by simp [downAt, HA.out, HN.out, hlp]))) hown'
              clear hiff hown' hgrow
              go_wp2
              go_roundw
              case rel => exact ⟨_, by omega, by go_num, hne', R, hbw9⟩
              case measure => simp [intOf]; omega
            · have hlp0 : letterB p = false := by simpa using hlp
              clear hlp
              go_wp2_with fail
              refine (rdown_any _ (by omega) (by omega) _).mono ?_
              rintro e W3 ⟨rfl, b3⟩
              have hown3 := owns_below hown2 b3
              have hbw3 := hbw2.trans (b3.mono hsz2)
              have hsz3 := hbw3.size
              have hcx3 := row_cell (hrow.keep hrow.1 hbw3) (j := m + 1) (by omega) HX.out
              have hcp3 := row_cell (hrow.keep hrow.1 hbw3) (j := m) (by omega) HP.out
              go_wp2_with fail
              refine (rletter_any p (by omega) (by omega) _).mono ?_
              rintro e W4 ⟨rfl, b4⟩
              have hown4 := owns_below hown3 b4
              have hbw4 := hbw3.trans (b4.mono hsz3)
              have hsz4 := hbw4.size
              go_wp2_with (first
                | (at_builtin; refine wpList_append_own _ rfl _ _ 28 rfl w.heap.size 21 i0 (.int .i32 0) 1 4 Try.underlying28 hi hz0 hz1 hz2 rfl (by decide) _ _ _ rfl (hown4.alloc _) ⟨W4.heap.size, 0, none⟩ 1 1 [.int .i32 (963)] rfl rfl (by exact cell_one W4 _ 21) (by intro u hu; simp at hu; subst hu; rfl) (by unfold maxLen; omega) (by omega) (by simp; omega) ?_)
                | go_in)
              intro v' w1 hown' hgrow hiff
              have hbw9 := below_grown (hbw4.alloc hsz4 _) (hown4.alloc _) hgrow (by simp; omega) (Nat.le_refl _)
              have hne' : v' ≠ .slice none 0 0 := hiff
              have R := downs_rel (y := 963) (HG.out.trans (congrArg some (by simp [downAt, HA.out, hlp0, down931]))) hown'
              clear hiff hown' hgrow
              go_wp2
              go_roundw
              case rel => exact ⟨_, by omega, by go_num, hne', R, hbw9⟩
              case measure => simp [intOf]; omega
      · have q : (x == 931) = false := by simp [h931]
        have H931 : Hid (¬ x = 931) := h931
        clear h931
        go_wp2_with fail
        refine (rdown_any _ (by omega) (by omega) _).mono ?_
        rintro e W3 ⟨rfl, b3⟩
        have hown3 := owns_below hown2 b3
        have hbw3 := hbw2.trans (b3.mono hsz2)
        have hsz3 := hbw3.size
        have hcx3 := row_cell (hrow.keep hrow.1 hbw3) (j := k) (by omega) HX.out
        go_wp2_with (first
          | (at_builtin; refine wpList_append_own _ rfl _ _ 28 rfl w.heap.size 21 i0 (.int .i32 0) 1 4 Try.underlying28 hi hz0 hz1 hz2 rfl (by decide) _ _ _ rfl (hown3.alloc _) ⟨W3.heap.size, 0, none⟩ 1 1 [.int .i32 (downZ x)] rfl rfl (by exact cell_one W3 _ 21) (by intro u hu; simp at hu; subst hu; rfl) (by unfold maxLen; omega) (by omega) (by simp; omega) ?_)
          | go_in)
        intro v' w1 hown' hgrow hiff
        have hbw9 := below_grown (hbw3.alloc hsz3 _) (hown3.alloc _) hgrow (by simp; omega) (Nat.le_refl _)
        have hne' : v' ≠ .slice none 0 0 := hiff
        have R := downs_rel (y := downZ x) (HG.out.trans (congrArg some (by have h9 := H931.out; simp [downAt, h9]))) hown'
        clear hiff hown' hgrow
        go_wp2
        go_roundw
        case rel => exact ⟨_, by omega, by go_num, hne', R, hbw9⟩
        case measure => simp [intOf]; omega
    · have e : k = l.length := by omega
      have hown3 := hown2
      rw [e, List.take_of_length_le (by simp [I32, downL_len])] at hown3
      clear hown2 e
      go_wp2
      go_ret
      exact ⟨_, rfl, hne, hown3, hbw2⟩
end Go.Proofs.Ytmoakjonlfilgaa
