/- Walks of the document's Downcase and Titlecase. -/
import Derived.Test.YtmoakjonlfilgaaWalkI
import Derived.Test.YtmoakjonlfilgaaWalkJ
namespace Go.Proofs.Ytmoakjonlfilgaa
open Go.RowKit
set_option linter.unusedSimpArgs false
set_option linter.unusedVariables false

theorem rowAt_of {w : World} {base g cap : Nat} {l : List Int} (hlt : g < w.heap.size) (hc : ∀ j, j < l.length → w.cell? ⟨g, j, none⟩ = (I32 l)[j]?) : RowAt w g l :=
  ⟨hlt, fun j hj => (hc j hj).trans (by simp [I32, hj])⟩
theorem downAt_valid (a : Bool) (r : Int) (t : List Int) (h : ValidR r) : ValidR (downAt a r t) := by
  unfold downAt
  split
  · exact validR_low _ (by omega) (by omega)
  · exact downZ_valid r h
theorem downL_valid : ∀ (l : List Int) (a : Bool), (∀ r ∈ l, ValidR r) → ∀ x ∈ downL a l, ValidR x
  | [], _, _, x, hx => by simp [downL] at hx
  | r :: l, a, h, x, hx => by
    rcases List.mem_cons.1 hx with rfl | hx
    · exact downAt_valid a r l (h r (by simp))
    · exact downL_valid l _ (fun y hy => h y (by simp [hy])) x hx
theorem titleC_valid (a : Bool) (r : Int) (t : List Int) (h : ValidR r) : ∀ x ∈ titleC a r t, ValidR x := by
  unfold titleC
  intro x hx
  split at hx
  · simp at hx; subst hx; exact h
  · split at hx
    · simp at hx; subst hx; exact downAt_valid _ r t h
    · split at hx
      · simp at hx
        rcases hx with rfl | rfl
        · exact validR_low _ (by omega) (by omega)
        · exact validR_low _ (by omega) (by omega)
      · simp at hx; subst hx; exact upZ_valid r h
theorem titleL_valid : ∀ (l : List Int) (a : Bool), (∀ r ∈ l, ValidR r) → ∀ x ∈ titleL a l, ValidR x
  | [], _, _, x, hx => by simp [titleL] at hx
  | r :: l, a, h, x, hx => by
    rcases List.mem_append.1 hx with hx | hx
    · exact titleC_valid a r l (h r (by simp)) x hx
    · exact titleL_valid l _ (fun y hy => h y (by simp [hy])) x hx
theorem titleC_len (a : Bool) (r : Int) (t : List Int) : (titleC a r t).length ≤ 2 := by
  unfold titleC
  split
  · simp
  · split
    · simp
    · split <;> simp
theorem titleL_len : ∀ (l : List Int) (a : Bool), (titleL a l).length ≤ 2 * l.length
  | [], _ => by simp [titleL]
  | r :: l, a => by
    have := titleC_len a r l
    have := titleL_len l (letterB r)
    simp only [titleL, List.length_append, List.length_cons]
    omega

set_option maxHeartbeats 2000000 in
theorem rdowncase_any (s : ByteArray) (w : World) (hs : s.size ≤ 17592186044416) :
    Calls Try.prog 22 #[.string s] w fun e w' => e = .returned (.string ⟨(downcase s.data.toList).toArray⟩) ∧ Below w.heap.size w w' := by
  have hlen := runes_len s.data.toList
  have hsl : s.data.toList.length = s.size := (Lib.size_eq s).symm
  have hlen2 : (runes s.data.toList).length ≤ 17592186044416 := by omega
  clear hlen hsl
  go_enter Try.func22, Try.ntmps22
  go_wp2_with fail
  refine (runes_any s _ (by omega)).mono ?_
  rintro e w1 ⟨v, rfl, hne, hown, b1⟩
  obtain ⟨g, cap, rfl, _, hglt, hcells⟩ := owns_form hown hne
  have hrow := rowAt_of (base := 0) (cap := cap) hglt hcells
  clear hcells hne hown
  go_wp2_with fail
  refine (rdowns_any g cap (runes s.data.toList) hlen2 (runes_valid _) w1 hrow).mono ?_
  rintro e w2 ⟨v2, rfl, hne2, hown2, b2⟩
  have hown3 := hown2
  rw [← downL_len (runes s.data.toList) false] at hown3
  have hcv := convert_row hown3 (downL_valid _ _ (runes_valid _))
  clear hown2 hown3 hne2 hrow
  go_wp2
  go_ret
  exact ⟨rfl, b1.trans (b2.mono b1.size)⟩

theorem drop_getD (l : List Int) (k : Nat) (h : k < l.length) : l.drop k = l.getD k 0 :: l.drop (k + 1) := by
  rw [List.drop_eq_getElem_cons h]
  simp [List.getD, h]
theorem title_rel {w1 : World} {B k : Nat} {v : Value} {l acc new : List Int} {x : Int} (hk : k < l.length) (hx : x = l.getD k 0) (ht : titleC (aheadAt false l k) x (l.drop (k + 1)) = new)
    (hr : acc ++ titleL (aheadAt false l k) (l.drop k) = titleL false l) (h : w1.ownsRow B 21 1 v (acc.length + new.length) (I32 acc ++ I32 new)) :
    w1.ownsRow B 21 1 v (acc ++ new).length (I32 (acc ++ new)) ∧ (acc ++ new) ++ titleL (aheadAt false l (k + 1)) (l.drop (k + 1)) = titleL false l := by
  constructor
  · have e : I32 (acc ++ new) = I32 acc ++ I32 new := by simp [I32]
    rw [e, List.length_append]
    exact h
  · rw [← hr, drop_getD l k hk, ← hx]
    show acc ++ new ++ titleL (letterB (l.getD k 0)) _ = acc ++ (titleC _ _ _ ++ titleL (letterB x) _)
    rw [ht, ← hx]
    simp
theorem plain_down (x : Int) (a : Bool) (t : List Int) (h0 : -2147483648 ≤ x) (h1 : x ≤ 2147483647) (hl : letterB x = false) : downAt a x t = x := by
  have h9 : ¬ x = 931 := by
    intro h
    rw [h] at hl
    revert hl
    decide +kernel
  have hp := pair_letters x h0 h1
  have hd : downZ x = x := by
    rcases hp with h | h
    · exact h.2
    · rw [hl] at h
      simp at h
  simp [downAt, h9, hd]

set_option maxHeartbeats 8000000 in
set_option maxRecDepth 1000000 in
theorem rtitlecase_any (s : ByteArray) (w : World) (hs : s.size ≤ 8796093022208) :
    Calls Try.prog 26 #[.string s] w fun e w' => e = .returned (.string ⟨(titlecase s.data.toList).toArray⟩) ∧ Below w.heap.size w w' := by
  obtain ⟨i0, hi, hz0, hz1, hz2⟩ := info_parts info21
  have hlen := runes_len s.data.toList
  have hsl : s.data.toList.length = s.size := (Lib.size_eq s).symm
  have hrv := runes_valid s.data.toList
  have hru := runes_any s w (by omega)
  obtain ⟨l, hl⟩ : ∃ l, l = runes s.data.toList := ⟨_, rfl⟩
  rw [← hl] at hrv hru hlen
  have HL : Hid _ := hl
  have HU : Hid _ := hru
  have hlen2 : l.length ≤ 8796093022208 := by omega
  clear hl hlen hsl hru
  go_enter Try.func26, Try.ntmps26
  go_wp2_with fail
  refine Calls.mono HU.out ?_
  rintro e w1 ⟨v, rfl, hne, hown, b1⟩
  obtain ⟨g, cap, rfl, _, hglt, hcells⟩ := owns_form hown hne
  have hrow1 := rowAt_of (base := 0) (cap := cap) hglt hcells
  clear hcells hne hown HU
  go_wp2_with fail
  refine (rdowns_any g cap l (by omega) hrv w1 hrow1).mono ?_
  rintro e w2 ⟨v2, rfl, hne2, hown2, b2⟩
  obtain ⟨g2, cap2, rfl, _, hglt2, hcells2⟩ := owns_form hown2 hne2
  rw [← downL_len l false] at hcells2
  have hrow2 := rowAt_of (base := 0) (cap := cap2) hglt2 hcells2
  have hrow := hrow1.keep hrow1.1 b2
  have hB2 := b1.trans (b2.mono b1.size)
  clear hcells2 hne2 hown2 hrow1 b1 b2 hglt hglt2
  go_wp2
  go_loopw [5, 6] (fun v i wr => ∃ (k : Nat) (acc : List Int), k ≤ l.length ∧ i = .int .i64 k ∧ wr.ownsRow w2.heap.size 21 1 v acc.length (I32 acc) ∧ Below w2.heap.size w2 wr ∧ acc ++ titleL (aheadAt false l k) (l.drop k) = titleL false l ∧ acc.length ≤ 2 * k) (fun _ i _ => l.length - (intOf i).toNat)
  case atStart =>
    exact ⟨0, [], Nat.zero_le _, rfl, World.ownsRow_made w2 #[] 0 (Nat.le_refl _) (by decide) rfl, (Below.refl _ w2).alloc (Nat.le_refl _) _, rfl, by simp⟩
  case round =>
    obtain ⟨k, acc, hk, rfl, hown3, hbw3, hrel', hal⟩ := hrel
    have HR : Hid _ := hrel'
    have hal2 : acc.length ≤ 17592186044416 := by omega
    have HAL : Hid _ := hal
    clear hrel' hal
    by_cases hlt : k < l.length
    · have hsz3 := hbw3.size
      obtain ⟨x, hx⟩ : ∃ x, x = l.getD k 0 := ⟨_, rfl⟩
      have hxb := valid_bd (valid_getD hrv (j := k) (by omega))
      rw [← hx] at hxb
      have HX : Hid _ := hx
      obtain ⟨d, hd⟩ : ∃ d, d = (downL false l).getD k 0 := ⟨_, rfl⟩
      have HD : Hid _ := hd
      have HDV : Hid (d = downAt (aheadAt false l k) x (l.drop (k + 1))) := by
        show _ = _
        rw [hd, List.getD_eq_getElem?_getD, downL_get l false k hlt, hx]
        rfl
      clear hx hd
      have hdl : (downL false l).length = l.length := downL_len l false
      have hcx3 := row_cell (hrow.keep hrow.1 hbw3) (j := k) (by omega) HX.out
      have hcd3 := row_cell (hrow2.keep hrow2.1 hbw3) (j := k) (by omega) HD.out
      by_cases hlx : letterB x = true
      · by_cases h223 : x = 223
        · subst h223
          cases k with
          | zero =>
            go_wp2_with fail
            refine (rletter_any _ (by omega) (by omega) _).mono ?_
            rintro e W4 ⟨rfl, b4⟩
            have hown4 := owns_below hown3 b4
            have hbw4 := hbw3.trans (b4.mono hsz3)
            have hsz4 := hbw4.size
            have hcx4 := row_cell (hrow.keep hrow.1 hbw4) (j := 0) (by omega) HX.out
            have hcd4 := row_cell (hrow2.keep hrow2.1 hbw4) (j := 0) (by omega) HD.out
            go_wp2_with (first
              | (at_builtin; refine wpList_append_own _ rfl _ _ 28 rfl w2.heap.size 21 i0 (.int .i32 0) 1 4 Try.underlying28 hi hz0 hz1 hz2 rfl (by decide) _ _ _ rfl (hown4.alloc _) ⟨W4.heap.size, 0, none⟩ 2 2 [.int .i32 (83), .int .i32 ( 115)] rfl rfl (by exact cell_two_new W4 _ _ 21) (by intro u hu; simp at hu; rcases hu with rfl | rfl <;> rfl) (by unfold maxLen; omega) (by omega) (by simp; omega) ?_)
              | go_in)
            intro v' w1 hown' hgrow hiff
            have hbw9 := below_grown (hbw4.alloc hsz4 _) (hown4.alloc _) hgrow (by simp; omega) (Nat.le_refl _)
            have HT : Hid (titleC (aheadAt false l 0) 223 (l.drop (0 + 1)) = [83, 115]) := by
              show _ = _
              simp [titleC, aheadAt, hlx]
            have R := title_rel (l := l) (k := 0) (by omega) HX.out HT.out HR.out hown'
            clear hiff hown' hgrow
            go_wp2
            go_roundw
            case rel => exact ⟨_, _, by omega, by go_num, R.1, hbw9, R.2, by have h7 := HAL.out; first | (simp; omega) | (simp [h7])⟩
            case measure => simp [intOf]; omega
          | succ m =>
            obtain ⟨p, hp⟩ : ∃ p, p = l.getD m 0 := ⟨_, rfl⟩
            have hpb := valid_bd (valid_getD hrv (j := m) (by omega))
            rw [← hp] at hpb
            have HP : Hid _ := hp
            clear hp
            have HA : Hid (aheadAt false l (m + 1) = letterB p) := by
              show _ = _
              rw [HP.out]
              rfl
            by_cases hlp : letterB p = true
            · go_wp2_with fail
              refine (rletter_any _ (by omega) (by omega) _).mono ?_
              rintro e W4 ⟨rfl, b4⟩
              have hown4 := owns_below hown3 b4
              have hbw4 := hbw3.trans (b4.mono hsz3)
              have hsz4 := hbw4.size
              have hcx4 := row_cell (hrow.keep hrow.1 hbw4) (j := m + 1) (by omega) HX.out
              have hcd4 := row_cell (hrow2.keep hrow2.1 hbw4) (j := m + 1) (by omega) HD.out
              have hcp4 := row_cell (hrow.keep hrow.1 hbw4) (j := m) (by omega) HP.out
              go_wp2_with fail
              refine (rletter_any p (by omega) (by omega) _).mono ?_
              rintro e W5 ⟨rfl, b5⟩
              have hown5 := owns_below hown4 b5
              have hbw5 := hbw4.trans (b5.mono hsz4)
              have hsz5 := hbw5.size
              have hcx5 := row_cell (hrow.keep hrow.1 hbw5) (j := m + 1) (by omega) HX.out
              have hcd5 := row_cell (hrow2.keep hrow2.1 hbw5) (j := m + 1) (by omega) HD.out
              go_wp2_with (first
                | (at_builtin; refine wpList_append_own _ rfl _ _ 28 rfl w2.heap.size 21 i0 (.int .i32 0) 1 4 Try.underlying28 hi hz0 hz1 hz2 rfl (by decide) _ _ _ rfl (hown5.alloc _) ⟨W5.heap.size, 0, none⟩ 1 1 [.int .i32 (d)] rfl rfl (by exact cell_one W5 _ 21) (by intro u hu; simp at hu; subst hu; rfl) (by unfold maxLen; omega) (by omega) (by simp; omega) ?_)
                | go_in)
              intro v' w1 hown' hgrow hiff
              have hbw9 := below_grown (hbw5.alloc hsz5 _) (hown5.alloc _) hgrow (by simp; omega) (Nat.le_refl _)
              have HT : Hid (titleC (aheadAt false l (m + 1)) 223 (l.drop ((m + 1) + 1)) = [d]) := by
                show _ = _
                have h1 := HDV.out; rw [HA.out, hlp] at h1 ⊢; simp [titleC, hlx, h1]
              have R := title_rel (l := l) (k := (m + 1)) (by omega) HX.out HT.out HR.out hown'
              clear hiff hown' hgrow
              go_wp2
              go_roundw
              case rel => exact ⟨_, _, by omega, by go_num, R.1, hbw9, R.2, by have h7 := HAL.out; first | (simp; omega) | (simp [h7])⟩
              case measure => simp [intOf]; omega
            · have hlp0 : letterB p = false := by simpa using hlp
              clear hlp
              go_wp2_with fail
              refine (rletter_any _ (by omega) (by omega) _).mono ?_
              rintro e W4 ⟨rfl, b4⟩
              have hown4 := owns_below hown3 b4
              have hbw4 := hbw3.trans (b4.mono hsz3)
              have hsz4 := hbw4.size
              have hcx4 := row_cell (hrow.keep hrow.1 hbw4) (j := m + 1) (by omega) HX.out
              have hcd4 := row_cell (hrow2.keep hrow2.1 hbw4) (j := m + 1) (by omega) HD.out
              have hcp4 := row_cell (hrow.keep hrow.1 hbw4) (j := m) (by omega) HP.out
              go_wp2_with fail
              refine (rletter_any p (by omega) (by omega) _).mono ?_
              rintro e W5 ⟨rfl, b5⟩
              have hown5 := owns_below hown4 b5
              have hbw5 := hbw4.trans (b5.mono hsz4)
              have hsz5 := hbw5.size
              have hcx5 := row_cell (hrow.keep hrow.1 hbw5) (j := m + 1) (by omega) HX.out
              have hcd5 := row_cell (hrow2.keep hrow2.1 hbw5) (j := m + 1) (by omega) HD.out
              go_wp2_with (first
                | (at_builtin; refine wpList_append_own _ rfl _ _ 28 rfl w2.heap.size 21 i0 (.int .i32 0) 1 4 Try.underlying28 hi hz0 hz1 hz2 rfl (by decide) _ _ _ rfl (hown5.alloc _) ⟨W5.heap.size, 0, none⟩ 2 2 [.int .i32 (83), .int .i32 ( 115)] rfl rfl (by exact cell_two_new W5 _ _ 21) (by intro u hu; simp at hu; rcases hu with rfl | rfl <;> rfl) (by unfold maxLen; omega) (by omega) (by simp; omega) ?_)
                | go_in)
              intro v' w1 hown' hgrow hiff
              have hbw9 := below_grown (hbw5.alloc hsz5 _) (hown5.alloc _) hgrow (by simp; omega) (Nat.le_refl _)
              have HT : Hid (titleC (aheadAt false l (m + 1)) 223 (l.drop ((m + 1) + 1)) = [83, 115]) := by
                show _ = _
                rw [HA.out, hlp0]; simp [titleC, hlx]
              have R := title_rel (l := l) (k := (m + 1)) (by omega) HX.out HT.out HR.out hown'
              clear hiff hown' hgrow
              go_wp2
              go_roundw
              case rel => exact ⟨_, _, by omega, by go_num, R.1, hbw9, R.2, by have h7 := HAL.out; first | (simp; omega) | (simp [h7])⟩
              case measure => simp [intOf]; omega
        · have q : (x == 223) = false := by simp [h223]
          have H223 : Hid (¬ x = 223) := h223
          clear h223
          cases k with
          | zero =>
            go_wp2_with fail
            refine (rletter_any _ (by omega) (by omega) _).mono ?_
            rintro e W4 ⟨rfl, b4⟩
            have hown4 := owns_below hown3 b4
            have hbw4 := hbw3.trans (b4.mono hsz3)
            have hsz4 := hbw4.size
            have hcx4 := row_cell (hrow.keep hrow.1 hbw4) (j := 0) (by omega) HX.out
            have hcd4 := row_cell (hrow2.keep hrow2.1 hbw4) (j := 0) (by omega) HD.out
            go_wp2_with (first
              | (at_builtin; refine wpList_append_own _ rfl _ _ 28 rfl w2.heap.size 21 i0 (.int .i32 0) 1 4 Try.underlying28 hi hz0 hz1 hz2 rfl (by decide) _ _ _ rfl (hown4.alloc _) ⟨W4.heap.size, 0, none⟩ 1 1 [.int .i32 (upZ x)] rfl rfl (by exact cell_one W4 _ 21) (by intro u hu; simp at hu; subst hu; rfl) (by unfold maxLen; omega) (by omega) (by simp; omega) ?_)
              | (go_at_call 10; refine (rup_any _ _).mono ?_; rintro e w' ⟨rfl, hw⟩; have hw := hw.symm; subst hw)
              | go_in)
            intro v' w1 hown' hgrow hiff
            have hbw9 := below_grown (hbw4.alloc hsz4 _) (hown4.alloc _) hgrow (by simp; omega) (Nat.le_refl _)
            have HT : Hid (titleC (aheadAt false l 0) x (l.drop (0 + 1)) = [upZ x]) := by
              show _ = _
              have h9 := H223.out; simp [titleC, aheadAt, hlx, h9]
            have R := title_rel (l := l) (k := 0) (by omega) HX.out HT.out HR.out hown'
            clear hiff hown' hgrow
            go_wp2
            go_roundw
            case rel => exact ⟨_, _, by omega, by go_num, R.1, hbw9, R.2, by have h7 := HAL.out; first | (simp; omega) | (simp [h7])⟩
            case measure => simp [intOf]; omega
          | succ m =>
            obtain ⟨p, hp⟩ : ∃ p, p = l.getD m 0 := ⟨_, rfl⟩
            have hpb := valid_bd (valid_getD hrv (j := m) (by omega))
            rw [← hp] at hpb
            have HP : Hid _ := hp
            clear hp
            have HA : Hid (aheadAt false l (m + 1) = letterB p) := by
              show _ = _
              rw [HP.out]
              rfl
            by_cases hlp : letterB p = true
            · go_wp2_with fail
              refine (rletter_any _ (by omega) (by omega) _).mono ?_
              rintro e W4 ⟨rfl, b4⟩
              have hown4 := owns_below hown3 b4
              have hbw4 := hbw3.trans (b4.mono hsz3)
              have hsz4 := hbw4.size
              have hcx4 := row_cell (hrow.keep hrow.1 hbw4) (j := m + 1) (by omega) HX.out
              have hcd4 := row_cell (hrow2.keep hrow2.1 hbw4) (j := m + 1) (by omega) HD.out
              have hcp4 := row_cell (hrow.keep hrow.1 hbw4) (j := m) (by omega) HP.out
              go_wp2_with fail
              refine (rletter_any p (by omega) (by omega) _).mono ?_
              rintro e W5 ⟨rfl, b5⟩
              have hown5 := owns_below hown4 b5
              have hbw5 := hbw4.trans (b5.mono hsz4)
              have hsz5 := hbw5.size
              have hcx5 := row_cell (hrow.keep hrow.1 hbw5) (j := m + 1) (by omega) HX.out
              have hcd5 := row_cell (hrow2.keep hrow2.1 hbw5) (j := m + 1) (by omega) HD.out
              go_wp2_with (first
                | (at_builtin; refine wpList_append_own _ rfl _ _ 28 rfl w2.heap.size 21 i0 (.int .i32 0) 1 4 Try.underlying28 hi hz0 hz1 hz2 rfl (by decide) _ _ _ rfl (hown5.alloc _) ⟨W5.heap.size, 0, none⟩ 1 1 [.int .i32 (d)] rfl rfl (by exact cell_one W5 _ 21) (by intro u hu; simp at hu; subst hu; rfl) (by unfold maxLen; omega) (by omega) (by simp; omega) ?_)
                | go_in)
              intro v' w1 hown' hgrow hiff
              have hbw9 := below_grown (hbw5.alloc hsz5 _) (hown5.alloc _) hgrow (by simp; omega) (Nat.le_refl _)
              have HT : Hid (titleC (aheadAt false l (m + 1)) x (l.drop ((m + 1) + 1)) = [d]) := by
                show _ = _
                have h1 := HDV.out; rw [HA.out, hlp] at h1 ⊢; simp [titleC, hlx, h1]
              have R := title_rel (l := l) (k := (m + 1)) (by omega) HX.out HT.out HR.out hown'
              clear hiff hown' hgrow
              go_wp2
              go_roundw
              case rel => exact ⟨_, _, by omega, by go_num, R.1, hbw9, R.2, by have h7 := HAL.out; first | (simp; omega) | (simp [h7])⟩
              case measure => simp [intOf]; omega
            · have hlp0 : letterB p = false := by simpa using hlp
              clear hlp
              go_wp2_with fail
              refine (rletter_any _ (by omega) (by omega) _).mono ?_
              rintro e W4 ⟨rfl, b4⟩
              have hown4 := owns_below hown3 b4
              have hbw4 := hbw3.trans (b4.mono hsz3)
              have hsz4 := hbw4.size
              have hcx4 := row_cell (hrow.keep hrow.1 hbw4) (j := m + 1) (by omega) HX.out
              have hcd4 := row_cell (hrow2.keep hrow2.1 hbw4) (j := m + 1) (by omega) HD.out
              have hcp4 := row_cell (hrow.keep hrow.1 hbw4) (j := m) (by omega) HP.out
              go_wp2_with fail
              refine (rletter_any p (by omega) (by omega) _).mono ?_
              rintro e W5 ⟨rfl, b5⟩
              have hown5 := owns_below hown4 b5
              have hbw5 := hbw4.trans (b5.mono hsz4)
              have hsz5 := hbw5.size
              have hcx5 := row_cell (hrow.keep hrow.1 hbw5) (j := m + 1) (by omega) HX.out
              have hcd5 := row_cell (hrow2.keep hrow2.1 hbw5) (j := m + 1) (by omega) HD.out
              go_wp2_with (first
                | (at_builtin; refine wpList_append_own _ rfl _ _ 28 rfl w2.heap.size 21 i0 (.int .i32 0) 1 4 Try.underlying28 hi hz0 hz1 hz2 rfl (by decide) _ _ _ rfl (hown5.alloc _) ⟨W5.heap.size, 0, none⟩ 1 1 [.int .i32 (upZ x)] rfl rfl (by exact cell_one W5 _ 21) (by intro u hu; simp at hu; subst hu; rfl) (by unfold maxLen; omega) (by omega) (by simp; omega) ?_)
                | (go_at_call 10; refine (rup_any _ _).mono ?_; rintro e w' ⟨rfl, hw⟩; have hw := hw.symm; subst hw)
                | go_in)
              intro v' w1 hown' hgrow hiff
              have hbw9 := below_grown (hbw5.alloc hsz5 _) (hown5.alloc _) hgrow (by simp; omega) (Nat.le_refl _)
              have HT : Hid (titleC (aheadAt false l (m + 1)) x (l.drop ((m + 1) + 1)) = [upZ x]) := by
                show _ = _
                have h9 := H223.out; rw [HA.out, hlp0]; simp [titleC, hlx, h9]
              have R := title_rel (l := l) (k := (m + 1)) (by omega) HX.out HT.out HR.out hown'
              clear hiff hown' hgrow
              go_wp2
              go_roundw
              case rel => exact ⟨_, _, by omega, by go_num, R.1, hbw9, R.2, by have h7 := HAL.out; first | (simp; omega) | (simp [h7])⟩
              case measure => simp [intOf]; omega
      · have hlx0 : letterB x = false := by simpa using hlx
        clear hlx
        go_wp2_with fail
        refine (rletter_any _ (by omega) (by omega) _).mono ?_
        rintro e W4 ⟨rfl, b4⟩
        have hown4 := owns_below hown3 b4
        have hbw4 := hbw3.trans (b4.mono hsz3)
        have hsz4 := hbw4.size
        have hcx4 := row_cell (hrow.keep hrow.1 hbw4) (j := k) (by omega) HX.out
        have hcd4 := row_cell (hrow2.keep hrow2.1 hbw4) (j := k) (by omega) HD.out
        go_wp2_with (first
          | (at_builtin; refine wpList_append_own _ rfl _ _ 28 rfl w2.heap.size 21 i0 (.int .i32 0) 1 4 Try.underlying28 hi hz0 hz1 hz2 rfl (by decide) _ _ _ rfl (hown4.alloc _) ⟨W4.heap.size, 0, none⟩ 1 1 [.int .i32 (d)] rfl rfl (by exact cell_one W4 _ 21) (by intro u hu; simp at hu; subst hu; rfl) (by unfold maxLen; omega) (by omega) (by simp; omega) ?_)
          | go_in)
        intro v' w1 hown' hgrow hiff
        have hbw9 := below_grown (hbw4.alloc hsz4 _) (hown4.alloc _) hgrow (by simp; omega) (Nat.le_refl _)
        have HT : Hid (titleC (aheadAt false l k) x (l.drop (k + 1)) = [d]) := by
          show _ = _
          have h1 := HDV.out; rw [plain_down x _ _ (by omega) (by omega) hlx0] at h1; simp [titleC, hlx0, h1]
        have R := title_rel (l := l) (k := k) (by omega) HX.out HT.out HR.out hown'
        clear hiff hown' hgrow
        go_wp2
        go_roundw
        case rel => exact ⟨_, _, by omega, by go_num, R.1, hbw9, R.2, by have h7 := HAL.out; first | (simp; omega) | (simp [h7])⟩
        case measure => simp [intOf]; omega
    · have e : k = l.length := by omega
      have hr := HR.out
      have e0 : ∀ b, titleL b [] = [] := fun _ => rfl
      rw [List.drop_eq_nil_of_le (by omega), e0, List.append_nil] at hr
      subst hr
      have hcv := convert_row hown3 (titleL_valid l false hrv)
      have HF : Hid (encs (titleL false l) = titlecase s.data.toList) := by
        show _ = _
        rw [HL.out]
        rfl
      clear e e0
      go_wp2
      go_ret
      exact ⟨retS (by rw [HF.out]), hB2.trans (hbw3.mono hB2.size)⟩
end Go.Proofs.Ytmoakjonlfilgaa
