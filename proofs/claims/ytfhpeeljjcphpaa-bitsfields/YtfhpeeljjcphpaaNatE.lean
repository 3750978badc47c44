/- Walks of the sums that are asked for, of the comparison, and of the fixed fact. -/
import Derived.Test.YtfhpeeljjcphpaaNatD
namespace Go.Proofs.Ytfhpeeljjcphpaa
open Go.RowKit
set_option linter.unusedVariables false
set_option linter.unusedSimpArgs false

/-- A call's answer is a row of its own that reads as these words; what was there stays. -/
def Row1 (w : World) (l : List Nat) (e : Ending) (w' : World) : Prop :=
  ∃ ro rc, e = .returned (.slice ro l.length rc) ∧ Own w.heap.size w' ro rc l ∧ Below w.heap.size w w'
/-- .. and an error's number beside it. -/
def Ans (w : World) (r : List Nat × Int) (e : Ending) (w' : World) : Prop :=
  ∃ ro rc, e = .returned (.tuple #[.slice ro r.1.length rc, .int .i64 r.2]) ∧ Own w.heap.size w' ro rc r.1 ∧ Below w.heap.size w w'
theorem Ans.intro {w : World} {l : List Nat} {k : Int} {w' : World} {ro : Option Addr} {rc : Nat} (ho : Own w.heap.size w' ro rc l) (hb : Below w.heap.size w w') :
    Ans w (l, k) (.returned (.tuple #[.slice ro l.length rc, .int .i64 k])) w' := ⟨ro, rc, rfl, ho, hb⟩

def fitS (n : Nat) : List Nat × Int := if (words n).length ≤ 512 then (words n, 0) else ([], 4)
def addS (a b : List Nat) : List Nat × Int := if sound a && sound b then fitS (val a + val b) else ([], 2)
def mulS (a b : List Nat) : List Nat × Int := if sound a && sound b then fitS (val a * val b) else ([], 2)
theorem sound_words {l : List Nat} (hd : Dig l) (h : sound l = true) : l = words (val l) ∧ l.length ≤ 512 := by
  obtain ⟨h1, h2⟩ := (sound_iff l).1 h
  exact ⟨(words_of hd h2).symm, h1⟩
theorem words_sound {x : Nat} (h : (words x).length ≤ 512) : sound (words x) = true := (sound_iff _).2 ⟨h, words_top x⟩

theorem fit_own {B : Nat} {w : World} {ro : Option Addr} {rc n : Nat} (ho : Own B w ro rc (words n)) (hn : (words n).length ≤ 1000000) :
    Calls Try.prog 64 #[.slice ro (words n).length rc] w fun e w' => ∃ so sc, e = .returned (.tuple #[.slice so (fitS n).1.length sc, .int .i64 (fitS n).2]) ∧ Own B w' so sc (fitS n).1 ∧ w' = w := by
  refine (fit_any w ro (words n).length rc hn).mono ?_
  rintro e w' ⟨rfl, rfl⟩
  unfold fitS
  by_cases h : (words n).length ≤ 512
  · simp only [h, if_true]
    exact ⟨ro, rc, rfl, ho, trivial⟩
  · simp only [h, if_false]
    exact ⟨none, 0, rfl, Own.nil _ _, trivial⟩
theorem words_add_length {x y k : Nat} (hx : (words x).length ≤ k) (hy : (words y).length ≤ k) : (words (x + y)).length ≤ k + 1 := by
  apply words_length_le
  have := words_length_iff.1 hx
  have := words_length_iff.1 hy
  have e : pw (k + 1) = 4294967296 * pw k := pw_succ k
  omega
theorem words_mul_length {x y k m : Nat} (hx : (words x).length ≤ k) (hy : (words y).length ≤ m) : (words (x * y)).length ≤ k + m := by
  apply words_length_le
  rw [pw_add]
  exact Nat.mul_lt_mul'' (words_length_iff.1 hx) (words_length_iff.1 hy)

set_option maxHeartbeats 1000000 in
set_option maxRecDepth 1000000 in
theorem rword_any {w : World} {ao : Option Addr} {l : List Nat} (cap k : Nat) (h : Rd w ao l) :
    Calls Try.prog 66 #[.slice ao l.length cap, .int .i64 (k : Int)] w fun e w' => e = .returned (.int .u64 ((l.getD k 0 : Nat) : Int)) ∧ w' = w := by
  by_cases hk : k < l.length
  · have hne : l ≠ [] := by intro e; subst e; simp at hk
    obtain ⟨b, off, rfl, hb, hc⟩ := h.pos hne
    have hcell := hc k hk
    have hx := h.dig.getD k
    generalize l.getD k 0 = x at *
    clear hc h hne
    go_enter Try.func66, Try.ntmps66
    go_wp2
    go_ret
    exact ⟨rfl, rfl⟩
  · have e : l.getD k 0 = 0 := by simp [List.getElem?_eq_none (by omega : l.length ≤ k)]
    rw [e]
    clear e h
    go_enter Try.func66, Try.ntmps66
    go_wp2
    go_ret
    exact ⟨rfl, rfl⟩

set_option maxHeartbeats 1000000 in
set_option maxRecDepth 1000000 in
theorem same_any {w : World} {ao bo : Option Addr} {l : List Nat} (ca cb : Nat) (ha : Rd w ao l) (hb : Rd w bo l) (hl : l.length ≤ 9223372036854775807) :
    Calls Try.prog 61 #[.slice ao l.length ca, .slice bo l.length cb] w fun e w' => e = .returned (.bool true) ∧ Below w.heap.size w w' := by
  obtain ⟨n, HN⟩ : ∃ n, Hid (l.length = n) := ⟨_, rfl⟩
  rw [HN.out] at hl ⊢
  go_enter Try.func61, Try.ntmps61
  go_wp2
  go_loopw [5] (fun v wr => Below w.heap.size w wr ∧ ∃ k : Nat, k ≤ n ∧ v = .int .i64 (k : Int)) (fun v _ => n - (intOf v).toNat)
  case atStart => exact ⟨Below.refl _ _, 0, Nat.zero_le _, rfl⟩
  case round =>
    obtain ⟨hbw, k, hk, rfl⟩ := hrel
    by_cases hkn : k < n
    · have ha' := ha.below hbw
      have hb' := hb.below hbw
      have hne : l ≠ [] := by intro e; have := HN.out; rw [e] at this; simp at this; omega
      obtain ⟨b1, o1, rfl, _, hc1⟩ := ha'.pos hne
      obtain ⟨b2, o2, rfl, _, hc2⟩ := hb'.pos hne
      have c1 := hc1 k (by rw [HN.out]; omega)
      have c2 := hc2 k (by rw [HN.out]; omega)
      generalize l.getD k 0 = p at *
      clear hc1 hc2 ha hb ha' hb' hne
      go_wp2
      go_region
      go_wp2
      go_roundw
      case rel => exact ⟨hbw.drew, k + 1, by omega, by go_num⟩
      case measure => simp [intOf]; omega
    · go_wp2
      go_ret
      exact ⟨rfl, hbw⟩

set_option maxHeartbeats 1000000 in
set_option maxRecDepth 1000000 in
theorem add_any {w : World} {ao bo : Option Addr} {a b : List Nat} (ca cb : Nat) (ha : Rd w ao a) (hb : Rd w bo b) (la : a.length ≤ 9223372036854775807) (lb : b.length ≤ 9223372036854775807) :
    Calls Try.prog 56 #[.slice ao a.length ca, .slice bo b.length cb] w (Ans w (addS a b)) := by
  have c1 := sound_any ca ha la
  have c2 := sound_any cb hb lb
  unfold addS
  by_cases hs : sound a = true
  · by_cases ht : sound b = true
    · obtain ⟨ea, na⟩ := sound_words ha.dig hs
      obtain ⟨eb, nb⟩ := sound_words hb.dig ht
      rw [hs] at c1 ⊢
      rw [ht] at c2 ⊢
      generalize val a = x at *
      generalize val b = y at *
      subst ea eb
      have c3 := sum_any ca cb ha hb (by omega) (by omega)
      have hlen : (words (x + y)).length ≤ 1000000 := by
        have := words_add_length na nb
        omega
      have HC3 : Hid _ := c3
      have HLE : Hid _ := hlen
      clear c3 hlen hs ht ha hb la lb
      generalize (words x).length = n at *
      generalize (words y).length = m at *
      go_enter Try.func56, Try.ntmps56
      go_wp2_with fail
      refine c1.mono ?_
      rintro e w' ⟨rfl, rfl⟩
      go_wp2_with fail
      refine c2.mono ?_
      rintro e w' ⟨rfl, rfl⟩
      go_wp2_with fail
      refine Calls.mono HC3.out ?_
      rintro e w1 ⟨ro, rc, rfl, ho, hbw⟩
      have c4 := fit_own ho HLE.out
      have HC4 : Hid _ := c4
      have HB : Hid _ := hbw
      clear ho hbw c1 c2 c4
      go_wp2_with fail
      refine Calls.mono HC4.out ?_
      rintro e w2 ⟨so, sc, rfl, ho, rfl⟩
      have HO : Hid _ := ho
      clear ho
      go_wp2
      go_ret2
      exact ⟨_, _, rfl, HO.out, HB.out⟩
    · simp only [Bool.not_eq_true] at ht
      rw [hs] at c1
      rw [ht] at c2
      rw [hs, ht]
      clear ha hb la lb hs ht
      generalize a.length = n at *
      generalize b.length = m at *
      go_enter Try.func56, Try.ntmps56
      go_wp2_with fail
      refine c1.mono ?_
      rintro e w' ⟨rfl, rfl⟩
      go_wp2_with fail
      refine c2.mono ?_
      rintro e w' ⟨rfl, rfl⟩
      go_wp2
      go_ret2
      exact Ans.intro (Own.nil _ _) (Below.refl _ _)
  · simp only [Bool.not_eq_true] at hs
    rw [hs] at c1 ⊢
    clear ha hb la lb hs c2
    generalize a.length = n at *
    generalize b.length = m at *
    go_enter Try.func56, Try.ntmps56
    go_wp2_with fail
    refine c1.mono ?_
    rintro e w' ⟨rfl, rfl⟩
    go_wp2
    go_ret2
    exact Ans.intro (Own.nil _ _) (Below.refl _ _)

theorem Rd.lit1 (w : World) (x : Nat) (hx : x < 4294967296) : Rd (w.alloc (.cells #[.int .u32 (x : Int)] 41)) (some ⟨w.heap.size, 0, none⟩) [x] := by
  refine ⟨by simp [Dig]; exact hx, fun _ => ⟨w.heap.size, 0, rfl, by simp, fun j hj => ?_⟩⟩
  have : j = 0 := by simp at hj; exact hj
  subst this
  simp
theorem awake_sum : addS [4294967295] [1] = ([0, 1], 0) := by
  have e : words 4294967296 = [0, 1] := words_of (l := [0, 1]) (by simp [Dig]) (.inr (by simp))
  have e2 : val [4294967295] + val [1] = 4294967296 := rfl
  have e3 : (sound [4294967295] && sound [1]) = true := by decide
  unfold addS fitS
  rw [e3, e2, e]
  rfl
end Go.Proofs.Ytfhpeeljjcphpaa
