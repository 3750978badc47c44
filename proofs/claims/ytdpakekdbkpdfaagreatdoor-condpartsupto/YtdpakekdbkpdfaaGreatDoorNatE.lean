/- Walks of the sums that are asked for, of the comparison, and of the fixed fact. -/
import Derived.Test.YtdpakekdbkpdfaaGreatDoorNatD
namespace Go.Proofs.YtdpakekdbkpdfaaGreatDoor
open Go.RowKit
set_option linter.unusedVariables false
set_option linter.unusedSimpArgs false

/-- A call's answer is a row of its own that reads as these words; what was there yg. -/
def Row1 (w : World) (l : List Nat) (e : Ending) (w' : World) : Prop :=
  ∃ ro rc, e = .returned (.slice ro l.length rc) ∧ Own w.heap.size w' ro rc l ∧ Below w.heap.size w w'
/-- .. and an error's number beside it. -/
def Ans (w : World) (r : List Nat × Int) (e : Ending) (w' : World) : Prop :=
  ∃ ro rc, e = .returned (.tuple #[.slice ro r.1.length rc, .int .i64 r.2]) ∧ Own w.heap.size w' ro rc r.1 ∧ Below w.heap.size w w'
theorem Ans.intro {w : World} {l : List Nat} {k : Int} {w' : World} {ro : Option Addr} {rc : Nat} (ho : Own w.heap.size w' ro rc l) (hb : Below w.heap.size w w') :
    Ans w (l, k) (.returned (.tuple #[.slice ro l.length rc, .int .i64 k])) w' := ⟨ro, rc, rfl, ho, hb⟩

def fitS (n : Nat) : List Nat × Int := if (words n).length ≤ 512 then (words n, 0) else ([], 4)
def addS (a b : List Nat) : List Nat × Int := if sound a && sound b then fitS (val a + val b) else ([], 2)
def mulS (a b : List Nat) : List Nat × Int := if sound a && sound b then fitS (val a * val b) else ([], 2)
theorem sound_words {l : List Nat} (hd : Dig l) (h : sound l = true) : l = words (val l) ∧ l.length ≤ 512 := by
  obtain ⟨h1, h2⟩ := (sound_iff l).1 h
  exact ⟨(words_of hd h2).symm, h1⟩
theorem words_sound {x : Nat} (h : (words x).length ≤ 512) : sound (words x) = true := (sound_iff _).2 ⟨h, words_top x⟩

theorem words_add_length {x y k : Nat} (hx : (words x).length ≤ k) (hy : (words y).length ≤ k) : (words (x + y)).length ≤ k + 1 := by
  apply words_length_le
  have := words_length_iff.1 hx
  have := words_length_iff.1 hy
  have e : pw (k + 1) = 4294967296 * pw k := pw_succ k
  omega
theorem words_mul_length {x y k m : Nat} (hx : (words x).length ≤ k) (hy : (words y).length ≤ m) : (words (x * y)).length ≤ k + m := by
  apply words_length_le
  rw [pw_add]
  exact Nat.mul_lt_mul'' (words_length_iff.1 hx) (words_length_iff.1 hy)

set_option maxHeartbeats 1000000 in
set_option maxRecDepth 1000000 in
theorem rword_any {w : World} {ao : Option Addr} {l : List Nat} (cap k : Nat) (h : Rd w ao l) :
    Calls Tryz.prog 181 #[.slice ao l.length cap, .int .i64 (k : Int)] w fun e w' => e = .returned (.int .u64 ((l.getD k 0 : Nat) : Int)) ∧ w' = w := by
  by_cases hk : k < l.length
  · have hne : l ≠ [] := by intro e; subst e; simp at hk
    obtain ⟨b, off, rfl, hb, hc⟩ := h.pos hne
    have hcell := hc k hk
    have hx := h.dig.getD k
    generalize l.getD k 0 = x at *
    clear hc h hne
    go_enter Tryz.func181, Tryz.ntmps181
    go_wp2
    go_ret
    exact ⟨rfl, rfl⟩
  · have e : l.getD k 0 = 0 := by simp [List.getElem?_eq_none (by omega : l.length ≤ k)]
    rw [e]
    clear e h
    go_enter Tryz.func181, Tryz.ntmps181
    go_wp2
    go_ret
    exact ⟨rfl, rfl⟩

set_option maxHeartbeats 1000000 in
set_option maxRecDepth 1000000 in
theorem same_any {w : World} {ao bo : Option Addr} {l : List Nat} (ca cb : Nat) (ha : Rd w ao l) (hb : Rd w bo l) (hl : l.length ≤ 9223372036854775807) :
    Calls Tryz.prog 101 #[.slice ao l.length ca, .slice bo l.length cb] w fun e w' => e = .returned (.bool true) ∧ Below w.heap.size w w' := by
  obtain ⟨n, HN⟩ : ∃ n, Hid (l.length = n) := ⟨_, rfl⟩
  rw [HN.out] at hl ⊢
  go_enter Tryz.func101, Tryz.ntmps101
  go_wp2
  go_loopw [5] (fun v wr => Below w.heap.size w wr ∧ ∃ k : Nat, k ≤ n ∧ v = .int .i64 (k : Int)) (fun v _ => n - (intOf v).toNat)
  case atStart => exact ⟨Below.refl _ _, 0, Nat.zero_le _, rfl⟩
  case round =>
    obtain ⟨hbw, k, hk, rfl⟩ := hrel
    by_cases hkn : k < n
    · have ha' := ha.below hbw
      have hb' := hb.below hbw
      have hne : l ≠ [] := by intro e; have := HN.out; rw [e] at this; simp at this; omega
      obtain ⟨b1, o1, rfl, _, hc1⟩ := ha'.pos hne
      obtain ⟨b2, o2, rfl, _, hc2⟩ := hb'.pos hne
      have c1 := hc1 k (by rw [HN.out]; omega)
      have c2 := hc2 k (by rw [HN.out]; omega)
      generalize l.getD k 0 = p at *
      clear hc1 hc2 ha hb ha' hb' hne
      go_wp2
      go_region
      go_wp2
      go_roundw
      case rel => exact ⟨hbw.drew, k + 1, by omega, by go_num⟩
      case measure => simp [intOf]; omega
    · go_wp2
      go_ret
      exact ⟨rfl, hbw⟩

theorem Rd.lit1 (w : World) (x : Nat) (hx : x < 4294967296) : Rd (w.alloc (.cells #[.int .u32 (x : Int)] 117)) (some ⟨w.heap.size, 0, none⟩) [x] := by
  refine ⟨by simp [Dig]; exact hx, fun _ => ⟨w.heap.size, 0, rfl, by simp, fun j hj => ?_⟩⟩
  have : j = 0 := by simp at hj; exact hj
  subst this
  simp
theorem awake_sum : addS [4294967295] [1] = ([0, 1], 0) := by
  have e : words 4294967296 = [0, 1] := words_of (l := [0, 1]) (by simp [Dig]) (.inr (by simp))
  have e2 : val [4294967295] + val [1] = 4294967296 := rfl
  have e3 : (sound [4294967295] && sound [1]) = true := by decide
  unfold addS fitS
  rw [e3, e2, e]
  rfl
end Go.Proofs.YtdpakekdbkpdfaaGreatDoor
