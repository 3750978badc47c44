/- NatN -/
import Derived.Test.YtclkfideaameoaaGreatDoorNatH
import Derived.Test.YtclkfideaameoaaGreatDoorShelf
import Derived.Test.YtclkfideaameoaaGreatDoorBitLen
import Derived.Test.YtclkfideaameoaaGreatDoorBits
namespace Go.Proofs.YtclkfideaameoaaGreatDoor
open Go.RowKit
set_option linter.unusedVariables false
set_option linter.unusedSimpArgs false

theorem len32_any (x : Nat) (w : World) (h : x < 4294967296) : Calls Tryz.prog 184 #[.int .u32 (x : Int)] w fun e w' => e = .returned (.int .i64 ((bl x : Nat) : Int)) ∧ w' = w := by
  refine (Tryz.bits_Len32 (x : Int) w (by omega) (by omega)).mono ?_
  rintro e w' ⟨rfl, rfl⟩
  rw [Int.toNat_natCast, bitLen_bl x (by omega)]
  exact ⟨rfl, rfl⟩

set_option maxHeartbeats 1000000 in
set_option maxRecDepth 1000000 in
theorem wbits_any {w : World} {ao : Option Addr} {x : Nat} (cap : Nat) (h : Rd w ao (words x)) (hl : (words x).length ≤ 1000000) :
    Calls Tryz.prog 171 #[.slice ao (words x).length cap] w fun e w' => e = .returned (.int .i64 ((bl x : Nat) : Int)) ∧ w' = w := by
  by_cases h0 : (words x).length = 0
  · have hx : x = 0 := words_eq_nil.1 (List.length_eq_zero_iff.1 h0)
    subst hx
    have hb : bl 0 = 0 := rfl
    rw [hb]
    rw [h0]
    clear h hl h0 hb
    go_enter Tryz.func171, Tryz.ntmps171
    go_wp2
    go_ret
    exact ⟨rfl, rfl⟩
  · obtain ⟨b, off, rfl, hc⟩ := last_cell h h0
    have hbl := bl_words (x := x) (fun e => h0 (by rw [e, words_zero]; rfl))
    have hx := (words_dig x).getD ((words x).length - 1)
    generalize (words x).getD ((words x).length - 1) 0 = d at *
    have c2 := len32_any d w hx
    rw [hbl]
    have hbd : bl d ≤ 32 := bl_le.2 hx
    generalize bl d = q at *
    generalize (words x).length = n at *
    have h1 : ((n : Int) == 0) = false := by simp; omega
    clear hbl h
    go_enter Tryz.func171, Tryz.ntmps171
    go_wp2_with fail
    refine c2.mono ?_
    rintro e w' ⟨rfl, rfl⟩
    go_wp2
    go_ret
    exact ⟨retI (by omega), rfl⟩

theorem Own.lit2 (w : World) (x y : Nat) (hx : x < 4294967296) (hy : y < 4294967296) : Own w.heap.size (w.alloc (.cells #[.int .u32 (x : Int), .int .u32 (y : Int)] 99)) (some ⟨w.heap.size, 0, none⟩) 2 [x, y] :=
  ⟨by simp [Dig]; omega, World.ownsRow_lit (e := 99) (size := 1) w #[.int .u32 (x : Int), .int .u32 (y : Int)] 2 (Nat.le_refl _) (by unfold maxLen; omega) rfl⟩

set_option maxHeartbeats 1000000 in
set_option maxRecDepth 1000000 in
theorem wof_any (n : Nat) (w : World) (hn : n < 18446744073709551616) :
    Calls Tryz.prog 111 #[.int .u64 (n : Int)] w (Row1 w (words n)) := by
  have ho := Own.lit2 w (n % 4294967296) (n / 4294967296) (Nat.mod_lt _ (by omega)) (by omega)
  have hv : val [n % 4294967296, n / 4294967296] = n := by simp [val]; omega
  have c1 := trim_any ho (by simp)
  rw [hv] at c1
  have HB : Hid (Below w.heap.size w (w.alloc (.cells #[.int .u32 ((n % 4294967296 : Nat) : Int), .int .u32 ((n / 4294967296 : Nat) : Int)] 99))) := (Below.refl _ _).alloc (Nat.le_refl _) _
  have HC : Hid _ := c1
  clear ho hv c1
  go_enter Tryz.func111, Tryz.ntmps111
  go_wp2_with fail
  refine Calls.mono HC.out ?_
  rintro e w' ⟨rfl, ho, rfl⟩
  have HO : Hid _ := ho
  clear ho
  go_wp2
  go_ret
  exact ⟨_, _, rfl, HO.out, HB.out⟩

set_option maxHeartbeats 1000000 in
set_option maxRecDepth 1000000 in
theorem of_any (n : Nat) (w : World) (hn : n < 18446744073709551616) :
    Calls Tryz.prog 80 #[.int .u64 (n : Int)] w (Row1 w (words n)) := by
  have HC : Hid _ := wof_any n w hn
  go_enter Tryz.func80, Tryz.ntmps80
  go_wp2_with fail
  refine Calls.mono HC.out ?_
  rintro e w' ⟨ro, rc, rfl, ho, hb⟩
  have HO : Hid _ := ho
  have HB : Hid _ := hb
  clear ho hb
  go_wp2
  go_ret
  exact ⟨_, _, rfl, HO.out, HB.out⟩

end Go.Proofs.YtclkfideaameoaaGreatDoor
